/-
  The tables; the words that the checker takes for names: by runs.
-/
import Derived.Test.YtcjolamfjgdgjaaGreatDoorBel
import Derived.Test.YtcjolamfjgdgjaaGreatDoorEvRk
import Derived.Test.YtcjolamfjgdgjaaGreatDoorPick
import Derived.KernelRfl
namespace Go.Proofs.YtcjolamfjgdgjaaGreatDoor
open Go.RowKit

noncomputable def ckTabs : List (Nat × List Value) := [(1, [.string ⟨#[62, 62, 62]⟩, .string ⟨#[60, 60]⟩, .string ⟨#[62, 62]⟩, .string ⟨#[60, 61]⟩, .string ⟨#[62, 61]⟩, .string ⟨#[61, 61]⟩, .string ⟨#[33, 61]⟩]), (2, [.string ⟨#[124]⟩, .int .i64 1, .int .i64 10, .bool false, .string ⟨#[94]⟩, .int .i64 2, .int .i64 11, .bool false, .string ⟨#[38]⟩, .int .i64 3, .int .i64 9, .bool false, .string ⟨#[61, 61]⟩, .int .i64 4, .int .i64 15, .bool false, .string ⟨#[33, 61]⟩, .int .i64 4, .int .i64 16, .bool false, .string ⟨#[60]⟩, .int .i64 5, .int .i64 17, .bool false, .string ⟨#[60, 61]⟩, .int .i64 5, .int .i64 18, .bool false, .string ⟨#[62]⟩, .int .i64 5, .int .i64 17, .bool true, .string ⟨#[62, 61]⟩, .int .i64 5, .int .i64 18, .bool true, .string ⟨#[60, 60]⟩, .int .i64 6, .int .i64 12, .bool false, .string ⟨#[62, 62]⟩, .int .i64 6, .int .i64 14, .bool false, .string ⟨#[62, 62, 62]⟩, .int .i64 6, .int .i64 13, .bool false, .string ⟨#[43]⟩, .int .i64 7, .int .i64 4, .bool false, .string ⟨#[45]⟩, .int .i64 7, .int .i64 5, .bool false, .string ⟨#[42]⟩, .int .i64 8, .int .i64 6, .bool false, .string ⟨#[47]⟩, .int .i64 8, .int .i64 7, .bool false, .string ⟨#[37]⟩, .int .i64 8, .int .i64 8, .bool false]), (0, [.bool false, .bool false, .bool false, .bool false, .bool false, .bool false, .bool false, .bool false, .bool true, .bool false, .bool false, .bool false, .bool true, .bool false, .bool false, .bool false, .bool true, .bool false, .bool false, .bool true, .bool true, .bool false, .bool false, .bool false, .bool false, .bool false, .bool false, .bool false, .bool true, .bool false, .bool true, .bool true, .bool false, .bool false, .bool false, .bool false, .bool true, .bool false, .bool true, .bool false, .bool false, .bool false, .bool false, .bool false, .bool true, .bool false, .bool false, .bool false, .bool true, .bool true, .bool false, .bool false, .bool false, .bool true, .bool false, .bool false, .bool false, .bool false, .bool true, .bool false, .bool false, .bool false, .bool false, .bool false])]
noncomputable def ckNext : Nat := Tryz.prog.globals.size
noncomputable def ckBits : Nat := ckTabs.foldl (fun s x => Nat.lor s (1 <<< x.1)) 0
noncomputable def ckStart : Ev.St := ⟨Ev.startMem ckTabs, ckNext⟩
theorem ck_start : Ev.startOk ckTabs ckBits ckNext = true := by kernel_rfl
theorem ck_follows : Tryz.prog.follows .mixedOrders = true := by kernel_rfl
theorem no_count : Ev.NoCount Tryz.prog := by
  have h : (Tryz.prog.funcs.toList.all fun fn => !(fn.name == "runtime.NumGoroutine")) = true := by kernel_rfl
  intro f fn hf
  have := List.all_eq_true.1 h fn (by rw [Array.mem_toList_iff]; exact Array.mem_of_getElem? hf)
  simpa using this
def ckNames : List (List UInt8) := [[97], [99], [102], [103], [104], [105], [106], [107], [109], [110], [114], [115], [116], [120], [121], [122]]
theorem ck_names : (ckNames.all fun s => Ev.saysYes (@Ev.evCall Ev.noSyms Tryz.prog ckBits Ev.noOracle 1000000 1000000 67 [.string ⟨s.toArray⟩] ckStart)) = true := by kernel_rfl
theorem name_any : ∀ s ∈ ckNames, ∀ w : World, Ev.GlobIs ckTabs w → Calls Tryz.prog 67 #[.string ⟨s.toArray⟩] w fun e w' => e = .returned (.bool true) ∧ Below w.heap.size w w' := by
  intro s hs w hg
  letI : Ev.Syms := Ev.noSyms
  exact Ev.law_of_run ck_follows no_count ck_start (args := [.string ⟨s.toArray⟩]) rfl (List.all_eq_true.1 ck_names s hs) hg
end Go.Proofs.YtcjolamfjgdgjaaGreatDoor
