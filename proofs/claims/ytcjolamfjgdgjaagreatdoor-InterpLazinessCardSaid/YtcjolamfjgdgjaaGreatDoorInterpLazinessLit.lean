/-
  'fulling/fullinglaw6.InterpLaziness': what the reference's parser makes of its program.
-/
import Derived.Test.YtcjolamfjgdgjaaGreatDoorScanOrc
namespace Go.Proofs.YtcjolamfjgdgjaaGreatDoor
open Go.RowKit
noncomputable def interpLazinessT : List Value := [.string ⟨#[97, 114, 114, 97, 121, 32, 97, 32, 49, 59, 32, 102, 117, 110, 99, 32, 102, 40, 99, 44, 32, 120, 41, 32, 123, 32, 114, 101, 116, 117, 114, 110, 32, 99, 32, 63, 32, 120, 32, 58, 32, 120, 32, 47, 32, 48, 59, 32, 125, 32, 102, 117, 110, 99, 32, 103, 40, 99, 44, 32, 120, 41, 32, 123, 32, 114, 101, 116, 117, 114, 110, 32, 99, 32, 63, 32, 97, 91, 55, 93, 32, 58, 32, 120, 59, 32, 125, 32, 102, 117, 110, 99, 32, 104, 40, 99, 44, 32, 120, 41, 32, 123, 32, 114, 101, 116, 117, 114, 110, 32, 97, 91, 53, 93, 32, 43, 32, 120, 32, 47, 32, 48, 59, 32, 125, 32, 102, 117, 110, 99, 32, 107, 40, 99, 44, 32, 120, 41, 32, 123, 32, 114, 101, 116, 117, 114, 110, 32, 120, 32, 47, 32, 48, 32, 43, 32, 97, 91, 53, 93, 59, 32, 125]⟩]
noncomputable def interpLazinessNw : List (Nat × Ev.Blk) := [(12, ⟨[.string ⟨#[97]⟩, .int .i64 1], false, 2, none⟩),
  (21, ⟨[.string ⟨#[99]⟩, .string ⟨#[120]⟩], false, 1, none⟩),
  (86, ⟨[.int .i64 2, .int .i64 0, .string ⟨#[120]⟩, .int .i64 0, .slice none 0 0, .int .i64 1, .int .i64 0, .string ⟨#[]⟩, .int .i64 0, .slice none 0 0], false, 5, none⟩),
  (96, ⟨[.int .i64 2, .int .i64 0, .string ⟨#[99]⟩, .int .i64 0, .slice none 0 0, .int .i64 2, .int .i64 0, .string ⟨#[120]⟩, .int .i64 0, .slice none 0 0, .int .i64 4, .int .i64 0, .string ⟨#[]⟩, .int .i64 7, .slice (some ⟨86, 0, none⟩) 2 2], false, 5, none⟩),
  (107, ⟨[.string ⟨#[99]⟩, .string ⟨#[120]⟩], false, 1, none⟩),
  (166, ⟨[.int .i64 1, .int .i64 7, .string ⟨#[]⟩, .int .i64 0, .slice none 0 0], false, 5, none⟩),
  (200, ⟨[.int .i64 2, .int .i64 0, .string ⟨#[99]⟩, .int .i64 0, .slice none 0 0, .int .i64 3, .int .i64 0, .string ⟨#[97]⟩, .int .i64 0, .slice (some ⟨166, 0, none⟩) 1 1, .int .i64 2, .int .i64 0, .string ⟨#[120]⟩, .int .i64 0, .slice none 0 0], false, 5, none⟩),
  (211, ⟨[.string ⟨#[99]⟩, .string ⟨#[120]⟩], false, 1, none⟩),
  (248, ⟨[.int .i64 1, .int .i64 5, .string ⟨#[]⟩, .int .i64 0, .slice none 0 0], false, 5, none⟩),
  (262, ⟨[.int .i64 2, .int .i64 0, .string ⟨#[120]⟩, .int .i64 0, .slice none 0 0, .int .i64 1, .int .i64 0, .string ⟨#[]⟩, .int .i64 0, .slice none 0 0], false, 5, none⟩),
  (264, ⟨[.int .i64 3, .int .i64 0, .string ⟨#[97]⟩, .int .i64 0, .slice (some ⟨248, 0, none⟩) 1 1, .int .i64 4, .int .i64 0, .string ⟨#[]⟩, .int .i64 7, .slice (some ⟨262, 0, none⟩) 2 2], false, 5, none⟩),
  (282, ⟨[.string ⟨#[99]⟩, .string ⟨#[120]⟩], false, 1, none⟩),
  (302, ⟨[.int .i64 2, .int .i64 0, .string ⟨#[120]⟩, .int .i64 0, .slice none 0 0, .int .i64 1, .int .i64 0, .string ⟨#[]⟩, .int .i64 0, .slice none 0 0], false, 5, none⟩),
  (332, ⟨[.int .i64 1, .int .i64 5, .string ⟨#[]⟩, .int .i64 0, .slice none 0 0], false, 5, none⟩),
  (335, ⟨[.int .i64 4, .int .i64 0, .string ⟨#[]⟩, .int .i64 7, .slice (some ⟨302, 0, none⟩) 2 2, .int .i64 3, .int .i64 0, .string ⟨#[97]⟩, .int .i64 0, .slice (some ⟨332, 0, none⟩) 1 1], false, 5, none⟩),
  (344, ⟨[.string ⟨#[102]⟩, .slice (some ⟨21, 0, none⟩) 2 Ev.ucap, .slice none 0 0, .slice none 0 0, .int .i64 5, .int .i64 0, .string ⟨#[]⟩, .int .i64 0, .slice (some ⟨96, 0, none⟩) 3 3, .string ⟨#[103]⟩, .slice (some ⟨107, 0, none⟩) 2 Ev.ucap, .slice none 0 0, .slice none 0 0, .int .i64 5, .int .i64 0, .string ⟨#[]⟩, .int .i64 0, .slice (some ⟨200, 0, none⟩) 3 3, .string ⟨#[104]⟩, .slice (some ⟨211, 0, none⟩) 2 Ev.ucap, .slice none 0 0, .slice none 0 0, .int .i64 4, .int .i64 0, .string ⟨#[]⟩, .int .i64 4, .slice (some ⟨264, 0, none⟩) 2 2, .string ⟨#[107]⟩, .slice (some ⟨282, 0, none⟩) 2 Ev.ucap, .slice none 0 0, .slice none 0 0, .int .i64 4, .int .i64 0, .string ⟨#[]⟩, .int .i64 4, .slice (some ⟨335, 0, none⟩) 2 2], false, 9, none⟩)]
noncomputable def interpLazinessRo : List (Nat × Ev.Blk) := ([(12, ⟨[.string ⟨#[97]⟩, .int .i64 1], false, 2, none⟩),
  (21, ⟨[.string ⟨#[99]⟩, .string ⟨#[120]⟩], false, 1, none⟩),
  (86, ⟨[.int .i64 2, .int .i64 0, .string ⟨#[120]⟩, .int .i64 0, .slice none 0 0, .int .i64 1, .int .i64 0, .string ⟨#[]⟩, .int .i64 0, .slice none 0 0], false, 5, none⟩),
  (96, ⟨[.int .i64 2, .int .i64 0, .string ⟨#[99]⟩, .int .i64 0, .slice none 0 0, .int .i64 2, .int .i64 0, .string ⟨#[120]⟩, .int .i64 0, .slice none 0 0, .int .i64 4, .int .i64 0, .string ⟨#[]⟩, .int .i64 7, .slice (some ⟨86, 0, none⟩) 2 2], false, 5, none⟩),
  (107, ⟨[.string ⟨#[99]⟩, .string ⟨#[120]⟩], false, 1, none⟩),
  (166, ⟨[.int .i64 1, .int .i64 7, .string ⟨#[]⟩, .int .i64 0, .slice none 0 0], false, 5, none⟩),
  (200, ⟨[.int .i64 2, .int .i64 0, .string ⟨#[99]⟩, .int .i64 0, .slice none 0 0, .int .i64 3, .int .i64 0, .string ⟨#[97]⟩, .int .i64 0, .slice (some ⟨166, 0, none⟩) 1 1, .int .i64 2, .int .i64 0, .string ⟨#[120]⟩, .int .i64 0, .slice none 0 0], false, 5, none⟩),
  (211, ⟨[.string ⟨#[99]⟩, .string ⟨#[120]⟩], false, 1, none⟩),
  (248, ⟨[.int .i64 1, .int .i64 5, .string ⟨#[]⟩, .int .i64 0, .slice none 0 0], false, 5, none⟩),
  (262, ⟨[.int .i64 2, .int .i64 0, .string ⟨#[120]⟩, .int .i64 0, .slice none 0 0, .int .i64 1, .int .i64 0, .string ⟨#[]⟩, .int .i64 0, .slice none 0 0], false, 5, none⟩),
  (264, ⟨[.int .i64 3, .int .i64 0, .string ⟨#[97]⟩, .int .i64 0, .slice (some ⟨248, 0, none⟩) 1 1, .int .i64 4, .int .i64 0, .string ⟨#[]⟩, .int .i64 7, .slice (some ⟨262, 0, none⟩) 2 2], false, 5, none⟩),
  (282, ⟨[.string ⟨#[99]⟩, .string ⟨#[120]⟩], false, 1, none⟩),
  (302, ⟨[.int .i64 2, .int .i64 0, .string ⟨#[120]⟩, .int .i64 0, .slice none 0 0, .int .i64 1, .int .i64 0, .string ⟨#[]⟩, .int .i64 0, .slice none 0 0], false, 5, none⟩),
  (332, ⟨[.int .i64 1, .int .i64 5, .string ⟨#[]⟩, .int .i64 0, .slice none 0 0], false, 5, none⟩),
  (335, ⟨[.int .i64 4, .int .i64 0, .string ⟨#[]⟩, .int .i64 7, .slice (some ⟨302, 0, none⟩) 2 2, .int .i64 3, .int .i64 0, .string ⟨#[97]⟩, .int .i64 0, .slice (some ⟨332, 0, none⟩) 1 1], false, 5, none⟩),
  (344, ⟨[.string ⟨#[102]⟩, .slice (some ⟨21, 0, none⟩) 2 Ev.ucap, .slice none 0 0, .slice none 0 0, .int .i64 5, .int .i64 0, .string ⟨#[]⟩, .int .i64 0, .slice (some ⟨96, 0, none⟩) 3 3, .string ⟨#[103]⟩, .slice (some ⟨107, 0, none⟩) 2 Ev.ucap, .slice none 0 0, .slice none 0 0, .int .i64 5, .int .i64 0, .string ⟨#[]⟩, .int .i64 0, .slice (some ⟨200, 0, none⟩) 3 3, .string ⟨#[104]⟩, .slice (some ⟨211, 0, none⟩) 2 Ev.ucap, .slice none 0 0, .slice none 0 0, .int .i64 4, .int .i64 0, .string ⟨#[]⟩, .int .i64 4, .slice (some ⟨264, 0, none⟩) 2 2, .string ⟨#[107]⟩, .slice (some ⟨282, 0, none⟩) 2 Ev.ucap, .slice none 0 0, .slice none 0 0, .int .i64 4, .int .i64 0, .string ⟨#[]⟩, .int .i64 4, .slice (some ⟨335, 0, none⟩) 2 2], false, 9, none⟩)] : List (Nat × Ev.Blk)).map fun x => (x.1, (⟨x.2.cells, true, x.2.es, none⟩ : Ev.Blk))
noncomputable def interpLazinessV : Value := .tuple #[.agg #[.slice (some ⟨12, 0, none⟩) 1 Ev.ucap, .slice (some ⟨344, 0, none⟩) 4 Ev.ucap], .agg #[.int .i64 0, .int .i64 0]]
noncomputable def interpLazinessP : List Value := [.agg #[.slice (some ⟨12, 0, none⟩) 1 Ev.ucap, .slice (some ⟨344, 0, none⟩) 4 Ev.ucap]]
theorem interpLaziness_parse (S : Ev.Syms) : Ev.litRun interpLazinessNw ckTabs interpLazinessV 345 (@Ev.evCall S Tryz.prog ckBits scanOrc 1000000 1000000 13 interpLazinessT ckStart) = true := by kernel_rfl
theorem interpLaziness_ok : Ev.litOk (interpLazinessRo ++ Ev.tabsB ckTabs) 345 interpLazinessP = true := by kernel_rfl
noncomputable def interpLazinessCheck (S : Ev.Syms) : Bool := Ev.answers (.int .i64 0) (@Ev.evCall S Tryz.prog ckBits (Ev.quiet (Ev.strOrc 67 ckNames)) 1000000 1000000 11 interpLazinessP (Ev.litSt interpLazinessRo ckTabs 345))
noncomputable def interpLazinessSays (S : Ev.Syms) (orc : Ev.Oracle) (args : List Value) : Bool := Ev.saysYes (@Ev.evCall S Tryz.prog ckBits (Ev.orElse (Ev.memo 13 interpLazinessT ckStart (interpLazinessV, Ev.litSt interpLazinessNw ckTabs 345)) (Ev.orElse (Ev.quietLit 11 interpLazinessP (interpLazinessRo ++ Ev.tabsB ckTabs) (.int .i64 0)) orc)) 1000000 1000000 7 args ckStart)
theorem interpLaziness_go (S : Ev.Syms) (hc : interpLazinessCheck S = true) {w : World} (hg : Ev.GlobIs ckTabs w) {orc : Ev.Oracle} (ho : @Ev.CallOK S Tryz.prog ckBits w orc) {args : List Value} {cargs : Array Value} (ha : ∀ ρ, @Ev.VRs S ρ args cargs.toList) (h : interpLazinessSays S orc args = true) :
    Calls Tryz.prog 7 cargs w fun e w' => e = .returned (.bool true) ∧ Bel w w' :=
  @Ev.law_pieces S Tryz.prog ckBits w ck_follows no_count ckTabs ckNext ck_start hg 13 11 67 7 ckNames name_any scanOrc (@scan_orc S w hg) _ _ _ _ _ _ interpLazinessT interpLazinessP interpLazinessNw interpLazinessRo interpLazinessV (.int .i64 0) 345 (interpLaziness_parse S) interpLaziness_ok hc orc ho args cargs ha h
end Go.Proofs.YtcjolamfjgdgjaaGreatDoor
