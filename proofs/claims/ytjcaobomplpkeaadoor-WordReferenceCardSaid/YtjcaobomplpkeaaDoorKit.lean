/-
  What all laws of this seat share: the table of powers of ten, and worlds that only grow.
-/
import Derived.Test.YtjcaobomplpkeaaDoorRows
import Derived.Below
import Derived.ChangeSame
import Derived.Sort.Grow
import Derived.Lib.ItoaMem
import Derived.Lib.LaidTab
import Derived.LaidSub
import Derived.WalkKit
import Derived.ProofKit
import Derived.OpenShut
namespace Go.Proofs.YtjcaobomplpkeaaDoor
open Go.ChangeShapes Go.WideShapes Go.ChangeAt Go.RowKit

/-- The world behind a call: all that was there stands. -/
def Bel (w w' : World) : Prop := Below w.heap.size w w'
theorem Bel.refl (w : World) : Bel w w := Below.refl _ _
theorem Bel.trans {a b c : World} (h : Bel a b) (k : Bel b c) : Bel a c := Below.trans h (Below.mono k h.size)
theorem Bel.grow {a w : World} (h : Bel a w) (k : Nat) (os : Array Obj) : Bel a (Sort.grow (w.drewN k) os) :=
  Bel.trans h ⟨rfl, rfl, rfl, by simp [Sort.grow], fun i hi => Sort.heap_grow_old (w.drewN k) os hi⟩

theorem Bel.alloc {a w : World} (h : Bel a w) (o : Obj) : Bel a (w.alloc o) := Below.alloc h h.size o
theorem Bel.drew {a w : World} (h : Bel a w) : Bel a w.drew := Below.drew h

/-- The powers of ten are laid. -/
def Tab (w : World) : Prop := Lib.TabIs Tryd.prog w "internal/strconv.uint64pow10" .u64 Lib.pow10Tab
theorem Tab.keep {w w' : World} (h : Tab w) (hb : Bel w w') : Tab w' := by
  have hg : Tryd.prog.globalNamed "internal/strconv.uint64pow10" = some 0 := by kernel_rfl
  unfold Tab Lib.TabIs World.var? at *
  rw [hg] at h ⊢
  have hlt : 0 < w.heap.size := by
    rcases Nat.lt_or_ge 0 w.heap.size with h' | h'
    · exact h'
    · simp only [Option.bind_some] at h
      rw [Array.getElem?_eq_none h'] at h
      cases h
  simp only [Option.bind_some] at h ⊢
  rw [hb.block _ hlt]
  exact h
/-- What a row's list gives. -/
theorem tab_of_laid {W : World} {l : List (String × DataW Unit)} (hl : l.filter (fun p => p.1 == "internal/strconv.uint64pow10") = [("internal/strconv.uint64pow10", Lib.tabData .u64 Lib.pow10Tab)]) (h : laidMetH Tryd.prog l W) : Tab W := by
  have h2 := h.filter (fun p => p.1 == "internal/strconv.uint64pow10")
  rw [hl] at h2
  exact Lib.tabIs_of_head (rest := []) (t := 57) (e := 37) (n := 20) (g := 0) (by kernel_rfl) (by kernel_rfl) Tryd.underlying57 Tryd.underlying37 (by kernel_rfl) (by kernel_rfl) h2

/-- THE LAST STEP OF A LAW: it returns true, its arguments read as before. -/
theorem law_post {H : Type} {enc : TypeId × Value → H} {f : Func} {s : ChangeSpec} {W W' : World} {args : Array Value} {ds gs : List (DataW H)} {before : List MemPlace}
    (hW : DataW.Whole enc Tryd.prog f.params.toList s.vars false W args.toList ds gs before)
    (hres : (s.fn H (ds ++ gs)).results = [.lit (.bool true)]) (hrt : f.resultTypes = #[4])
    (hargs : ∀ sp : Nat → Bool, (∀ p ∈ before, sp p.block = true) → DataW.TrodAll enc Tryd.prog W' 0 sp true f.params.toList args.toList (s.fn H (ds ++ gs)).args before)
    (hvars : ∀ sp : Nat → Bool, (∀ p ∈ before, sp p.block = true) → DataW.TrodVars enc Tryd.prog W' sp s.vars (s.fn H (ds ++ gs)).vars [])
    (hb : Bel W W') : s.post enc Tryd.prog f false true false false W args (.bool true) W' := by
  have lt : ∀ p ∈ before, p.block < W.heap.size := fun p hp => hW.lt p hp
  have tr : ∀ (b : Nat) (sp : Nat → Bool) (hd : Bool), DataW.TrodAll enc Tryd.prog W' b sp hd f.resultTypes.toList ((Value.bool true).resultList f.resultTypes.size) (s.fn H (ds ++ gs)).results [] := fun b sp hd => by
    rw [hres, hrt]
    exact trodAll_cons_mk (shut_bool Tryd.underlying4 true) trodAll_mk0
  exact ⟨ds, gs, before, [], before, [], hW, tr _ _ _, hargs _ (fun p hp => decide_eq_true (lt p hp)), hvars _ (fun p hp => decide_eq_true (lt p hp)), World.keptBut_mono (fun p hp => ⟨hp, Or.inr (Or.inl hp)⟩) (Below.frame hb (· ∈ before)), fun h => by cases h⟩
end Go.Proofs.YtjcaobomplpkeaaDoor
