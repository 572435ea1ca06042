/-
  A law whose numbers come in through Pick alone, by runs.
-/
import Derived.Test.YtamkoncjkngneaaDoorEvStart
namespace Go.Proofs.YtamkoncjkngneaaDoor.Ev
open Go.RowKit

def tabGet (tab : List (Nat × Int × Int)) (i : Nat) (m : Int) : Option Value :=
  match tab.find? fun x => Nat.beq x.1 i && decide (x.2.1 = m) with
  | some x => some (.int .i64 x.2.2)
  | none => none
def orcArgs (tab : List (Nat × Int × Int)) : List Value → Option Value
  | [.chan (some i), .int .i64 m] => tabGet tab i m
  | _ => none
def orcNone : List Value → Option Value
  | [] => some (.bool true)
  | _ => none
/-- What is known beforehand: Pick of a number that the law was handed, and the law's own examples. -/
def orcOf (pickF exF : FuncId) (tab : List (Nat × Int × Int)) : Oracle := fun f args =>
  bif Nat.beq f exF then orcNone args else bif Nat.beq f pickF then orcArgs tab args else none
section
variable [Syms] {P : Program} {gl : Nat} {w0 : World} {ρ : Ren} {σ : St} {w w' : World}

theorem SR.quiet (h : SR gl w0 ρ σ w) (k : Below w.heap.size w w') : SR gl w0 ρ σ w' :=
  ⟨h.mr.world k.size (fun _ ha => k.cell ha) (fun _ ha => k.frozen ha), h.dom, h.own, h.glob, h.old.trans (k.mono h.old.size)⟩
omit [Syms] in
theorem GlobIs.keep {gs : List (Nat × List Value)} (hg : GlobIs gs w0) (h : Below w0.heap.size w0 w) : GlobIs gs w := fun g cs hm i v hi => by
  have := hg g cs hm i v hi
  rw [← this]
  exact h.cell (lt_of_cell this)
theorem orc_ok {gs : List (Nat × List Value)} {pickF exF : FuncId} {tab : List (Nat × Int × Int)} (hg : GlobIs gs w0)
    (hpick : ∀ (n m : Int) (w : World), 1 ≤ m → m ≤ 1000000 → Calls P pickF #[.int .i64 n, .int .i64 m] w fun e w' => e = .returned (.int .i64 (n % m)) ∧ w = w')
    (hex : ∀ w : World, GlobIs gs w → Calls P exF #[] w fun e w' => e = .returned (.bool true) ∧ Below w.heap.size w w')
    (htab : ∀ x ∈ tab, 1 ≤ x.2.1 ∧ x.2.1 ≤ 1000000 ∧ ∀ n, Syms.val x.1 = some n → n % x.2.1 = x.2.2) :
    ∀ f args v, orcOf pickF exF tab f args = some v → ∀ ρ σ w (cargs : Array Value), SR gl w0 ρ σ w → VRs ρ args cargs.toList → Calls P f cargs w fun e w' => ∃ cv, e = .returned cv ∧ VR ρ v cv ∧ SR gl w0 ρ σ w' := by
  intro f args v h ρ σ w cargs hs ha
  unfold orcOf at h
  cases hf : Nat.beq f exF with
  | true =>
    rw [hf] at h
    obtain rfl := Nat.eq_of_beq_eq_true hf
    simp only [cond_true] at h
    unfold orcNone at h
    split at h
    · obtain rfl := Option.some.inj h
      have hc : cargs = #[] := by
        cases cargs with
        | mk l => cases ha; rfl
      subst hc
      refine (hex w (hg.keep hs.old)).mono ?_
      rintro e w' ⟨rfl, hb⟩
      exact ⟨_, rfl, .refl rfl, hs.quiet hb⟩
    · cases h
  | false =>
    rw [hf] at h
    simp only [cond_false] at h
    obtain ⟨hp, hq⟩ := bif_some h
    clear h
    obtain rfl := Nat.eq_of_beq_eq_true hp
    unfold orcArgs at hq
    split at hq
    · rename_i i m
      unfold tabGet at hq
      split at hq
      · rename_i x hx
        obtain rfl := Option.some.inj hq
        have hb := List.find?_some hx
        have hm := List.mem_of_find?_eq_some hx
        rw [Bool.and_eq_true] at hb
        have h1 := Nat.eq_of_beq_eq_true hb.1
        have h2 : x.2.1 = m := of_decide_eq_true hb.2
        obtain ⟨k1, k2, k3⟩ := htab x hm
        cases cargs with
        | mk l =>
          cases ha with
          | cons hc1 hc2 =>
            cases hc2 with
            | cons hc2 hc3 =>
              cases hc3
              cases hc1 with
              | refl hgr => simp [ground, cellGround] at hgr
              | sym hn =>
                obtain rfl := hc2.int_inv
                rename_i n
                rw [h2] at k1 k2 k3
                refine (hpick n m w k1 k2).mono ?_
                rintro e w' ⟨rfl, rfl⟩
                exact ⟨_, rfl, by rw [k3 n (by rw [h1]; exact hn)]; exact .refl rfl, hs⟩
      · cases hq
    · cases hq
/-- A LAW BY A RUN, ITS NUMBERS BY PICK. -/
theorem law_of_orc (hm : P.follows .mixedOrders = true) (hng : NoCount P) {rounds n f : Nat} {gs : List (Nat × List Value)} {next : Nat} (hok : startOk gs gl next = true) {args : List Value} {cargs : Array Value} (hargs : ∀ ρ, VRs ρ args cargs.toList)
    {orc : Oracle} (horc : ∀ f args v, orc f args = some v → ∀ ρ σ w (cargs : Array Value), SR gl w0 ρ σ w → VRs ρ args cargs.toList → Calls P f cargs w fun e w' => ∃ cv, e = .returned cv ∧ VR ρ v cv ∧ SR gl w0 ρ σ w')
    (h : saysYes (evCall P gl orc rounds n f args ⟨startMem gs, next⟩) = true) (hg : GlobIs gs w0) : Calls P f cargs w0 fun e w' => e = .returned (.bool true) ∧ Below w0.heap.size w0 w' := by
  cases hr : evCall P gl orc rounds n f args ⟨startMem gs, next⟩ with
  | none => rw [hr] at h; cases h
  | some r =>
    obtain ⟨v, σ'⟩ := r
    rw [hr] at h
    have hv : v = .bool true := by
      cases v with
      | bool b => cases b with
        | true => rfl
        | false => cases h
      | _ => cases h
    subst hv
    refine (call_ok hm hng horc n f args _ _ σ' hr (startRen gs) w0 cargs (start_sr hg hok) (hargs _)).mono ?_
    rintro e w' ⟨ρ', cv, rfl, _, h2, h3⟩
    obtain rfl := h2.bool_inv
    exact ⟨rfl, h3.old⟩
end
end Go.Proofs.YtamkoncjkngneaaDoor.Ev
