/-
  A law whose numbers come in through Pick alone, by runs.
-/
import Derived.Test.YtcjolamfjgdgjaaGreatDoorEvStart
namespace Go.Proofs.YtcjolamfjgdgjaaGreatDoor.Ev
open Go.RowKit

def tabGet (tab : List (Nat × Int × Int)) (i : Nat) (m : Int) : Option Value :=
  match tab.find? fun x => Nat.beq x.1 i && decide (x.2.1 = m) with
  | some x => some (.int .i64 x.2.2)
  | none => none
def orcArgs (tab : List (Nat × Int × Int)) : List Value → Option Value
  | [.chan (some i), .int .i64 m] => tabGet tab i m
  | _ => none
def orcNone : List Value → Option Value
  | [] => some (.bool true)
  | _ => none
/-- What is known beforehand: Pick of a number that the law was handed, and the law's own examples. -/
def orcOf (pickF exF : FuncId) (tab : List (Nat × Int × Int)) : FuncId → List Value → Option Value := fun f args =>
  bif Nat.beq f exF then orcNone args else bif Nat.beq f pickF then orcArgs tab args else none
/-- Answers that change nothing. -/
def quiet (p : FuncId → List Value → Option Value) : Oracle := fun f args σ => match p f args with
  | some v => some (v, σ)
  | none => none
/-- The first that knows. -/
def orElse (a b : Oracle) : Oracle := fun f args σ => match a f args σ with
  | some r => some r
  | none => b f args σ
section
variable [Syms] {P : Program} {gl : Nat} {w0 : World} {B0 : Bs} {ρ : Ren} {σ : St} {w w' : World}

theorem SR.quiet (h : SR gl B0 ρ σ w) (k : Below w.heap.size w w') : SR gl B0 ρ σ w' :=
  ⟨h.mr.world k.size k.block, h.dom, h.own, h.glob, h.old.trans (k.mono h.old.size), fun D hD => by
    obtain ⟨k1, k2⟩ := h.opn D hD
    exact ⟨k1, (k.block D (Array.getElem?_eq_some_iff.1 k2).1).trans k2⟩⟩
omit [Syms] in
theorem GlobIs.keep {gs : List (Nat × List Value)} (hg : GlobIs gs w0) (h : Below w0.heap.size w0 w) : GlobIs gs w := fun g cs hm i v hi => by
  have := hg g cs hm i v hi
  rw [← this]
  exact h.cell (lt_of_cell this)
/-- A block that a call has made, and that its contract describes. -/
theorem SR.grown (h : SR gl B0 ρ σ w) (k : Below w.heap.size w w') {B : Blk} (hob : B.ob = none) {g m : Nat} (hg : w.heap.size ≤ g) (hlt : g < w'.heap.size) (hlen : B.cells.length ≤ m) (hth : w'.there g 0 m)
    (hcs : ∀ (i : Nat) (v : Value), B.cells[i]? = some v → ∃ c, w'.cell? ⟨g, i, none⟩ = some c ∧ VR ρ v c) : SR gl B0 (upd ρ σ.next ⟨g, 0, m, B.es⟩) (σ.new B) w' := by
  have hnone : ρ σ.next = none := by
    cases hq : ρ σ.next with
    | none => rfl
    | some X => exact absurd (h.dom _ _ hq) (Nat.lt_irrefl _)
  have hle := Le.upd ⟨g, 0, m, B.es⟩ hnone
  have hq := (h.quiet k).phantom B
  have hB : (σ.new B).mem.get σ.next = some B := Tr.get_put_same _ _ _
  have hold : ∀ x X, ρ x = some X → X.b < w.heap.size := fun x X hx => by
    obtain ⟨_, _, _, _, h4, _⟩ := h.mr.blk x X hx
    exact h4
  refine ⟨⟨fun x X hx => ?_, fun x x' X X' hx hx' hb hn => ?_, fun x X B' o hx hg' ho => ?_⟩, fun x X hx => ?_, fun x X B' hx hg' hr => ?_, fun y hy => ?_, hq.old, hq.opn⟩
  rotate_left 2
  · by_cases e : x = σ.next
    · subst e
      obtain rfl := Option.some.inj (hB.symm.trans hg')
      rw [hob] at ho; cases ho
    · rw [upd_other _ _ e] at hx
      obtain ⟨k1, k2, k3⟩ := hq.mr.obj x X B' o hx hg' ho
      refine ⟨k1, k2.mono hle, fun y Y hy hb => ?_⟩
      by_cases e' : y = σ.next
      · subst e'
        rw [upd_same] at hy
        obtain rfl := Option.some.inj hy
        have := hold x X hx
        simp only at hb
        omega
      · rw [upd_other _ _ e'] at hy
        exact k3 y Y hy hb
  rotate_right 2
  · by_cases e : x = σ.next
    · subst e
      rw [upd_same] at hx
      obtain rfl := Option.some.inj hx
      refine ⟨B, hB, rfl, hlen, hlt, fun _ => hth, fun i v hv => ?_⟩
      obtain ⟨c, hc, hv'⟩ := hcs i v hv
      exact ⟨c, by rw [Nat.zero_add]; exact hc, hv'.mono hle⟩
    · rw [upd_other _ _ e] at hx
      obtain ⟨B', h1, h2, h3, h4, h5, h6⟩ := hq.mr.blk x X hx
      exact ⟨B', h1, h2, h3, h4, h5, fun i v hv => by obtain ⟨c, k1, k2⟩ := h6 i v hv; exact ⟨c, k1, k2.mono hle⟩⟩
  · by_cases e : x = σ.next
    · subst e
      rw [upd_same] at hx
      obtain rfl := Option.some.inj hx
      rw [upd_other _ _ (Ne.symm hn)] at hx'
      have := hold x' X' hx'
      simp only at hb
      omega
    · rw [upd_other _ _ e] at hx
      by_cases e' : x' = σ.next
      · subst e'
        rw [upd_same] at hx'
        obtain rfl := Option.some.inj hx'
        have := hold x X hx
        simp only at hb
        omega
      · rw [upd_other _ _ e'] at hx'
        exact hq.mr.inj x x' X X' hx hx' hb hn
  · by_cases e : x = σ.next
    · rw [e]; exact Nat.lt_succ_self _
    · rw [upd_other _ _ e] at hx
      exact hq.dom x X hx
  · by_cases e : x = σ.next
    · subst e
      rw [upd_same] at hx
      obtain rfl := Option.some.inj hx
      exact Nat.le_trans h.old.size hg
    · rw [upd_other _ _ e] at hx
      exact hq.own x X B' hx hg' hr
  · obtain ⟨L', h1, h2, h3⟩ := h.glob y hy
    exact ⟨L', hle _ _ h1, h2, h3⟩
theorem quiet_ok {p : FuncId → List Value → Option Value}
    (h : ∀ f args v, p f args = some v → ∀ opn ρ σ w (cargs : Array Value), SR gl ⟨w0, opn⟩ ρ σ w → VRs ρ args cargs.toList → Calls P f cargs w fun e w' => ∃ cv, e = .returned cv ∧ VR ρ v cv ∧ SR gl ⟨w0, opn⟩ ρ σ w') : CallOK P gl w0 (quiet p) := by
  intro f args σ v σ' hq opn ρ w cargs hs ha
  unfold quiet at hq
  split at hq
  · rename_i x hx
    simp only [Option.some.injEq, Prod.mk.injEq] at hq
    obtain ⟨rfl, rfl⟩ := hq
    refine (h f args x hx opn ρ σ w cargs hs ha).mono ?_
    rintro e w' ⟨cv, rfl, h1, h2⟩
    exact ⟨ρ, cv, rfl, Ext.refl _ _, h1, h2⟩
  · cases hq
theorem orElse_ok {a b : Oracle} (ha : CallOK P gl w0 a) (hb : CallOK P gl w0 b) : CallOK P gl w0 (orElse a b) := by
  intro f args σ v σ' h
  unfold orElse at h
  split at h
  · rename_i r hr
    obtain rfl := Option.some.inj h
    exact ha f args σ v σ' hr
  · exact hb f args σ v σ' h
theorem orc_ok {gs : List (Nat × List Value)} {pickF exF : FuncId} {tab : List (Nat × Int × Int)} (hg : GlobIs gs w0)
    (hpick : ∀ (n m : Int) (w : World), 1 ≤ m → m ≤ 1000000 → Calls P pickF #[.int .i64 n, .int .i64 m] w fun e w' => e = .returned (.int .i64 (n % m)) ∧ w = w')
    (hex : ∀ w : World, GlobIs gs w → Calls P exF #[] w fun e w' => e = .returned (.bool true) ∧ Below w.heap.size w w')
    (htab : ∀ x ∈ tab, 1 ≤ x.2.1 ∧ x.2.1 ≤ 1000000 ∧ ∃ n, Syms.val x.1 = some (.int .i64 n) ∧ n % x.2.1 = x.2.2) :
    ∀ f args v, orcOf pickF exF tab f args = some v → ∀ opn ρ σ w (cargs : Array Value), SR gl ⟨w0, opn⟩ ρ σ w → VRs ρ args cargs.toList → Calls P f cargs w fun e w' => ∃ cv, e = .returned cv ∧ VR ρ v cv ∧ SR gl ⟨w0, opn⟩ ρ σ w' := by
  intro f args v h opn ρ σ w cargs hs ha
  unfold orcOf at h
  cases hf : Nat.beq f exF with
  | true =>
    rw [hf] at h
    obtain rfl := Nat.eq_of_beq_eq_true hf
    simp only [cond_true] at h
    unfold orcNone at h
    split at h
    · obtain rfl := Option.some.inj h
      have hc : cargs = #[] := by
        cases cargs with
        | mk l => cases ha; rfl
      subst hc
      refine (hex w (hg.keep hs.old)).mono ?_
      rintro e w' ⟨rfl, hb⟩
      exact ⟨_, rfl, .refl rfl, hs.quiet hb⟩
    · cases h
  | false =>
    rw [hf] at h
    simp only [cond_false] at h
    obtain ⟨hp, hq⟩ := bif_some h
    clear h
    obtain rfl := Nat.eq_of_beq_eq_true hp
    unfold orcArgs at hq
    split at hq
    · rename_i i m
      unfold tabGet at hq
      split at hq
      · rename_i x hx
        obtain rfl := Option.some.inj hq
        have hb := List.find?_some hx
        have hm := List.mem_of_find?_eq_some hx
        rw [Bool.and_eq_true] at hb
        have h1 := Nat.eq_of_beq_eq_true hb.1
        have h2 : x.2.1 = m := of_decide_eq_true hb.2
        obtain ⟨k1, k2, k3⟩ := htab x hm
        cases cargs with
        | mk l =>
          cases ha with
          | cons hc1 hc2 =>
            cases hc2 with
            | cons hc2 hc3 =>
              cases hc3
              cases hc1 with
              | refl hgr => simp [ground, cellGround] at hgr
              | sym hn _ =>
                obtain rfl := hc2.int_inv
                obtain ⟨n, k4, k3⟩ := k3
                rw [h1, hn] at k4
                obtain rfl := Option.some.inj k4
                rw [h2] at k1 k2 k3
                refine (hpick n m w k1 k2).mono ?_
                rintro e w' ⟨rfl, rfl⟩
                exact ⟨_, rfl, by rw [k3]; exact .refl rfl, hs⟩
      · cases hq
    · cases hq
/-- A LAW BY A RUN, ITS NUMBERS BY PICK. -/
theorem law_of_orc (hm : P.follows .mixedOrders = true) (hng : NoCount P) {rounds n f : Nat} {gs : List (Nat × List Value)} {next : Nat} (hok : startOk gs gl next = true) {args : List Value} {cargs : Array Value} (hargs : ∀ ρ, VRs ρ args cargs.toList)
    {orc : Oracle} (horc : CallOK P gl w0 orc)
    (h : saysYes (evCall P gl orc rounds n f args ⟨startMem gs, next⟩) = true) (hg : GlobIs gs w0) : Calls P f cargs w0 fun e w' => e = .returned (.bool true) ∧ Below w0.heap.size w0 w' := by
  cases hr : evCall P gl orc rounds n f args ⟨startMem gs, next⟩ with
  | none => rw [hr] at h; cases h
  | some r =>
    obtain ⟨v, σ'⟩ := r
    rw [hr] at h
    have hv : v = .bool true := by
      cases v with
      | bool b => cases b with
        | true => rfl
        | false => cases h
      | _ => cases h
    subst hv
    refine (call_ok hm hng horc n f args _ _ σ' hr (fun _ => False) (startRen gs) w0 cargs (start_sr hg hok) (hargs _)).mono ?_
    rintro e w' ⟨ρ', cv, rfl, _, h2, h3⟩
    obtain rfl := h2.bool_inv
    exact ⟨rfl, h3.old⟩
end
/-- Numbers that are looked at by nobody but the oracle. -/
@[reducible] def pickSyms (l : List Int) : Syms where
  val := fun i => (l[i]?).map (Value.int .i64)
  bin := fun _ _ _ => none
  un := fun _ _ => none
  conv := fun _ _ => none
  len := fun _ => none
  mm := fun _ _ _ => none
  bin_ok := by intro _ _ _ _ h; cases h
  un_ok := by intro _ _ _ h; cases h
  conv_ok := by intro _ _ _ h; cases h
  len_ok := by intro _ _ h; cases h
  mm_ok := by intro _ _ _ _ h; cases h
/-- Are two memories the same? -/
def sameBlk : Option Blk → Option Blk → Bool
  | none, none => true
  | some a, some b => sameCells a.cells b.cells && (a.ro == b.ro) && Nat.beq a.es b.es && a.ob.isNone && b.ob.isNone
  | _, _ => false
def sameTr : Tr Blk → Tr Blk → Bool
  | .nil, .nil => true
  | .nd l v r, .nd l' v' r' => sameBlk v v' && sameTr l l' && sameTr r r'
  | _, _ => false
def sameSt (a b : St) : Bool := Nat.beq a.next b.next && sameTr a.mem b.mem
theorem sameBlk_eq {a b : Option Blk} (h : sameBlk a b = true) : a = b := by
  cases a <;> cases b <;> first | rfl | (cases h; done) | skip
  rename_i a b
  obtain ⟨ca, ra, ea, oa⟩ := a
  obtain ⟨cb, rb, eb, ob⟩ := b
  simp only [sameBlk, Bool.and_eq_true, beq_iff_eq, Option.isNone_iff_eq_none] at h
  rw [sameCells_eq h.1.1.1.1, h.1.1.1.2, Nat.eq_of_beq_eq_true h.1.1.2, h.1.2, h.2]
theorem sameTr_eq : ∀ {a b : Tr Blk}, sameTr a b = true → a = b
  | .nil, .nil, _ => rfl
  | .nil, .nd _ _ _, h => by cases h
  | .nd _ _ _, .nil, h => by cases h
  | .nd l v r, .nd l' v' r', h => by
    simp only [sameTr, Bool.and_eq_true] at h
    rw [sameBlk_eq h.1.1, sameTr_eq h.1.2, sameTr_eq h.2]
theorem sameSt_eq {a b : St} (h : sameSt a b = true) : a = b := by
  obtain ⟨m, n⟩ := a
  obtain ⟨m', n'⟩ := b
  simp only [sameSt, Bool.and_eq_true] at h
  rw [Nat.eq_of_beq_eq_true h.1, sameTr_eq h.2]
/-- A call that has been run before. -/
def memo (F : FuncId) (as : List Value) (σ0 : St) (r : Value × St) : Oracle := fun f args σ =>
  bif Nat.beq f F && sameCells args as && sameSt σ σ0 then some r else none
theorem memo_ok [Syms] {P : Program} {gl : Nat} {w0 : World} {call : CallF} (hc : CallOK P gl w0 call) {F : FuncId} {as : List Value} {σ0 : St} {r : Value × St} (h : call F as σ0 = some r) : CallOK P gl w0 (memo F as σ0 r) := by
  intro f args σ v σ' hq
  unfold memo at hq
  obtain ⟨h1, h2⟩ := bif_some hq
  simp only [Bool.and_eq_true] at h1
  obtain rfl := Nat.eq_of_beq_eq_true h1.1.1
  obtain rfl := sameCells_eq h1.1.2
  obtain rfl := sameSt_eq h1.2
  obtain rfl := Option.some.inj h2
  exact hc f args σ v σ' h
/-- Letters and what is known of operations on them, by tables. -/
abbrev BinTab := List (BinOp × Value × Value × Value)
def tabBin (tab : BinTab) (op : BinOp) (a b : Value) : Option Value :=
  match tab.find? fun x => decide (x.1 = op) && (sameCell x.2.1 a && sameCell x.2.2.1 b) with
  | some x => some x.2.2.2
  | none => none
theorem tabBin_ok {val : Nat → Option Value} {tab : BinTab} (h : ∀ x ∈ tab, ∀ ca cb, At val x.2.1 ca → At val x.2.2.1 cb → ∃ cv, At val x.2.2.2 cv ∧ BinIs x.1 ca cb cv) :
    ∀ op a b v, tabBin tab op a b = some v → ∀ ca cb, At val a ca → At val b cb → ∃ cv, At val v cv ∧ BinIs op ca cb cv := by
  intro op a b v hq ca cb ha hb
  unfold tabBin at hq
  split at hq
  · rename_i x hx
    obtain rfl := Option.some.inj hq
    have hp := List.find?_some hx
    simp only [Bool.and_eq_true, decide_eq_true_eq] at hp
    have hm := List.mem_of_find?_eq_some hx
    obtain ⟨h1, h2, h3⟩ := hp
    have e2 := sameCell_eq h2
    have e3 := sameCell_eq h3
    rw [← e2] at ha
    rw [← e3] at hb
    rw [← h1]
    exact h x hm ca cb ha hb
  · cases hq
theorem binIs_of_fast {op : BinOp} {a b c : Value} (h : fastBin op a b = some c) : BinIs op a b c := by
  constructor
  · obtain ⟨_, _, h3, _, _⟩ := fastBin_sim (P := default) (w := default) (t := 0) h
    rcases h3 with ⟨k, n, rfl⟩ | ⟨s, rfl⟩ <;> rfl
  · intro P w t
    exact (fastBin_sim (P := P) (w := w) (t := t) h).1
theorem at_sym {val : Nat → Option Value} {i : Nat} {x c : Value} (hv : val i = some x) (h : At val (.chan (some i)) c) : c = x := by
  rcases h with ⟨j, h1, h2, _⟩ | ⟨h1, _⟩
  · obtain rfl : i = j := by simpa using h1
    rw [hv] at h2
    exact (Option.some.inj h2).symm
  · cases h1
theorem at_int {val : Nat → Option Value} {k : IntKind} {n : Int} {c : Value} (h : At val (.int k n) c) : c = .int k n := by
  rcases h with ⟨j, h1, _, _⟩ | ⟨_, h⟩
  · cases h1
  · exact h
theorem at_string {val : Nat → Option Value} {s : ByteArray} {c : Value} (h : At val (.string s) c) : c = .string s := by
  rcases h with ⟨j, h1, _, _⟩ | ⟨_, h⟩
  · cases h1
  · exact h
theorem sym_at {val : Nat → Option Value} {i : Nat} {x : Value} (hv : val i = some x) (hs : scalar x = true) : At val (.chan (some i)) x := .inl ⟨i, rfl, hv, hs⟩
theorem ground_at {val : Nat → Option Value} {x : Value} (h : cellGround x = true) : At val x x := .inr ⟨h, rfl⟩
end Go.Proofs.YtcjolamfjgdgjaaGreatDoor.Ev
