/-
  Letters that stand for three unknown words whose order is known, and for their exclusive sums.
-/
import Derived.Test.YtcjolamfjgdgjaaGreatDoorEvLin
namespace Go.Proofs.YtcjolamfjgdgjaaGreatDoor.Ev
open Go.RowKit

def rkX (a b c : Int) (m : Nat) : BitVec 64 := (bif m.testBit 0 then BitVec.ofInt 64 a else 0#64) ^^^ ((bif m.testBit 1 then BitVec.ofInt 64 b else 0#64) ^^^ (bif m.testBit 2 then BitVec.ofInt 64 c else 0#64))
theorem rkX_xor (a b c : Int) (i j : Nat) : rkX a b c i ^^^ rkX a b c j = rkX a b c (i ^^^ j) := by
  unfold rkX
  simp only [Nat.testBit_xor]
  generalize BitVec.ofInt 64 a = A
  generalize BitVec.ofInt 64 b = B
  generalize BitVec.ofInt 64 c = C
  ext k hk
  cases i.testBit 0 <;> cases i.testBit 1 <;> cases i.testBit 2 <;> cases j.testBit 0 <;> cases j.testBit 1 <;> cases j.testBit 2 <;> simp <;> cases A[k] <;> cases B[k] <;> cases C[k] <;> rfl
theorem rkX_self (a b c : Int) (i : Nat) : rkX a b c i ^^^ rkX a b c i = 0#64 := BitVec.xor_self
def rkVal (a b c : Int) (m : Nat) : Option Value := bif Nat.ble 1 m && Nat.ble m 7 then some (.int .i64 (rkX a b c m).toInt) else none
def rkInt (a b c : Int) : Nat → Int
  | 1 => a
  | 2 => b
  | 4 => c
  | _ => 0
structure Rk where
  p : Nat
  q : Nat
  r : Nat
structure Rk.ok (k : Rk) (a b c : Int) : Prop where
  ha : -9223372036854775808 ≤ a ∧ a ≤ 9223372036854775807
  hb : -9223372036854775808 ≤ b ∧ b ≤ 9223372036854775807
  hc : -9223372036854775808 ≤ c ∧ c ≤ 9223372036854775807
  ab : k.p < k.q ↔ a < b
  ba : k.q < k.p ↔ b < a
  ac : k.p < k.r ↔ a < c
  ca : k.r < k.p ↔ c < a
  bc : k.q < k.r ↔ b < c
  cb : k.r < k.q ↔ c < b
def rkOf (k : Rk) : Nat → Option Nat
  | 1 => some k.p
  | 2 => some k.q
  | 4 => some k.r
  | _ => none
theorem rkOf_cases {k : Rk} {i p : Nat} (h : rkOf k i = some p) : (i = 1 ∧ p = k.p) ∨ (i = 2 ∧ p = k.q) ∨ (i = 4 ∧ p = k.r) := by
  unfold rkOf at h
  split at h
  · exact .inl ⟨rfl, (Option.some.inj h).symm⟩
  · exact .inr (.inl ⟨rfl, (Option.some.inj h).symm⟩)
  · exact .inr (.inr ⟨rfl, (Option.some.inj h).symm⟩)
  · cases h
theorem rk_lt {k : Rk} {a b c : Int} (hk : k.ok a b c) {i j p q : Nat} (h1 : rkOf k i = some p) (h2 : rkOf k j = some q) : p < q ↔ rkInt a b c i < rkInt a b c j := by
  rcases rkOf_cases h1 with ⟨rfl, rfl⟩ | ⟨rfl, rfl⟩ | ⟨rfl, rfl⟩ <;> rcases rkOf_cases h2 with ⟨rfl, rfl⟩ | ⟨rfl, rfl⟩ | ⟨rfl, rfl⟩ <;> simp only [rkInt]
  · simp
  · exact hk.ab
  · exact hk.ac
  · exact hk.ba
  · simp
  · exact hk.bc
  · exact hk.ca
  · exact hk.cb
  · simp
theorem ofInt_toInt_of {a : Int} (h : -9223372036854775808 ≤ a ∧ a ≤ 9223372036854775807) : (BitVec.ofInt 64 a).toInt = a := by
  rw [BitVec.toInt_ofInt]
  show a.bmod 18446744073709551616 = a
  rw [← wrap_bmod]
  exact wrap_eq h.1 h.2
theorem rk_val {k : Rk} {a b c : Int} (hk : k.ok a b c) {i p : Nat} (h : rkOf k i = some p) : rkVal a b c i = some (.int .i64 (rkInt a b c i)) := by
  rcases rkOf_cases h with ⟨rfl, rfl⟩ | ⟨rfl, rfl⟩ | ⟨rfl, rfl⟩
  · show some (Value.int .i64 (rkX a b c 1).toInt) = _
    have : rkX a b c 1 = BitVec.ofInt 64 a := by simp [rkX, Nat.testBit]
    rw [this, ofInt_toInt_of hk.ha]; rfl
  · show some (Value.int .i64 (rkX a b c 2).toInt) = _
    have : rkX a b c 2 = BitVec.ofInt 64 b := by simp [rkX, Nat.testBit]
    rw [this, ofInt_toInt_of hk.hb]; rfl
  · show some (Value.int .i64 (rkX a b c 4).toInt) = _
    have : rkX a b c 4 = BitVec.ofInt 64 c := by simp [rkX, Nat.testBit]
    rw [this, ofInt_toInt_of hk.hc]; rfl
def rkCmp (k : Rk) (f : Nat → Nat → Bool) (i j : Nat) : Option Value := match rkOf k i, rkOf k j with
  | some a, some b => some (.bool (f a b))
  | _, _ => none
def rkEq (k : Rk) (neg : Bool) (i j : Nat) : Option Value := bif Nat.beq i j then some (.bool (!neg)) else rkCmp k (fun a b => (!(Nat.blt a b) && !(Nat.blt b a)) != neg) i j
def rkIn (i : Nat) : Bool := Nat.ble 1 i && Nat.ble i 7
def rkXor (i j : Nat) : Option Value := bif rkIn i && rkIn j then (bif Nat.beq i j then some (.int .i64 0) else bif rkIn (Nat.xor i j) then some (.chan (some (Nat.xor i j))) else none) else none
def rkBin (k : Rk) : BinOp → Value → Value → Option Value
  | .xor, .chan (some i), .chan (some j) => rkXor i j
  | .eql, .chan (some i), .chan (some j) => bif rkIn i then rkEq k false i j else none
  | .neq, .chan (some i), .chan (some j) => bif rkIn i then rkEq k true i j else none
  | .lss, .chan (some i), .chan (some j) => rkCmp k (fun a b => Nat.blt a b) i j
  | .leq, .chan (some i), .chan (some j) => rkCmp k (fun a b => !Nat.blt b a) i j
  | .gtr, .chan (some i), .chan (some j) => rkCmp k (fun a b => Nat.blt b a) i j
  | .geq, .chan (some i), .chan (some j) => rkCmp k (fun a b => !Nat.blt a b) i j
  | _, _, _ => none
def rkConv : IntKind → Value → Option Value
  | .i64, .chan (some i) => bif rkIn i then some (.chan (some i)) else none
  | _, _ => none
def rkMm (k : Rk) (mx : Bool) : Value → Value → Option Value
  | .chan (some i), .chan (some j) => match rkOf k i, rkOf k j with
    | some a, some b => some (.chan (some (bif mx then (bif Nat.blt a b then j else i) else (bif Nat.blt b a then j else i))))
    | _, _ => none
  | _, _ => none
theorem blt_dec (p q : Nat) : Nat.blt p q = decide (p < q) := by
  cases h : Nat.blt p q with
  | true => exact (decide_eq_true (Nat.le_of_ble_eq_true h)).symm
  | false => exact (decide_eq_false (fun hc => by have : Nat.blt p q = true := Nat.ble_eq_true_of_le hc; rw [h] at this; cases this)).symm
theorem rkCmp_ok {k : Rk} {f : Nat → Nat → Bool} {i j : Nat} {v : Value} (h : rkCmp k f i j = some v) : ∃ p q, rkOf k i = some p ∧ rkOf k j = some q ∧ v = .bool (f p q) := by
  unfold rkCmp at h
  split at h
  · exact ⟨_, _, by assumption, by assumption, (Option.some.inj h).symm⟩
  · cases h
theorem rkVal_in {a b c : Int} {i : Nat} (h : rkIn i = true) : rkVal a b c i = some (.int .i64 (rkX a b c i).toInt) := by
  unfold rkVal rkIn at *
  rw [h]; rfl
theorem rkBin_ok {k : Rk} {a b c : Int} (hk : k.ok a b c) : ∀ op u v r, rkBin k op u v = some r → ∀ cu cv, At (rkVal a b c) u cu → At (rkVal a b c) v cv → ∃ cr, At (rkVal a b c) r cr ∧ BinIs op cu cv cr := by
  intro op u v r h cu cv hu hv
  have cmp : ∀ {f : Nat → Nat → Bool} {i j : Nat}, rkCmp k f i j = some r → At (rkVal a b c) (.chan (some i)) cu → At (rkVal a b c) (.chan (some j)) cv → ∃ p q, cu = .int .i64 (rkInt a b c i) ∧ cv = .int .i64 (rkInt a b c j) ∧ r = .bool (f p q) ∧ (p < q ↔ rkInt a b c i < rkInt a b c j) ∧ (q < p ↔ rkInt a b c j < rkInt a b c i) := by
    intro f i j h hu hv
    obtain ⟨p, q, h1, h2, rfl⟩ := rkCmp_ok h
    exact ⟨p, q, at_sym (rk_val hk h1) hu, at_sym (rk_val hk h2) hv, rfl, rk_lt hk h1 h2, rk_lt hk h2 h1⟩
  have eqs : ∀ {neg : Bool} {i j : Nat}, rkIn i = true → rkEq k neg i j = some r → At (rkVal a b c) (.chan (some i)) cu → At (rkVal a b c) (.chan (some j)) cv → ∃ n m, cu = .int .i64 n ∧ cv = .int .i64 m ∧ r = .bool (decide (n = m) != neg) := by
    intro neg i j hi h hu hv
    unfold rkEq at h
    cases hb : Nat.beq i j with
    | true =>
      rw [hb, cond_true] at h
      obtain rfl := Nat.eq_of_beq_eq_true hb
      obtain rfl := Option.some.inj h
      have e1 := at_sym (rkVal_in hi) hu
      have e2 := at_sym (rkVal_in hi) hv
      refine ⟨_, _, e1, e2, ?_⟩
      simp
    | false =>
      rw [hb, cond_false] at h
      obtain ⟨p, q, e1, e2, rfl, l1, l2⟩ := cmp h hu hv
      refine ⟨_, _, e1, e2, ?_⟩
      rw [blt_dec, blt_dec]
      congr 2
      by_cases c1 : p < q
      · have := l1.1 c1
        rw [decide_eq_true c1]; simp; omega
      · by_cases c2 : q < p
        · have := l2.1 c2
          rw [decide_eq_true c2]; simp; omega
        · have k1 : ¬ rkInt a b c i < rkInt a b c j := fun h => c1 (l1.2 h)
          have k2 : ¬ rkInt a b c j < rkInt a b c i := fun h => c2 (l2.2 h)
          rw [decide_eq_false c1, decide_eq_false c2]; simp; omega
  unfold rkBin at h
  split at h
  · rename_i i j
    unfold rkXor at h
    have h00 := bif_some h
    clear h
    obtain ⟨h0, h⟩ := h00
    rw [Bool.and_eq_true] at h0
    obtain rfl := at_sym (rkVal_in h0.1) hu
    obtain rfl := at_sym (rkVal_in h0.2) hv
    have key : fastBin .xor (.int .i64 (rkX a b c i).toInt) (.int .i64 (rkX a b c j).toInt) = some (.int .i64 (rkX a b c (i ^^^ j)).toInt) := by
      show some (Value.int .i64 (IntKind.i64.wrap ((BitVec.ofInt 64 (rkX a b c i).toInt ^^^ BitVec.ofInt 64 (rkX a b c j).toInt).toNat : Nat))) = _
      rw [BitVec.ofInt_toInt, BitVec.ofInt_toInt, rkX_xor, wrap_bmod, BitVec.toInt_eq_toNat_bmod]
    cases hb : Nat.beq i j with
    | true =>
      rw [hb, cond_true] at h
      obtain rfl := Nat.eq_of_beq_eq_true hb
      obtain rfl := Option.some.inj h
      refine ⟨_, ground_at rfl, binIs_of_fast ?_⟩
      rw [key, ← rkX_xor, rkX_self]
      rfl
    | false =>
      rw [hb, cond_false] at h
      obtain ⟨h1, h2⟩ := bif_some h
      obtain rfl := Option.some.inj h2
      exact ⟨_, sym_at (rkVal_in h1) rfl, binIs_of_fast key⟩
  · obtain ⟨hi, h⟩ := bif_some h
    obtain ⟨n, m, rfl, rfl, rfl⟩ := eqs hi h hu hv
    exact ⟨_, ground_at rfl, binIs_of_fast (by cases hd : decide (n = m) <;> simp [fastBin, fastInt, isShift, hd])⟩
  · obtain ⟨hi, h⟩ := bif_some h
    obtain ⟨n, m, rfl, rfl, rfl⟩ := eqs hi h hu hv
    exact ⟨_, ground_at rfl, binIs_of_fast (by cases hd : decide (n = m) <;> simp [fastBin, fastInt, isShift, hd])⟩
  · rename_i i j
    obtain ⟨p, q, rfl, rfl, rfl, l1, l2⟩ := cmp h hu hv
    refine ⟨_, ground_at rfl, binIs_of_fast ?_⟩
    simp [fastBin, fastInt, isShift, blt_dec, decide_eq_decide.2 l1]
  · rename_i i j
    obtain ⟨p, q, rfl, rfl, rfl, l1, l2⟩ := cmp h hu hv
    refine ⟨_, ground_at rfl, binIs_of_fast ?_⟩
    have : decide (rkInt a b c i ≤ rkInt a b c j) = !decide (q < p) := by rw [decide_eq_decide.2 l2, ← decide_not]; exact decide_eq_decide.2 (by omega)
    simp [fastBin, fastInt, isShift, blt_dec, this]
  · rename_i i j
    obtain ⟨p, q, rfl, rfl, rfl, l1, l2⟩ := cmp h hu hv
    refine ⟨_, ground_at rfl, binIs_of_fast ?_⟩
    simp [fastBin, fastInt, isShift, blt_dec, decide_eq_decide.2 l2]
  · rename_i i j
    obtain ⟨p, q, rfl, rfl, rfl, l1, l2⟩ := cmp h hu hv
    refine ⟨_, ground_at rfl, binIs_of_fast ?_⟩
    have : decide (rkInt a b c j ≤ rkInt a b c i) = !decide (p < q) := by rw [decide_eq_decide.2 l1, ← decide_not]; exact decide_eq_decide.2 (by omega)
    simp [fastBin, fastInt, isShift, blt_dec, this]
  · cases h
theorem rkConv_ok {a b c : Int} : ∀ k u v, rkConv k u = some v → ∀ cu, At (rkVal a b c) u cu → ∃ cv, At (rkVal a b c) v cv ∧ ConvIs k cu cv := by
  intro k u v h cu hu
  unfold rkConv at h
  split at h
  · rename_i i
    obtain ⟨hi, h⟩ := bif_some h
    obtain rfl := Option.some.inj h
    obtain rfl := at_sym (rkVal_in hi) hu
    refine ⟨_, hu, _, _, rfl, ?_⟩
    rw [wrap_eq]
    · have := BitVec.le_toInt (rkX a b c i); omega
    · have := BitVec.toInt_lt (x := rkX a b c i); omega
  · cases h
theorem rkMm_ok {k : Rk} {a b c : Int} (hk : k.ok a b c) : ∀ mx u v r, rkMm k mx u v = some r → ∀ cu cv, At (rkVal a b c) u cu → At (rkVal a b c) v cv → ∃ cr, At (rkVal a b c) r cr ∧ MmIs mx cu cv cr := by
  intro mx u v r h cu cv hu hv
  unfold rkMm at h
  split at h
  · rename_i i j
    split at h
    · rename_i p q h1 h2
      obtain rfl := Option.some.inj h
      obtain rfl := at_sym (rk_val hk h1) hu
      obtain rfl := at_sym (rk_val hk h2) hv
      have l1 := rk_lt hk h1 h2
      have l2 := rk_lt hk h2 h1
      cases mx with
      | true =>
        simp only [cond_true, blt_dec]
        by_cases c1 : p < q
        · rw [decide_eq_true c1, cond_true]
          exact ⟨_, hv, _, _, _, rfl, rfl, by rw [cond_true, if_pos (l1.1 c1)]⟩
        · rw [decide_eq_false c1, cond_false]
          exact ⟨_, hu, _, _, _, rfl, rfl, by rw [cond_true, if_neg (fun h => c1 (l1.2 h))]⟩
      | false =>
        simp only [cond_false, blt_dec]
        by_cases c1 : q < p
        · rw [decide_eq_true c1, cond_true]
          exact ⟨_, hv, _, _, _, rfl, rfl, by rw [cond_false, if_pos (l2.1 c1)]⟩
        · rw [decide_eq_false c1, cond_false]
          exact ⟨_, hu, _, _, _, rfl, rfl, by rw [cond_false, if_neg (fun h => c1 (l2.2 h))]⟩
    · cases h
  · cases h
@[reducible] def rkSyms (k : Rk) (a b c : Int) (hk : k.ok a b c) : Syms where
  val := rkVal a b c
  bin := rkBin k
  un := fun _ _ => none
  conv := rkConv
  len := fun _ => none
  mm := rkMm k
  bin_ok := rkBin_ok hk
  un_ok := by intro _ _ _ h; cases h
  conv_ok := rkConv_ok
  len_ok := by intro _ _ h; cases h
  mm_ok := rkMm_ok hk
end Go.Proofs.YtcjolamfjgdgjaaGreatDoor.Ev
