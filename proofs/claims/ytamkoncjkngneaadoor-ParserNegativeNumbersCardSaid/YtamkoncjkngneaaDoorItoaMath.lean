/-
  Reading what Text writes gives the number back: no Go in sight.
-/
import Derived.Test.YtamkoncjkngneaaDoorPure
import Derived.Test.YtamkoncjkngneaaDoorNum
import Derived.Test.YtamkoncjkngneaaDoorText
import Derived.Lib.ItoaNum
namespace Go.Proofs.YtamkoncjkngneaaDoor
open Go.Lib (decDigits itoa)

theorem dig_toNat (k : Nat) (h : k < 10) : (UInt8.ofNat (48 + k)).toNat = 48 + k := by
  show (48 + k) % 256 = 48 + k
  omega
theorem dec_big {u : Nat} (h : ¬ u < 10) : decDigits u = decDigits (u / 10) ++ [UInt8.ofNat (48 + u % 10)] := by rw [decDigits, dif_neg h]
theorem dec_small {u : Nat} (h : u < 10) : decDigits u = [UInt8.ofNat (48 + u)] := Lib.decDigits_one h

theorem dec_facts : ∀ (n u : Nat), u ≤ n → (decDigits u).all isDig = true ∧ decV (decDigits u) = u ∧ decDigits u ≠ [] ∧ (1 ≤ u → (decDigits u).getD 0 0 ≠ 48)
  | n, u, hn => by
    by_cases h : u < 10
    · rw [dec_small h]
      have hd := dig_toNat u h
      refine ⟨?_, ?_, by simp, ?_⟩
      · simp [isDig]
        omega
      · show 0 * 10 + ((UInt8.ofNat (48 + u)).toNat - 48) = u
        omega
      · intro h1 hc
        have hc' : UInt8.ofNat (48 + u) = 48 := hc
        rw [hc'] at hd
        have : (48 : UInt8).toNat = 48 := rfl
        omega
    · cases n with
      | zero => omega
      | succ n =>
        obtain ⟨i1, i2, i3, i4⟩ := dec_facts n (u / 10) (by omega)
        rw [dec_big h]
        have hd := dig_toNat (u % 10) (by omega)
        refine ⟨?_, ?_, by simp, ?_⟩
        · rw [List.all_append, i1]
          simp [isDig]
          omega
        · rw [decV_snoc, i2, hd]
          omega
        · intro _
          have h4 := i4 (by omega)
          cases hl : decDigits (u / 10) with
          | nil => exact absurd hl i3
          | cons c l =>
            rw [hl] at h4
            exact h4
theorem dec_len : ∀ (k u : Nat), 1 ≤ k → u < 10 ^ k → (decDigits u).length ≤ k
  | 0, u, h, _ => by omega
  | k + 1, u, _, hu => by
    by_cases h : u < 10
    · rw [dec_small h]
      simp
    · rw [dec_big h, List.length_append]
      have hk : 1 ≤ k := by
        rcases Nat.eq_zero_or_pos k with rfl | hk
        · simp at hu; omega
        · exact hk
      have := dec_len k (u / 10) hk (by rw [Nat.pow_succ] at hu; omega)
      simp
      omega
theorem dec_ok (u : Nat) (h : u < 10000000000000000000) : okMag (decDigits u) = true ∧ magV (decDigits u) = u := by
  obtain ⟨i1, i2, i3, i4⟩ := dec_facts u u (Nat.le_refl _)
  have hl := dec_len 19 u (by decide) (by simpa using h)
  have e1 : (decDigits u).isEmpty = false := by simpa using i3
  have e2 : decide ((decDigits u).length ≤ 19) = true := decide_eq_true hl
  have e3 : ((decDigits u).getD 0 0 != 48 || decDigits u == [48]) = true := by
    by_cases hz : u = 0
    · subst hz
      rw [dec_small (by decide)]
      rfl
    · have := i4 (by omega)
      rw [Bool.or_eq_true]
      exact Or.inl (bne_iff_ne.2 this)
  have ok : okMag (decDigits u) = true := by
    unfold okMag
    rw [e1, e2, e3, i1]
    rfl
  exact ⟨ok, by rw [magV, if_pos ok, i2]⟩
theorem itoa_par (x : Int) (h : W64 x) : parV (itoa x) = x ∧ parOk (itoa x) = true := by
  unfold W64 at h
  by_cases hn : x < 0
  · have e : itoa x = 45 :: decDigits x.natAbs := by rw [itoa, if_pos hn]
    obtain ⟨o1, o2⟩ := dec_ok x.natAbs (by omega)
    have hng : negTx (45 :: decDigits x.natAbs) = true := rfl
    rw [e]
    constructor
    · unfold parV
      rw [if_pos hng, List.drop_one, List.tail_cons, o1, o2, if_pos ⟨rfl, by omega, by omega⟩]
      omega
    · unfold parOk
      rw [if_pos hng, List.drop_one, List.tail_cons, o1, o2]
      have a1 : (x.natAbs != 0) = true := by rw [bne_iff_ne]; omega
      have a2 : decide (x.natAbs ≤ 9223372036854775808) = true := by rw [decide_eq_true_eq]; omega
      rw [a1, a2]
      rfl
  · have e : itoa x = decDigits x.toNat := by rw [itoa, if_neg hn]
    obtain ⟨o1, o2⟩ := dec_ok x.toNat (by omega)
    obtain ⟨i1, _, i3, _⟩ := dec_facts x.toNat x.toNat (Nat.le_refl _)
    have hng : negTx (decDigits x.toNat) = false := by
      cases hl : decDigits x.toNat with
      | nil => exact absurd hl i3
      | cons c l =>
        rw [hl, List.all_cons, Bool.and_eq_true] at i1
        show (true && c == 45) = false
        rw [Bool.true_and, beq_eq_false_iff_ne]
        intro hc
        rw [hc] at i1
        exact absurd i1.1 (by decide)
    rw [e]
    constructor
    · unfold parV
      rw [if_neg (by rw [hng]; decide), o1, o2, if_pos ⟨rfl, by omega⟩]
      omega
    · unfold parOk
      rw [if_neg (by rw [hng]; decide), o1, o2]
      have a2 : decide (x.toNat < 9223372036854775808) = true := by rw [decide_eq_true_eq]; omega
      rw [a2]
      rfl
theorem itoa_len (x : Int) (h : W64 x) : (itoa x).length ≤ 20 := by
  unfold W64 at h
  unfold itoa
  split
  · have := dec_len 19 x.natAbs (by decide) (by omega)
    simp
    omega
  · have := dec_len 19 x.toNat (by decide) (by omega)
    omega
theorem itoa_same (x y : Int) (hx : W64 x) (hy : W64 y) : (itoa x == itoa y) = (x == y) := by
  by_cases h : x = y
  · subst h
    simp
  · have e : (x == y) = false := by simpa using h
    rw [e, beq_eq_false_iff_ne]
    intro hc
    apply h
    rw [← (itoa_par x hx).1, hc, (itoa_par y hy).1]
end Go.Proofs.YtamkoncjkngneaaDoor
