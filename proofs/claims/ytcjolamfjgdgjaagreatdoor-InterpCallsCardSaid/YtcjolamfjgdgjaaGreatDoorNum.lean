/-
  The numbers that a text of decimal digits says: no Go in sight.
-/
namespace Go.Proofs.YtcjolamfjgdgjaaGreatDoor

def isDig (c : UInt8) : Bool := 48 ≤ c.toNat && c.toNat ≤ 57
/-- The value of a list of digits. -/
def decV (l : List UInt8) : Nat := l.foldl (fun m c => m * 10 + (c.toNat - 48)) 0
/-- Is the text a number without leading zeros of at most 19 digits. -/
def okMag (l : List UInt8) : Bool := !l.isEmpty && decide (l.length ≤ 19) && (l.getD 0 0 != 48 || l == [48]) && l.all isDig
def magV (l : List UInt8) : Nat := if okMag l then decV l else 0

theorem decV_snoc (l : List UInt8) (c : UInt8) : decV (l ++ [c]) = decV l * 10 + (c.toNat - 48) := by
  unfold decV
  rw [List.foldl_append]
  rfl
theorem decV_lt_aux : ∀ (l : List UInt8) (m : Nat), l.all isDig = true → l.foldl (fun m c => m * 10 + (c.toNat - 48)) m < (m + 1) * 10 ^ l.length
  | [], m, _ => by simp
  | c :: l, m, h => by
    rw [List.all_cons, Bool.and_eq_true] at h
    have h3 : c.toNat ≤ 57 := by have := h.1; unfold isDig at this; simp at this; omega
    have h1 := decV_lt_aux l (m * 10 + (c.toNat - 48)) h.2
    rw [List.foldl_cons, List.length_cons, Nat.pow_succ]
    refine Nat.lt_of_lt_of_le h1 ?_
    rw [Nat.mul_comm (10 ^ l.length) 10, ← Nat.mul_assoc]
    exact Nat.mul_le_mul_right _ (by omega)
theorem decV_lt (l : List UInt8) (h : l.all isDig = true) : decV l < 10 ^ l.length := by
  have := decV_lt_aux l 0 h
  simpa [decV] using this
theorem decV_small (l : List UInt8) (h : l.all isDig = true) (hk : l.length ≤ 18) : decV l ≤ 999999999999999999 := by
  have h1 := decV_lt l h
  have h2 : 10 ^ l.length ≤ 10 ^ 18 := Nat.pow_le_pow_right (by decide) hk
  have h3 : 10 ^ 18 = 1000000000000000000 := by decide
  omega
theorem decV_max (l : List UInt8) (h : l.all isDig = true) (hk : l.length ≤ 19) : decV l ≤ 9999999999999999999 := by
  have h1 := decV_lt l h
  have h2 : 10 ^ l.length ≤ 10 ^ 19 := Nat.pow_le_pow_right (by decide) hk
  have h3 : 10 ^ 19 = 10000000000000000000 := by decide
  omega
theorem take_snoc (s : ByteArray) (k : Nat) (h : k < s.size) : s.data.toList.take (k + 1) = s.data.toList.take k ++ [s[k]] := by
  rw [List.take_succ_eq_append_getElem (by simpa using h)]; rfl
theorem magV_le (l : List UInt8) : magV l ≤ 9999999999999999999 := by
  unfold magV
  split
  · rename_i h
    unfold okMag at h
    simp only [Bool.and_eq_true, decide_eq_true_eq] at h
    exact decV_max l h.2 h.1.1.2
  · omega
end Go.Proofs.YtcjolamfjgdgjaaGreatDoor
