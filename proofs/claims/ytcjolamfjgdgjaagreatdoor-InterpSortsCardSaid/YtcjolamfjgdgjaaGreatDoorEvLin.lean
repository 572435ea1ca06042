/-
  Letters that stand for sums a * x + b * y + d of two unknown numbers whose bounds are known.
-/
import Derived.Test.YtcjolamfjgdgjaaGreatDoorEvCk
namespace Go.Proofs.YtcjolamfjgdgjaaGreatDoor.Ev
open Go.RowKit

structure Lin where
  a : Int
  b : Int
  d : Int
def Lin.val (L : Lin) (x y : Int) : Int := L.a * x + L.b * y + L.d
def Lin.same (L M : Lin) : Bool := decide (L.a = M.a) && (decide (L.b = M.b) && decide (L.d = M.d))
theorem Lin.same_eq {L M : Lin} (h : L.same M = true) : L = M := by
  obtain ⟨a, b, d⟩ := L
  obtain ⟨a', b', d'⟩ := M
  simp only [Lin.same, Bool.and_eq_true, decide_eq_true_eq] at h
  obtain ⟨rfl, rfl, rfl⟩ := h
  rfl
def zz (d : Int) : Nat := match d with
  | .ofNat n => Nat.mul 2 n
  | .negSucc n => Nat.add (Nat.mul 2 n) 1
def unzz (n : Nat) : Int := bif Nat.beq (Nat.mod n 2) 0 then .ofNat (Nat.div n 2) else .negSucc (Nat.div n 2)
/-- A letter's number; 16 letters are kept for numbers of their own. -/
def Lin.enc (L : Lin) : Nat := Nat.add (Nat.add (Nat.mul (Nat.add (Nat.mul (zz L.d) 128) (zz L.a)) 128) (zz L.b)) 16
def Lin.dec (i : Nat) : Lin := ⟨unzz (Nat.mod (Nat.div (Nat.sub i 16) 128) 128), unzz (Nat.mod (Nat.sub i 16) 128), unzz (Nat.div (Nat.div (Nat.sub i 16) 128) 128)⟩
/-- Bounds of the two numbers. -/
structure Rng where
  lx : Int
  hx : Int
  ly : Int
  hy : Int
def Rng.ok (r : Rng) (x y : Int) : Prop := r.lx ≤ x ∧ x ≤ r.hx ∧ r.ly ≤ y ∧ y ≤ r.hy
def Lin.lo (r : Rng) (L : Lin) : Int := (bif decide (0 ≤ L.a) then L.a * r.lx else L.a * r.hx) + (bif decide (0 ≤ L.b) then L.b * r.ly else L.b * r.hy) + L.d
def Lin.hi (r : Rng) (L : Lin) : Int := (bif decide (0 ≤ L.a) then L.a * r.hx else L.a * r.lx) + (bif decide (0 ≤ L.b) then L.b * r.hy else L.b * r.ly) + L.d
theorem mul_bounds {a x l h : Int} (h1 : l ≤ x) (h2 : x ≤ h) : (bif decide (0 ≤ a) then a * l else a * h) ≤ a * x ∧ a * x ≤ (bif decide (0 ≤ a) then a * h else a * l) := by
  by_cases ha : 0 ≤ a
  · simp only [decide_eq_true ha, cond_true]
    exact ⟨Int.mul_le_mul_of_nonneg_left h1 ha, Int.mul_le_mul_of_nonneg_left h2 ha⟩
  · simp only [decide_eq_false ha, cond_false]
    have ha' : a ≤ 0 := by omega
    exact ⟨Int.mul_le_mul_of_nonpos_left ha' h2, Int.mul_le_mul_of_nonpos_left ha' h1⟩
theorem Lin.bounds {r : Rng} {x y : Int} (hr : r.ok x y) (L : Lin) : L.lo r ≤ L.val x y ∧ L.val x y ≤ L.hi r := by
  obtain ⟨h1, h2, h3, h4⟩ := hr
  obtain ⟨k1, k2⟩ := mul_bounds (a := L.a) h1 h2
  obtain ⟨k3, k4⟩ := mul_bounds (a := L.b) h3 h4
  unfold Lin.lo Lin.hi Lin.val
  omega
def Lin.fits (r : Rng) (L : Lin) : Bool := decide (-9223372036854775808 ≤ L.lo r) && decide (L.hi r ≤ 9223372036854775807)
def Lin.minus (L M : Lin) : Lin := ⟨L.a - M.a, L.b - M.b, L.d - M.d⟩
theorem Lin.minus_val (L M : Lin) (x y : Int) : (L.minus M).val x y = L.val x y - M.val x y := by
  simp only [Lin.minus, Lin.val, Int.sub_mul]; omega
def Lin.plus (L M : Lin) : Lin := ⟨L.a + M.a, L.b + M.b, L.d + M.d⟩
theorem Lin.plus_val (L M : Lin) (x y : Int) : (L.plus M).val x y = L.val x y + M.val x y := by
  simp only [Lin.plus, Lin.val, Int.add_mul]; omega
def Lin.times (c : Int) (L : Lin) : Lin := ⟨c * L.a, c * L.b, c * L.d⟩
theorem Lin.times_val (c : Int) (L : Lin) (x y : Int) : (L.times c).val x y = c * L.val x y := by
  simp only [Lin.times, Lin.val, Int.mul_add, Int.mul_assoc]
/-- A value of the run, as a sum; is it a letter? -/
def linOf : Value → Option (Lin × Bool)
  | .int .i64 n => some (⟨0, 0, n⟩, false)
  | .chan (some i) => bif Nat.ble 16 i then some (Lin.dec i, true) else none
  | _ => none
def linTo (L : Lin) : Option Value :=
  bif decide (L.a = 0) && decide (L.b = 0) then some (.int .i64 (IntKind.i64.wrap L.d)) else bif (Lin.dec L.enc).same L && Nat.ble 16 L.enc then some (.chan (some L.enc)) else none
/-- D < 0, and the like: what the bounds say. -/
def lssD (r : Rng) (D : Lin) : Option Bool := bif decide (D.hi r < 0) then some true else bif decide (0 ≤ D.lo r) then some false else none
def eqlD (r : Rng) (D : Lin) : Option Bool := bif decide (D.hi r < 0) || decide (0 < D.lo r) then some false else bif decide (D.hi r = 0) && decide (D.lo r = 0) then some true else none
def boolV (neg : Bool) : Option Bool → Option Value
  | some b => some (.bool (b != neg))
  | none => none
def fits2 (r : Rng) (x y : Lin × Bool) : Bool := (!x.2 || x.1.fits r) && (!y.2 || y.1.fits r)
def linEq (r : Rng) (neg : Bool) (x y : Lin × Bool) : Option Value :=
  bif x.2 && y.2 && x.1.same y.1 then some (.bool (!neg)) else bif fits2 r x y then boolV neg (eqlD r (x.1.minus y.1)) else none
def linLss (r : Rng) (neg : Bool) (x y : Lin × Bool) : Option Value :=
  bif fits2 r x y then boolV neg (lssD r (x.1.minus y.1)) else none
def linOp (r : Rng) (x y : Lin × Bool) : BinOp → Option Value
  | .add => linTo (x.1.plus y.1)
  | .sub => linTo (x.1.minus y.1)
  | .mul => bif !x.2 then linTo (y.1.times x.1.d) else bif !y.2 then linTo (x.1.times y.1.d) else none
  | .eql => linEq r false x y
  | .neq => linEq r true x y
  | .lss => linLss r false x y
  | .geq => linLss r true x y
  | .gtr => linLss r false y x
  | .leq => linLss r true y x
  | _ => none
def linBin (r : Rng) (op : BinOp) (a b : Value) : Option Value := match linOf a, linOf b with
  | some x, some y => linOp r x y op
  | _, _ => none
def linConv : IntKind → Value → Option Value
  | .i64, .chan (some i) => bif Nat.ble 16 i then some (.chan (some i)) else none
  | _, _ => none
def linMm (r : Rng) (mx : Bool) (a b : Value) : Option Value := match linOf a, linOf b with
  | some x, some y => bif fits2 r x y then (match lssD r (bif mx then x.1.minus y.1 else y.1.minus x.1) with
    | some true => some b
    | some false => some a
    | none => none) else none
  | _, _ => none
def linVal (raws : List Int) (x y : Int) (i : Nat) : Option Value :=
  bif Nat.ble 16 i then some (.int .i64 (IntKind.i64.wrap ((Lin.dec i).val x y))) else (raws[i]?).map (Value.int .i64)
theorem wrap_bmod (n : Int) : IntKind.i64.wrap n = n.bmod 18446744073709551616 := by
  have h : IntKind.i64.wrap n = if (true && decide (n % 18446744073709551616 ≥ 9223372036854775808)) = true then n % 18446744073709551616 - 18446744073709551616 else n % 18446744073709551616 := rfl
  rw [h, Int.bmod_def]
  by_cases c : n % 18446744073709551616 ≥ 9223372036854775808
  · rw [if_pos (by simpa using c), if_neg (by omega)]
    rfl
  · rw [if_neg (by simpa using c), if_pos (by omega)]
    rfl
theorem wrap_eq {n : Int} (h1 : -9223372036854775808 ≤ n) (h2 : n ≤ 9223372036854775807) : IntKind.i64.wrap n = n := by
  rw [wrap_bmod, Int.bmod_def]
  split <;> omega
theorem wrap_idem (n : Int) : IntKind.i64.wrap (IntKind.i64.wrap n) = IntKind.i64.wrap n := by simp [wrap_bmod]
/-- The number behind a value, as the sum says it. -/
theorem linOf_ok {raws : List Int} {x y : Int} {v c : Value} {p : Lin × Bool} (h : linOf v = some p) (hc : At (linVal raws x y) v c) :
    ∃ n, c = .int .i64 n ∧ IntKind.i64.wrap n = IntKind.i64.wrap (p.1.val x y) ∧ (p.2 = false → n = p.1.val x y) ∧ (p.2 = true → n = IntKind.i64.wrap (p.1.val x y)) ∧ (p.2 = false → p.1 = ⟨0, 0, p.1.d⟩) := by
  unfold linOf at h
  split at h
  · rename_i n
    obtain rfl := Option.some.inj h
    obtain rfl := at_int hc
    exact ⟨n, rfl, by simp [Lin.val], fun _ => by simp [Lin.val], (fun h => by cases h), fun _ => rfl⟩
  · rename_i i
    obtain ⟨hi, h⟩ := bif_some h
    obtain rfl := Option.some.inj h
    have hv : linVal raws x y i = some (.int .i64 (IntKind.i64.wrap ((Lin.dec i).val x y))) := by simp [linVal, hi]
    obtain rfl := at_sym hv hc
    exact ⟨_, rfl, wrap_idem _, (fun h => by cases h), fun _ => rfl, fun h => by cases h⟩
  · cases h
theorem linTo_ok {raws : List Int} {x y : Int} {L : Lin} {v : Value} (h : linTo L = some v) : At (linVal raws x y) v (.int .i64 (IntKind.i64.wrap (L.val x y))) := by
  unfold linTo at h
  cases hz : (decide (L.a = 0) && decide (L.b = 0)) with
  | true =>
    rw [hz, cond_true] at h
    obtain rfl := Option.some.inj h
    simp only [Bool.and_eq_true, decide_eq_true_eq] at hz
    have : L.val x y = L.d := by simp [Lin.val, hz.1, hz.2]
    rw [this]
    exact ground_at rfl
  | false =>
    rw [hz, cond_false] at h
    obtain ⟨h1, h2⟩ := bif_some h
    obtain rfl := Option.some.inj h2
    rw [Bool.and_eq_true] at h1
    have e := Lin.same_eq h1.1
    refine sym_at ?_ rfl
    unfold linVal
    rw [h1.2, cond_true, e]
theorem lssD_ok {r : Rng} {x y : Int} (hr : r.ok x y) {D : Lin} {b : Bool} (h : lssD r D = some b) : b = decide (D.val x y < 0) := by
  obtain ⟨k1, k2⟩ := Lin.bounds hr D
  unfold lssD at h
  by_cases c1 : D.hi r < 0
  · rw [decide_eq_true c1, cond_true] at h
    obtain rfl := Option.some.inj h
    exact (decide_eq_true (by omega)).symm
  · rw [decide_eq_false c1, cond_false] at h
    by_cases c2 : 0 ≤ D.lo r
    · rw [decide_eq_true c2, cond_true] at h
      obtain rfl := Option.some.inj h
      exact (decide_eq_false (by omega)).symm
    · rw [decide_eq_false c2, cond_false] at h; cases h
theorem eqlD_ok {r : Rng} {x y : Int} (hr : r.ok x y) {D : Lin} {b : Bool} (h : eqlD r D = some b) : b = decide (D.val x y = 0) := by
  obtain ⟨k1, k2⟩ := Lin.bounds hr D
  unfold eqlD at h
  cases c : (decide (D.hi r < 0) || decide (0 < D.lo r)) with
  | true =>
    rw [c, cond_true] at h
    obtain rfl := Option.some.inj h
    rw [Bool.or_eq_true, decide_eq_true_eq, decide_eq_true_eq] at c
    exact (decide_eq_false (by omega)).symm
  | false =>
    rw [c, cond_false] at h
    obtain ⟨h1, h2⟩ := bif_some h
    obtain rfl := Option.some.inj h2
    simp only [Bool.and_eq_true, decide_eq_true_eq] at h1
    exact (decide_eq_true (by omega)).symm
theorem fits_ok {r : Rng} {x y : Int} (hr : r.ok x y) {p : Lin × Bool} {n : Int} (h : (!p.2 || p.1.fits r) = true) (h1 : p.2 = false → n = p.1.val x y) (h2 : p.2 = true → n = IntKind.i64.wrap (p.1.val x y)) : n = p.1.val x y := by
  cases hp : p.2 with
  | false => exact h1 hp
  | true =>
    rw [hp] at h
    simp only [Bool.not_true, Bool.false_or, Lin.fits, Bool.and_eq_true, decide_eq_true_eq] at h
    obtain ⟨k1, k2⟩ := Lin.bounds hr p.1
    rw [h2 hp]
    exact wrap_eq (by omega) (by omega)
theorem boolV_ok {neg : Bool} {o : Option Bool} {v : Value} (h : boolV neg o = some v) : ∃ b, o = some b ∧ v = .bool (b != neg) := by
  unfold boolV at h
  split at h
  · exact ⟨_, rfl, (Option.some.inj h).symm⟩
  · cases h
theorem wrap_add2 {a b c d : Int} (h1 : IntKind.i64.wrap a = IntKind.i64.wrap b) (h2 : IntKind.i64.wrap c = IntKind.i64.wrap d) : IntKind.i64.wrap (a + c) = IntKind.i64.wrap (b + d) := by
  simp only [wrap_bmod] at *
  rw [← Int.bmod_add_bmod, h1, Int.bmod_add_bmod, ← Int.add_bmod_bmod, h2, Int.add_bmod_bmod]
theorem wrap_sub2 {a b c d : Int} (h1 : IntKind.i64.wrap a = IntKind.i64.wrap b) (h2 : IntKind.i64.wrap c = IntKind.i64.wrap d) : IntKind.i64.wrap (a - c) = IntKind.i64.wrap (b - d) := by
  simp only [wrap_bmod] at *
  rw [← Int.bmod_sub_bmod, h1, Int.bmod_sub_bmod, ← Int.sub_bmod_bmod, h2, Int.sub_bmod_bmod]
theorem wrap_mul2 {a b c d : Int} (h1 : IntKind.i64.wrap a = IntKind.i64.wrap b) (h2 : IntKind.i64.wrap c = IntKind.i64.wrap d) : IntKind.i64.wrap (a * c) = IntKind.i64.wrap (b * d) := by
  simp only [wrap_bmod] at *
  rw [← Int.bmod_mul_bmod, h1, Int.bmod_mul_bmod, ← Int.mul_bmod_bmod, h2, Int.mul_bmod_bmod]
theorem linLss_ok {r : Rng} {x y : Int} (hr : r.ok x y) {neg : Bool} {p q : Lin × Bool} {v : Value} (h : linLss r neg p q = some v) {n m : Int}
    (a1 : p.2 = false → n = p.1.val x y) (a2 : p.2 = true → n = IntKind.i64.wrap (p.1.val x y)) (b1 : q.2 = false → m = q.1.val x y) (b2 : q.2 = true → m = IntKind.i64.wrap (q.1.val x y)) : v = .bool (decide (n < m) != neg) := by
  unfold linLss at h
  obtain ⟨h1, h2⟩ := bif_some h
  simp only [fits2, Bool.and_eq_true] at h1
  have e1 := fits_ok hr h1.1 a1 a2
  have e2 := fits_ok hr h1.2 b1 b2
  obtain ⟨b, hb, rfl⟩ := boolV_ok h2
  have := lssD_ok hr hb
  rw [Lin.minus_val] at this
  rw [this, e1, e2]
  congr 2
  exact decide_eq_decide.2 (by omega)
theorem linEq_ok {r : Rng} {x y : Int} (hr : r.ok x y) {neg : Bool} {p q : Lin × Bool} {v : Value} (h : linEq r neg p q = some v) {n m : Int}
    (a1 : p.2 = false → n = p.1.val x y) (a2 : p.2 = true → n = IntKind.i64.wrap (p.1.val x y)) (b1 : q.2 = false → m = q.1.val x y) (b2 : q.2 = true → m = IntKind.i64.wrap (q.1.val x y)) : v = .bool (decide (n = m) != neg) := by
  unfold linEq at h
  cases c : (p.2 && q.2 && p.1.same q.1) with
  | true =>
    rw [c, cond_true] at h
    obtain rfl := Option.some.inj h
    simp only [Bool.and_eq_true] at c
    have e := Lin.same_eq c.2
    have : n = m := by rw [a2 c.1.1, b2 c.1.2, e]
    rw [decide_eq_true this]
    cases neg <;> rfl
  | false =>
    rw [c, cond_false] at h
    obtain ⟨h1, h2⟩ := bif_some h
    simp only [fits2, Bool.and_eq_true] at h1
    have e1 := fits_ok hr h1.1 a1 a2
    have e2 := fits_ok hr h1.2 b1 b2
    obtain ⟨b, hb, rfl⟩ := boolV_ok h2
    have := eqlD_ok hr hb
    rw [Lin.minus_val] at this
    rw [this, e1, e2]
    congr 2
    exact decide_eq_decide.2 (by omega)
theorem linBin_ok {raws : List Int} {r : Rng} {x y : Int} (hr : r.ok x y) : ∀ op a b v, linBin r op a b = some v → ∀ ca cb, At (linVal raws x y) a ca → At (linVal raws x y) b cb → ∃ cv, At (linVal raws x y) v cv ∧ BinIs op ca cb cv := by
  intro op a b v h ca cb ha hb
  unfold linBin at h
  split at h
  · rename_i p q hp hq
    obtain ⟨n, rfl, n1, n2, n3, n4⟩ := linOf_ok hp ha
    obtain ⟨m, rfl, m1, m2, m3, m4⟩ := linOf_ok hq hb
    have arith : ∀ (L : Lin) (k : Int), linTo L = some v → IntKind.i64.wrap k = IntKind.i64.wrap (L.val x y) → ∃ cv, At (linVal raws x y) v cv ∧ cv = .int .i64 (IntKind.i64.wrap k) := fun L k hL hk => ⟨_, linTo_ok hL, by rw [hk]⟩
    have fin : ∀ cv, At (linVal raws x y) v cv → fastBin op (.int .i64 n) (.int .i64 m) = some cv → ∃ cv, At (linVal raws x y) v cv ∧ BinIs op (.int .i64 n) (.int .i64 m) cv := fun cv h1 h2 => ⟨cv, h1, binIs_of_fast h2⟩
    cases op <;> first | (cases h; done) | skip
    · obtain ⟨cv, h1, rfl⟩ := arith _ (n + m) h (by rw [Lin.plus_val]; exact wrap_add2 n1 m1)
      exact fin _ h1 rfl
    · obtain ⟨cv, h1, rfl⟩ := arith _ (n - m) h (by rw [Lin.minus_val]; exact wrap_sub2 n1 m1)
      exact fin _ h1 rfl
    · simp only [linOp] at h
      cases hp2 : p.2 with
      | false =>
        rw [hp2] at h
        have e : n = p.1.d := by rw [n2 hp2, n4 hp2]; simp [Lin.val]
        obtain ⟨cv, h1, rfl⟩ := arith _ (n * m) h (by rw [Lin.times_val, ← e]; exact wrap_mul2 rfl m1)
        exact fin _ h1 rfl
      | true =>
        rw [hp2] at h
        simp only [Bool.not_true, cond_false] at h
        obtain ⟨h0, h⟩ := bif_some h
        have hq2 : q.2 = false := by simpa using h0
        have e : m = q.1.d := by rw [m2 hq2, m4 hq2]; simp [Lin.val]
        obtain ⟨cv, h1, rfl⟩ := arith _ (n * m) h (by rw [Lin.times_val, ← e, Int.mul_comm]; exact wrap_mul2 rfl n1)
        exact fin _ h1 rfl
    all_goals simp only [linOp] at h
    · obtain rfl := linEq_ok hr h n2 n3 m2 m3
      exact fin _ (ground_at rfl) (by cases hd : decide (n = m) <;> simp [fastBin, fastInt, isShift, hd])
    · obtain rfl := linEq_ok hr h n2 n3 m2 m3
      exact fin _ (ground_at rfl) (by cases hd : decide (n = m) <;> simp [fastBin, fastInt, isShift, hd])
    · obtain rfl := linLss_ok hr h n2 n3 m2 m3
      exact fin _ (ground_at rfl) (by cases hd : decide (n < m) <;> simp [fastBin, fastInt, isShift, hd])
    · obtain rfl := linLss_ok hr h m2 m3 n2 n3
      have : decide (n ≤ m) = !decide (m < n) := by rw [← decide_not]; exact decide_eq_decide.2 (by omega)
      exact fin _ (ground_at rfl) (by cases hd : decide (m < n) <;> simp [fastBin, fastInt, isShift, this, hd])
    · obtain rfl := linLss_ok hr h m2 m3 n2 n3
      exact fin _ (ground_at rfl) (by cases hd : decide (m < n) <;> simp [fastBin, fastInt, isShift, hd])
    · obtain rfl := linLss_ok hr h n2 n3 m2 m3
      have : decide (m ≤ n) = !decide (n < m) := by rw [← decide_not]; exact decide_eq_decide.2 (by omega)
      exact fin _ (ground_at rfl) (by cases hd : decide (n < m) <;> simp [fastBin, fastInt, isShift, this, hd])
  · cases h
theorem linConv_ok {raws : List Int} {x y : Int} : ∀ k a v, linConv k a = some v → ∀ ca, At (linVal raws x y) a ca → ∃ cv, At (linVal raws x y) v cv ∧ ConvIs k ca cv := by
  intro k a v h ca ha
  unfold linConv at h
  split at h
  · rename_i i
    obtain ⟨hi, h⟩ := bif_some h
    obtain rfl := Option.some.inj h
    have hv : linVal raws x y i = some (.int .i64 (IntKind.i64.wrap ((Lin.dec i).val x y))) := by simp [linVal, hi]
    obtain rfl := at_sym hv ha
    exact ⟨_, ha, _, _, rfl, by rw [wrap_idem]⟩
  · cases h
theorem linMm_ok {raws : List Int} {r : Rng} {x y : Int} (hr : r.ok x y) : ∀ mx a b v, linMm r mx a b = some v → ∀ ca cb, At (linVal raws x y) a ca → At (linVal raws x y) b cb → ∃ cv, At (linVal raws x y) v cv ∧ MmIs mx ca cb cv := by
  intro mx a b v h ca cb ha hb
  unfold linMm at h
  split at h
  · rename_i p q hp hq
    obtain ⟨n, rfl, _, n2, n3, _⟩ := linOf_ok hp ha
    obtain ⟨m, rfl, _, m2, m3, _⟩ := linOf_ok hq hb
    obtain ⟨h1, h2⟩ := bif_some h
    simp only [fits2, Bool.and_eq_true] at h1
    have e1 := fits_ok hr h1.1 n2 n3
    have e2 := fits_ok hr h1.2 m2 m3
    cases hl : lssD r (bif mx then p.1.minus q.1 else q.1.minus p.1) with
    | none => rw [hl] at h2; cases h2
    | some t =>
      rw [hl] at h2
      have ht := lssD_ok hr hl
      cases mx with
      | true =>
        simp only [cond_true, Lin.minus_val] at ht
        cases t with
        | true =>
          obtain rfl := Option.some.inj h2
          have := of_decide_eq_true ht.symm
          refine ⟨_, hb, _, _, _, rfl, rfl, ?_⟩
          simp only [cond_true]
          rw [if_pos (by omega)]
        | false =>
          obtain rfl := Option.some.inj h2
          have := of_decide_eq_false ht.symm
          refine ⟨_, ha, _, _, _, rfl, rfl, ?_⟩
          simp only [cond_true]
          rw [if_neg (by omega)]
      | false =>
        simp only [cond_false, Lin.minus_val] at ht
        cases t with
        | true =>
          obtain rfl := Option.some.inj h2
          have := of_decide_eq_true ht.symm
          refine ⟨_, hb, _, _, _, rfl, rfl, ?_⟩
          simp only [cond_false]
          rw [if_pos (by omega)]
        | false =>
          obtain rfl := Option.some.inj h2
          have := of_decide_eq_false ht.symm
          refine ⟨_, ha, _, _, _, rfl, rfl, ?_⟩
          simp only [cond_false]
          rw [if_neg (by omega)]
  · cases h
@[reducible] def linSyms (raws : List Int) (r : Rng) (x y : Int) (hr : r.ok x y) : Syms where
  val := linVal raws x y
  bin := linBin r
  un := fun _ _ => none
  conv := linConv
  len := fun _ => none
  mm := linMm r
  bin_ok := linBin_ok hr
  un_ok := by intro _ _ _ h; cases h
  conv_ok := linConv_ok
  len_ok := by intro _ _ h; cases h
  mm_ok := linMm_ok hr
/-- What is known beforehand: Pick of a number that the law was handed. -/
def vTabGet (tab : List (Nat × Int × Value)) (i : Nat) (m : Int) : Option Value :=
  match tab.find? fun x => Nat.beq x.1 i && decide (x.2.1 = m) with
  | some x => some x.2.2
  | none => none
def vOrcArgs (tab : List (Nat × Int × Value)) : List Value → Option Value
  | [.chan (some i), .int .i64 m] => vTabGet tab i m
  | _ => none
def vOrcOf (pickF exF : FuncId) (tab : List (Nat × Int × Value)) : FuncId → List Value → Option Value := fun f args =>
  bif Nat.beq f exF then orcNone args else bif Nat.beq f pickF then vOrcArgs tab args else none
section
variable [Syms] {P : Program} {gl : Nat} {w0 : World}
theorem vOrc_ok {gs : List (Nat × List Value)} {pickF exF : FuncId} {tab : List (Nat × Int × Value)} (hg : GlobIs gs w0)
    (hpick : ∀ (n m : Int) (w : World), 1 ≤ m → m ≤ 1000000000 → Calls P pickF #[.int .i64 n, .int .i64 m] w fun e w' => e = .returned (.int .i64 (n % m)) ∧ w = w')
    (hex : ∀ w : World, GlobIs gs w → Calls P exF #[] w fun e w' => e = .returned (.bool true) ∧ Below w.heap.size w w')
    (htab : ∀ x ∈ tab, 1 ≤ x.2.1 ∧ x.2.1 ≤ 1000000000 ∧ ∃ n, Syms.val x.1 = some (.int .i64 n) ∧ At Syms.val x.2.2 (.int .i64 (n % x.2.1))) :
    CallOK P gl w0 (quiet (vOrcOf pickF exF tab)) := by
  refine quiet_ok ?_
  intro f args v h opn ρ σ w cargs hs ha
  unfold vOrcOf at h
  cases hf : Nat.beq f exF with
  | true =>
    rw [hf] at h
    obtain rfl := Nat.eq_of_beq_eq_true hf
    simp only [cond_true] at h
    unfold orcNone at h
    split at h
    · obtain rfl := Option.some.inj h
      have hc : cargs = #[] := by
        cases cargs with
        | mk l => cases ha; rfl
      subst hc
      refine (hex w (hg.keep hs.old)).mono ?_
      rintro e w' ⟨rfl, hb⟩
      exact ⟨_, rfl, .refl rfl, hs.quiet hb⟩
    · cases h
  | false =>
    rw [hf] at h
    simp only [cond_false] at h
    obtain ⟨hp, hq⟩ := bif_some h
    clear h
    obtain rfl := Nat.eq_of_beq_eq_true hp
    unfold vOrcArgs at hq
    split at hq
    · rename_i i m
      unfold vTabGet at hq
      split at hq
      · rename_i x hx
        obtain rfl := Option.some.inj hq
        have hb := List.find?_some hx
        have hm := List.mem_of_find?_eq_some hx
        rw [Bool.and_eq_true] at hb
        have h1 := Nat.eq_of_beq_eq_true hb.1
        have h2 : x.2.1 = m := of_decide_eq_true hb.2
        obtain ⟨k1, k2, k3⟩ := htab x hm
        cases cargs with
        | mk l =>
          cases ha with
          | cons hc1 hc2 =>
            cases hc2 with
            | cons hc2 hc3 =>
              cases hc3
              cases hc1 with
              | refl hgr => simp [ground, cellGround] at hgr
              | sym hn _ =>
                obtain rfl := hc2.int_inv
                obtain ⟨n, k4, k3⟩ := k3
                rw [h1, hn] at k4
                obtain rfl := Option.some.inj k4
                rw [h2] at k1 k2 k3
                refine (hpick n m w k1 k2).mono ?_
                rintro e w' ⟨rfl, rfl⟩
                exact ⟨_, rfl, VR.ofAt k3, hs⟩
      · cases hq
    · cases hq
/-- Names that are known to be names. -/
theorem strOrc_ok {gs : List (Nat × List Value)} (hg : GlobIs gs w0) {F : FuncId} {names : List (List UInt8)}
    (h : ∀ s ∈ names, ∀ w : World, GlobIs gs w → Calls P F #[.string ⟨s.toArray⟩] w fun e w' => e = .returned (.bool true) ∧ Below w.heap.size w w') : CallOK P gl w0 (quiet (strOrc F names)) := by
  refine quiet_ok ?_
  intro f args v hq opn ρ σ w cargs hs ha
  unfold strOrc at hq
  split at hq
  · rename_i s
    obtain ⟨h1, h2⟩ := bif_some hq
    obtain rfl := Option.some.inj h2
    rw [Bool.and_eq_true] at h1
    obtain rfl := Nat.eq_of_beq_eq_true h1.1
    obtain ⟨t, ht, he⟩ := List.any_eq_true.1 h1.2
    rw [lEq_eq] at he
    have e := of_decide_eq_true he
    cases cargs with
    | mk l =>
      cases ha with
      | cons hc1 hc2 =>
        cases hc2
        obtain rfl := hc1.string_inv
        have es : s = ⟨t.toArray⟩ := by
          rw [← e]
        rw [es]
        refine (h t ht w (hg.keep hs.old)).mono ?_
        rintro e w' ⟨rfl, hb⟩
        exact ⟨_, rfl, .refl rfl, hs.quiet hb⟩
  · cases hq
theorem no_orc : CallOK P gl w0 noOracle := by
  intro f args σ v σ' h
  cases h
/-- A LAW BY A RUN, IN PIECES: what the reference's parser answers of a text, what the checker answers of the program, and the rest. -/
theorem law_pieces (hm : P.follows .mixedOrders = true) (hng : NoCount P) {gs : List (Nat × List Value)} {next : Nat} (hok : startOk gs gl next = true) (hg : GlobIs gs w0) {parseF checkF nameF lawF : FuncId} {names : List (List UInt8)}
    (hnames : ∀ s ∈ names, ∀ w : World, GlobIs gs w → Calls P nameF #[.string ⟨s.toArray⟩] w fun e w' => e = .returned (.bool true) ∧ Below w.heap.size w w')
    {orcP : Oracle} (hP : CallOK P gl w0 orcP) {r1 n1 r2 n2 r3 n3 : Nat} {T p : List Value} {nw ro : List (Nat × Blk)} {v r : Value} {N : Nat}
    (hparse : litRun nw gs v N (evCall P gl orcP r1 n1 parseF T ⟨startMem gs, next⟩) = true) (hlit : litOk (ro ++ tabsB gs) N p = true)
    (hcheck : answers r (evCall P gl (quiet (strOrc nameF names)) r2 n2 checkF p (litSt ro gs N)) = true) {orc : Oracle} (horc : CallOK P gl w0 orc) {args : List Value} {cargs : Array Value} (hargs : ∀ ρ, VRs ρ args cargs.toList)
    (h : saysYes (evCall P gl (orElse (memo parseF T ⟨startMem gs, next⟩ (v, litSt nw gs N)) (orElse (quietLit checkF p (ro ++ tabsB gs) r) orc)) r3 n3 lawF args ⟨startMem gs, next⟩) = true) :
    Calls P lawF cargs w0 fun e w' => e = .returned (.bool true) ∧ Below w0.heap.size w0 w' :=
  law_of_orc hm hng hok hargs (orElse_ok (lit_ok (call_ok hm hng hP n1) hparse) (orElse_ok (quietLit_ok hg (fun _ hw => call_ok hm hng (strOrc_ok hw hnames) n2) hok hlit hcheck) horc)) h hg
end
end Go.Proofs.YtcjolamfjgdgjaaGreatDoor.Ev
