/-
  'fulling/fullinglaw3.ParserNegativeNumbers': what its runs know is so.
-/
import Derived.Test.YtamkoncjkngneaaDoorNegHead
import Derived.Test.YtamkoncjkngneaaDoorRText
import Derived.Test.YtamkoncjkngneaaDoorLexScan
import Derived.Test.YtamkoncjkngneaaDoorPick
namespace Go.Proofs.YtamkoncjkngneaaDoor
open Go.RowKit
theorem nCat_is {a b : List UInt8} (h : a.length + b.length ≤ 1000) : Ev.BinIs .add (nStr a) (nStr b) (nStr (a ++ b)) := by
  refine ⟨rfl, fun P w t => ?_⟩
  have e : (⟨a.toArray⟩ : ByteArray) ++ (⟨b.toArray⟩ : ByteArray) = ⟨(a ++ b).toArray⟩ := by
    apply ByteArray.ext
    simp [ByteArray.data_append]
  have hs : ¬ (((⟨a.toArray⟩ : ByteArray).size + (⟨b.toArray⟩ : ByteArray).size : Nat) : Int) > IntKind.i64.max := by
    have h1 : (⟨a.toArray⟩ : ByteArray).size = a.length := by simp [ByteArray.size]
    have h2 : (⟨b.toArray⟩ : ByteArray).size = b.length := by simp [ByteArray.size]
    rw [h1, h2]
    have : IntKind.i64.max = 9223372036854775807 := by decide
    rw [this]
    omega
  simp only [nStr, Go.binOp, Op.stringOp, hs, if_false, e]
  rfl
theorem lEq_no {s : ByteArray} {c : UInt8} {r : List UInt8} (hc : isDig c = true) (h : noDig s.data.toList = true) : Ev.lEq s.data.toList (c :: r) = false ∧ Ev.lEq (c :: r) s.data.toList = false := by
  rw [Ev.lEq_eq, Ev.lEq_eq, decide_eq_false_iff_not, decide_eq_false_iff_not]
  have : s.data.toList ≠ c :: r := by
    intro e
    rw [e] at h
    have hd : 48 ≤ c.toNat ∧ c.toNat ≤ 57 := by simpa [isDig] using hc
    simp only [noDig, Nat.ble_eq_true_of_le hd.1, Nat.ble_eq_true_of_le hd.2, Bool.and_true, Bool.not_true, Bool.false_eq_true] at h
  exact ⟨this, fun e => this e.symm⟩
theorem nwrap (x : Int) (h : W64 x) : IntKind.i64.wrap x = x := by
  have := IntKind.wrap_i64 x
  unfold W64 at h
  rw [this]
  omega
/-- What is known of the number. -/
structure NegIs (n m : Int) (u : Nat) (T : List UInt8) (neg : Bool) (L k : Nat) : Prop where
  lt : decide (n < 0) = neg
  w : W64 n
  mu : m = (u : Int)
  big : u ≤ 9223372036854775807
  pos : neg = false → L = 0 ∧ n = m
  min : neg = true → L = 2 ∧ m = -(n + 1)
  text : T = Lib.decDigits u
  k5 : k ≤ 5
theorem NegIs.digits {n m : Int} {u : Nat} {T : List UInt8} {neg : Bool} {L k : Nat} (h : NegIs n m u T neg L k) : T.all isDig = true ∧ decV T = u ∧ T ≠ [] ∧ T.length ≤ 19 := by
  obtain ⟨h1, h2, h3, _⟩ := dec_facts u u (Nat.le_refl _)
  rw [h.text]
  have := h.big
  exact ⟨h1, h2, h3, dec_len 19 u (by omega) (by omega)⟩
theorem NegIs.letter {n m : Int} {u : Nat} {T : List UInt8} {neg : Bool} {L k : Nat} (h : NegIs n m u T neg L k) (mi : Int) : nVal n m T k mi L = some (nInt m) := by
  cases hn : neg with
  | false => obtain ⟨rfl, rfl⟩ := h.pos hn; rfl
  | true => obtain ⟨rfl, _⟩ := h.min hn; rfl
theorem preK_len (k : Nat) : (preK k).length = 18 + 2 * k := by
  unfold preK preA
  rw [List.length_append, dashes_len]
  rfl
theorem neg_bin {n m : Int} {u : Nat} {T : List UInt8} {neg : Bool} {L k : Nat} (h : NegIs n m u T neg L k) (mi : Int) : NBinOk (nVal n m T k mi) neg L k := by
  obtain ⟨hd, hv, hne, hl⟩ := h.digits
  have hk := h.k5
  have hdig : ∀ s : ByteArray, noDig s.data.toList = true → Ev.lEq s.data.toList T = false ∧ Ev.lEq T s.data.toList = false := by
    intro s hs
    cases hT : T with
    | nil => exact absurd hT hne
    | cons c r =>
      rw [hT, List.all_cons, Bool.and_eq_true] at hd
      exact lEq_no hd.1 hs
  have hdat : ∀ l : List UInt8, (⟨l.toArray⟩ : ByteArray).data.toList = l := fun l => by simp
  intro op a b v hq ca cb ha hb
  unfold nBin at hq
  split at hq
  · unfold nLt at hq
    obtain ⟨h1, h2⟩ := Ev.bif_some hq
    rw [Bool.and_eq_true] at h1
    obtain rfl := Nat.eq_of_beq_eq_true h1.1
    obtain rfl := of_decide_eq_true h1.2
    obtain rfl := Option.some.inj h2
    obtain rfl := Ev.at_sym (x := nInt n) rfl ha
    obtain rfl := Ev.at_int hb
    refine ⟨_, Ev.ground_at rfl, Ev.binIs_of_fast ?_⟩
    rw [← h.lt]
    rfl
  · unfold nAdd1 at hq
    obtain ⟨h1, h2⟩ := Ev.bif_some hq
    rw [Bool.and_eq_true, Bool.and_eq_true] at h1
    obtain rfl := Nat.eq_of_beq_eq_true h1.1.2
    obtain rfl := of_decide_eq_true h1.2
    obtain rfl := Option.some.inj h2
    obtain rfl := Ev.at_sym (x := nInt n) rfl ha
    obtain rfl := Ev.at_int hb
    refine ⟨nInt (n + 1), Ev.sym_at rfl rfl, Ev.binIs_of_fast ?_⟩
    have hlt := h.lt
    rw [h1.1.1, decide_eq_true_eq] at hlt
    have hw := h.w
    have := nwrap (n + 1) (by unfold W64 at *; omega)
    show some (Value.int .i64 (IntKind.i64.wrap (n + 1))) = _
    rw [this]
    rfl
  · rename_i s i
    unfold nCat at hq
    obtain ⟨h1, h2⟩ := Ev.bif_some hq
    obtain rfl := Nat.eq_of_beq_eq_true h1
    obtain rfl := Ev.at_sym (x := nStr T) rfl hb
    obtain rfl := Ev.at_string ha
    cases hc : Ev.lEq s.data.toList (preK k) with
    | true =>
      rw [hc, cond_true] at h2
      obtain rfl := Option.some.inj h2
      rw [Ev.lEq_eq, decide_eq_true_eq] at hc
      have hs : Value.string s = nStr (preK k) := by unfold nStr; rw [← hc]
      rw [hs]
      exact ⟨nStr (preK k ++ T), Ev.sym_at rfl rfl, nCat_is (by rw [preK_len]; omega)⟩
    | false =>
      rw [hc, cond_false] at h2
      obtain ⟨h3, h4⟩ := Ev.bif_some h2
      obtain rfl := Option.some.inj h4
      rw [Ev.lEq_eq, decide_eq_true_eq] at h3
      have hs : Value.string s = nStr [45] := by unfold nStr; rw [← h3]
      rw [hs]
      exact ⟨nStr (45 :: T), Ev.sym_at rfl rfl, nCat_is (a := [45]) (by simp only [List.length_cons, List.length_nil]; omega)⟩
  · rename_i i s
    unfold nEnd at hq
    obtain ⟨h1, h2⟩ := Ev.bif_some hq
    rw [Bool.and_eq_true] at h1
    obtain rfl := Nat.eq_of_beq_eq_true h1.1
    obtain rfl := Option.some.inj h2
    obtain rfl := Ev.at_sym (x := nStr (preK k ++ T)) rfl ha
    obtain rfl := Ev.at_string hb
    have h3 := h1.2
    rw [Ev.lEq_eq, decide_eq_true_eq] at h3
    have hs : Value.string s = nStr postA := by unfold nStr; rw [← h3]
    rw [hs]
    exact ⟨nStr (preK k ++ T ++ postA), Ev.sym_at rfl rfl, nCat_is (by rw [List.length_append, preK_len]; simp only [postA, List.length_cons, List.length_nil]; omega)⟩
  · rename_i s i
    unfold nEq at hq
    obtain ⟨h1, h2⟩ := Ev.bif_some hq
    rw [Bool.and_eq_true] at h1
    obtain rfl := Nat.eq_of_beq_eq_true h1.1
    obtain rfl := Option.some.inj h2
    obtain rfl := Ev.at_sym (x := nStr T) rfl hb
    obtain rfl := Ev.at_string ha
    refine ⟨_, Ev.ground_at rfl, Ev.binIs_of_fast ?_⟩
    show some (Value.bool (Ev.lEq s.data.toList (⟨T.toArray⟩ : ByteArray).data.toList)) = _
    rw [hdat, (hdig s h1.2).1]
  · rename_i i s
    unfold nEq at hq
    obtain ⟨h1, h2⟩ := Ev.bif_some hq
    rw [Bool.and_eq_true] at h1
    obtain rfl := Nat.eq_of_beq_eq_true h1.1
    obtain rfl := Option.some.inj h2
    obtain rfl := Ev.at_sym (x := nStr T) rfl ha
    obtain rfl := Ev.at_string hb
    refine ⟨_, Ev.ground_at rfl, Ev.binIs_of_fast ?_⟩
    show some (Value.bool (Ev.lEq (⟨T.toArray⟩ : ByteArray).data.toList s.data.toList)) = _
    rw [hdat, (hdig s h1.2).2]
  · rename_i s i
    unfold nEq at hq
    obtain ⟨h1, h2⟩ := Ev.bif_some hq
    rw [Bool.and_eq_true] at h1
    obtain rfl := Nat.eq_of_beq_eq_true h1.1
    obtain rfl := Option.some.inj h2
    obtain rfl := Ev.at_sym (x := nStr T) rfl hb
    obtain rfl := Ev.at_string ha
    refine ⟨_, Ev.ground_at rfl, Ev.binIs_of_fast ?_⟩
    show some (Value.bool (!Ev.lEq s.data.toList (⟨T.toArray⟩ : ByteArray).data.toList)) = _
    rw [hdat, (hdig s h1.2).1]
    rfl
  · rename_i i s
    unfold nEq at hq
    obtain ⟨h1, h2⟩ := Ev.bif_some hq
    rw [Bool.and_eq_true] at h1
    obtain rfl := Nat.eq_of_beq_eq_true h1.1
    obtain rfl := Option.some.inj h2
    obtain rfl := Ev.at_sym (x := nStr T) rfl ha
    obtain rfl := Ev.at_string hb
    refine ⟨_, Ev.ground_at rfl, Ev.binIs_of_fast ?_⟩
    show some (Value.bool (!Ev.lEq (⟨T.toArray⟩ : ByteArray).data.toList s.data.toList)) = _
    rw [hdat, (hdig s h1.2).2]
    rfl
  · rename_i i j
    unfold nSame at hq
    obtain ⟨h1, h2⟩ := Ev.bif_some hq
    rw [Bool.and_eq_true, Bool.or_eq_true] at h1
    obtain rfl := Nat.eq_of_beq_eq_true h1.1
    obtain rfl := Option.some.inj h2
    have hx : ∃ x, nVal n m T k mi i = some (nInt x) := by
      rcases h1.2 with h3 | h3
      · obtain rfl := Nat.eq_of_beq_eq_true h3
        exact ⟨m, h.letter mi⟩
      · obtain rfl := Nat.eq_of_beq_eq_true h3
        exact ⟨-m, rfl⟩
    obtain ⟨x, hx⟩ := hx
    obtain rfl := Ev.at_sym hx ha
    obtain rfl := Ev.at_sym hx hb
    refine ⟨_, Ev.ground_at rfl, Ev.binIs_of_fast ?_⟩
    show some (Value.bool (decide (x = x))) = _
    rw [decide_eq_true rfl]
  · cases hq
theorem neg_un {n m : Int} {u : Nat} {T : List UInt8} {neg : Bool} {L k : Nat} (h : NegIs n m u T neg L k) (mi : Int) : NUnOk (nVal n m T k mi) neg L := by
  intro op a v hq ca ha
  have key : ∀ x : Int, W64 (-x) → Ev.UnIs .neg (nInt x) (nInt (-x)) := fun x hx P w => by
    show (Op.intArith .sub .i64 0 x).run P w = _
    have : IntKind.i64.wrap (0 - x) = -x := by rw [Int.zero_sub]; exact nwrap _ hx
    simp only [Op.intArith, this]
    rfl
  have hm := h.mu
  have hu := h.big
  unfold nUn at hq
  split at hq
  · rename_i i
    cases hc : neg && Nat.beq i 1 with
    | true =>
      rw [hc, cond_true] at hq
      rw [Bool.and_eq_true] at hc
      obtain rfl := Nat.eq_of_beq_eq_true hc.2
      obtain rfl := Option.some.inj hq
      obtain rfl := Ev.at_sym (x := nInt (n + 1)) rfl ha
      obtain ⟨_, h2⟩ := h.min hc.1
      refine ⟨nInt m, Ev.sym_at rfl rfl, ?_⟩
      rw [h2]
      exact key (n + 1) (by rw [← h2]; unfold W64; omega)
    | false =>
      rw [hc, cond_false] at hq
      obtain ⟨h1, h2⟩ := Ev.bif_some hq
      obtain rfl := Nat.eq_of_beq_eq_true h1
      obtain rfl := Option.some.inj h2
      obtain rfl := Ev.at_sym (h.letter mi) ha
      exact ⟨nInt (-m), Ev.sym_at rfl rfl, key m (by unfold W64; omega)⟩
  · cases hq
theorem neg_len {n m : Int} {u : Nat} {T : List UInt8} {neg : Bool} {L k : Nat} (_h : NegIs n m u T neg L k) (mi : Int) : NLenOk (nVal n m T k mi) := by
  intro a v hq ca ha
  unfold nLen at hq
  split at hq
  · obtain ⟨h1, h2⟩ := Ev.bif_some hq
    obtain rfl := Nat.eq_of_beq_eq_true h1
    obtain rfl := Option.some.inj h2
    obtain rfl := Ev.at_sym (x := nStr (preK k ++ T ++ postA)) rfl ha
    refine ⟨_, rfl, ?_⟩
    have : (⟨(preK k ++ T ++ postA).toArray⟩ : ByteArray).size = 21 + 2 * k + T.length := by
      have : (⟨(preK k ++ T ++ postA).toArray⟩ : ByteArray).size = (preK k ++ T ++ postA).length := by simp [ByteArray.size]
      rw [this, List.length_append, List.length_append, preK_len]
      simp only [postA, List.length_cons, List.length_nil]
      omega
    rw [this]
    exact Ev.sym_at rfl rfl
  · cases hq
end Go.Proofs.YtamkoncjkngneaaDoor
