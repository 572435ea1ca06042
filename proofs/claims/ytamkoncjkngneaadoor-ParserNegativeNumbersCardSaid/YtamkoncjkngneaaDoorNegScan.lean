/-
  The tokens of a function that returns a number behind some signs. No Go in sight.
-/
import Derived.Test.YtamkoncjkngneaaDoorLexMath
import Derived.Test.YtamkoncjkngneaaDoorItoaMath
import Derived.KernelRfl
namespace Go.Proofs.YtamkoncjkngneaaDoor
def preA : List UInt8 := [102, 117, 110, 99, 32, 102, 40, 41, 32, 123, 32, 114, 101, 116, 117, 114, 110, 32]
def dashes : Nat → List UInt8
  | 0 => []
  | k + 1 => 45 :: 32 :: dashes k
def preK (k : Nat) : List UInt8 := preA ++ dashes k
def postA : List UInt8 := [59, 32, 125]
def dashT : Nat → Nat → List Tok
  | 0, _ => []
  | k + 1, p => ⟨3, [45], p⟩ :: dashT k (p + 2)
def negToks (k : Nat) (T : List UInt8) : List Tok :=
  ⟨1, [102, 117, 110, 99], 0⟩ :: ⟨1, [102], 5⟩ :: ⟨3, [40], 6⟩ :: ⟨3, [41], 7⟩ :: ⟨3, [123], 9⟩ :: ⟨1, [114, 101, 116, 117, 114, 110], 11⟩ :: (dashT k 18 ++
    [⟨2, T, 18 + 2 * k⟩, ⟨3, [59], 18 + 2 * k + T.length⟩, ⟨3, [125], 20 + 2 * k + T.length⟩])
theorem scanF_sp (f n : Nat) (l : List UInt8) : scanF f n (32 :: l) = scanF f n l := by
  cases f with
  | zero => rfl
  | succ f => rfl
theorem out_cons {t : Tok} {o : Out} {ts : List Tok} (h : o = .ok ts) : o.cons t = .ok (t :: ts) := by rw [h]; rfl
theorem out_cons' {k : Int} {t : List UInt8} {p q : Nat} {o : Out} {ts : List Tok} (hp : p = q) (h : o = .ok ts) : o.cons ⟨k, t, p⟩ = .ok (⟨k, t, q⟩ :: ts) := by rw [h, hp]; rfl
theorem dashes_len : ∀ k, (dashes k).length = 2 * k
  | 0 => rfl
  | k + 1 => by
    show (dashes k).length + 1 + 1 = _
    rw [dashes_len k]
    omega
theorem step_dash (f n : Nat) (l : List UInt8) : scanF (f + 1) n (45 :: 32 :: l) = (scanF f n (32 :: l)).cons ⟨3, [45], n - (l.length + 2)⟩ := by kernel_rfl
theorem step_func (f n : Nat) (l : List UInt8) : scanF (f + 1) n (102 :: 117 :: 110 :: 99 :: 32 :: l) = (scanF f n (32 :: l)).cons ⟨1, [102, 117, 110, 99], n - (l.length + 5)⟩ := by kernel_rfl
theorem step_f (f n : Nat) (l : List UInt8) : scanF (f + 1) n (102 :: 40 :: l) = (scanF f n (40 :: l)).cons ⟨1, [102], n - (l.length + 2)⟩ := by kernel_rfl
theorem step_open (f n : Nat) (l : List UInt8) : scanF (f + 1) n (40 :: l) = (scanF f n l).cons ⟨3, [40], n - (l.length + 1)⟩ := by kernel_rfl
theorem step_shut (f n : Nat) (l : List UInt8) : scanF (f + 1) n (41 :: l) = (scanF f n l).cons ⟨3, [41], n - (l.length + 1)⟩ := by kernel_rfl
theorem step_brace (f n : Nat) (l : List UInt8) : scanF (f + 1) n (123 :: l) = (scanF f n l).cons ⟨3, [123], n - (l.length + 1)⟩ := by kernel_rfl
theorem step_return (f n : Nat) (l : List UInt8) : scanF (f + 1) n (114 :: 101 :: 116 :: 117 :: 114 :: 110 :: 32 :: l) = (scanF f n (32 :: l)).cons ⟨1, [114, 101, 116, 117, 114, 110], n - (l.length + 7)⟩ := by kernel_rfl
theorem step_semi (f n : Nat) (l : List UInt8) : scanF (f + 1) n (59 :: l) = (scanF f n l).cons ⟨3, [59], n - (l.length + 1)⟩ := by kernel_rfl
theorem step_end (f n : Nat) : scanF (f + 1) n [125] = (scanF f n []).cons ⟨3, [125], n - 1⟩ := by kernel_rfl
theorem take_dig (T l : List UInt8) (h : T.all isDig = true) : (T ++ 59 :: l).takeWhile isWrd = T := by
  induction T with
  | nil => rfl
  | cons c r ih =>
    rw [List.all_cons, Bool.and_eq_true] at h
    have hw : isWrd c = true := by unfold isWrd; rw [h.1, Bool.or_true]
    rw [List.cons_append, List.takeWhile_cons_of_pos hw, ih h.2]
theorem step_num (f n : Nat) (T l : List UInt8) (h : T.all isDig = true) (hT : T ≠ []) (hn : numT T = true) : scanF (f + 1) n (T ++ 59 :: l) = (scanF f n (59 :: l)).cons ⟨2, T, n - (T.length + (l.length + 1))⟩ := by
  cases T with
  | nil => exact absurd rfl hT
  | cons c r =>
    have hall := h
    rw [List.all_cons, Bool.and_eq_true] at h
    have hd := h.1
    have hd2 : 48 ≤ c.toNat ∧ c.toNat ≤ 57 := by simpa [isDig] using hd
    have hr : rest false (c :: r ++ 59 :: l) = c :: r ++ 59 :: l := by
      rw [List.cons_append]
      have h1 : isSp c = false := by
        unfold isSp
        simp only [Bool.or_eq_false_iff, beq_eq_false_iff_ne]
        omega
      have h2 : ¬ c.toNat = 35 := by omega
      simp only [rest, h1, h2, if_false, Bool.false_eq_true]
    have hw : isWrd c = true := by unfold isWrd; rw [hd, Bool.or_true]
    have ht : tokText (c :: r ++ 59 :: l) = c :: r := by
      rw [List.cons_append]
      simp only [tokText, hw, if_true]
      rw [take_dig r l h.2]
    have hk : headKind (c :: r ++ 59 :: l) = 2 := by
      rw [List.cons_append]
      simp only [headKind, hd, if_true]
    have hy : tokWhy (c :: r ++ 59 :: l) = 0 := by
      unfold tokWhy
      rw [ht, hk]
      simp only [textWhy, hn, if_true]
    have hstep : ∀ L, scanF (f + 1) n L = (if (rest false L).isEmpty then .ok [] else if tokWhy (rest false L) ≠ 0 then .err (tokWhy (rest false L)) (n - (rest false L).length) else (scanF f n ((rest false L).drop (tokText (rest false L)).length)).cons ⟨headKind (rest false L), tokText (rest false L), n - (rest false L).length⟩) := fun L => rfl
    rw [hstep, hr, hy, ht, hk]
    have he : (c :: r ++ 59 :: l).isEmpty = false := rfl
    have hdr : List.drop (c :: r).length (c :: r ++ 59 :: l) = 59 :: l := List.drop_left
    rw [he, hdr]
    simp only [Bool.false_eq_true, if_false, ne_eq, not_true_eq_false, List.length_append, List.length_cons]
theorem dash_all (n : Nat) (l : List UInt8) : ∀ (k p f : Nat) (ts : List Tok), n = p + 2 * k + l.length → scanF f n l = .ok ts → scanF (f + k) n (dashes k ++ l) = .ok (dashT k p ++ ts)
  | 0, _, _, _, _, h => h
  | k + 1, p, f, ts, hn, h => by
    show scanF (f + k + 1) n (45 :: 32 :: (dashes k ++ l)) = .ok (⟨3, [45], p⟩ :: (dashT k (p + 2) ++ ts))
    rw [step_dash, scanF_sp]
    have e : n - ((dashes k ++ l).length + 2) = p := by rw [List.length_append, dashes_len]; omega
    rw [e]
    exact out_cons (dash_all n l k (p + 2) f ts (by omega) h)
theorem scan_neg (k : Nat) (T : List UInt8) (h : T.all isDig = true) (hT : T ≠ []) (hn : numT T = true) (hk : k ≤ 5) (hl : T.length ≤ 19) : scanL (preK k ++ T ++ postA) = .ok (negToks k T) := by
  have hlen : (preK k ++ T ++ postA).length = 21 + 2 * k + T.length := by
    unfold preK preA postA
    simp only [List.length_append, dashes_len, List.length_cons, List.length_nil]
    omega
  unfold scanL
  rw [if_neg (by omega)]
  unfold scanAt
  generalize hN : (preK k ++ T ++ postA).length = N at *
  have hf : N + 1 = (T.length + k + 12) + 1 + 1 + 1 + 1 + k + 1 + 1 + 1 + 1 + 1 + 1 := by omega
  have e : preK k ++ T ++ postA = 102 :: 117 :: 110 :: 99 :: 32 :: 102 :: 40 :: 41 :: 32 :: 123 :: 32 :: 114 :: 101 :: 116 :: 117 :: 114 :: 110 :: 32 :: (dashes k ++ (T ++ [59, 32, 125])) := by
    unfold preK preA postA
    simp only [List.cons_append, List.nil_append, List.append_assoc]
  have hq : (dashes k ++ (T ++ [59, 32, 125])).length = 2 * k + T.length + 3 := by
    simp only [List.length_append, dashes_len, List.length_cons, List.length_nil]
    omega
  have e1 : scanF (T.length + k + 12 + 1) N [] = .ok [] := rfl
  have e2 : scanF (T.length + k + 12 + 1 + 1) N [125] = .ok [⟨3, [125], 20 + 2 * k + T.length⟩] := by
    rw [step_end, e1]
    have : N - 1 = 20 + 2 * k + T.length := by omega
    rw [this]; rfl
  have e3 : scanF (T.length + k + 12 + 1 + 1 + 1) N [59, 32, 125] = .ok [⟨3, [59], 18 + 2 * k + T.length⟩, ⟨3, [125], 20 + 2 * k + T.length⟩] := by
    rw [step_semi, scanF_sp]
    have : N - (([32, 125] : List UInt8).length + 1) = 18 + 2 * k + T.length := by simp only [List.length_cons, List.length_nil]; omega
    rw [this]
    exact out_cons e2
  have e4 : scanF (T.length + k + 12 + 1 + 1 + 1 + 1) N (T ++ [59, 32, 125]) = .ok [⟨2, T, 18 + 2 * k⟩, ⟨3, [59], 18 + 2 * k + T.length⟩, ⟨3, [125], 20 + 2 * k + T.length⟩] := by
    rw [step_num _ _ T [32, 125] h hT hn]
    have : N - (T.length + (([32, 125] : List UInt8).length + 1)) = 18 + 2 * k := by simp only [List.length_cons, List.length_nil]; omega
    rw [this]
    exact out_cons e3
  have e5 := dash_all N (T ++ [59, 32, 125]) k 18 _ _ (by simp only [List.length_append, List.length_cons, List.length_nil]; omega) e4
  rw [hf, e]
  unfold negToks
  rw [step_func, scanF_sp]
  refine out_cons' (by simp only [List.length_cons, hq]; omega) ?_
  rw [step_f]
  refine out_cons' (by simp only [List.length_cons, hq]; omega) ?_
  rw [step_open]
  refine out_cons' (by simp only [List.length_cons, hq]; omega) ?_
  rw [step_shut, scanF_sp]
  refine out_cons' (by simp only [List.length_cons, hq]; omega) ?_
  rw [step_brace, scanF_sp]
  refine out_cons' (by simp only [List.length_cons, hq]; omega) ?_
  rw [step_return, scanF_sp]
  refine out_cons' (by simp only [hq]; omega) ?_
  exact e5
end Go.Proofs.YtamkoncjkngneaaDoor
