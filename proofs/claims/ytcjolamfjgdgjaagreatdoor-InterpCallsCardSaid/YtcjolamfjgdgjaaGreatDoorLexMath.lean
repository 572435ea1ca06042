/-
  What a text's tokens are: a plain function on lists of bytes, and its laws. No Go in sight.
-/
import Derived.Test.YtcjolamfjgdgjaaGreatDoorNum
namespace Go.Proofs.YtcjolamfjgdgjaaGreatDoor

def isLet (c : UInt8) : Bool := (97 ≤ c.toNat && c.toNat ≤ 122) || (65 ≤ c.toNat && c.toNat ≤ 90) || c.toNat == 95
def isWrd (c : UInt8) : Bool := isLet c || isDig c
def isSp (c : UInt8) : Bool := c.toNat == 32 || c.toNat == 9 || c.toNat == 10 || c.toNat == 13
/-- What follows the spaces and comments at the head; 'true': inside a comment. -/
def rest : Bool → List UInt8 → List UInt8
  | _, [] => []
  | true, c :: l => if c.toNat = 10 then rest false l else rest true l
  | false, c :: l => if isSp c then rest false l else if c.toNat = 35 then rest true l else c :: l
def longs : List (List UInt8) := [[62, 62, 62], [60, 60], [62, 62], [60, 61], [62, 61], [61, 61], [33, 61]]
def ones : List UInt8 := [43, 45, 42, 47, 37, 38, 124, 94, 126, 33, 60, 62, 61, 63, 58, 59, 44, 40, 41, 123, 125, 91, 93]
/-- The symbol at the head, or nothing. -/
def sym (l : List UInt8) : List UInt8 :=
  match longs.find? (fun p => p.isPrefixOf l) with
  | some p => p
  | none => match l with
    | [] => []
    | c :: _ => if ones.contains c then [c] else []
def numT (l : List UInt8) : Bool := okMag l && decide (decV l ≤ 9223372036854775808)
def tokText (l : List UInt8) : List UInt8 :=
  match l with
  | [] => []
  | c :: r => if isWrd c then c :: r.takeWhile isWrd else sym (c :: r)
def headKind (l : List UInt8) : Int :=
  match l with
  | [] => 0
  | c :: _ => if isDig c then 2 else if isLet c then 1 else 3
/-- Why the text cannot be a token of its kind. -/
def textWhy (k : Int) (t : List UInt8) : Int :=
  if k = 2 then (if numT t then 0 else 2) else if k = 1 then (if t.length ≤ 16 then 0 else 6) else if t.isEmpty then 2 else 0
def tokWhy (l : List UInt8) : Int := textWhy (headKind l) (tokText l)
structure Tok where
  kind : Int
  text : List UInt8
  pos : Nat
  deriving DecidableEq
inductive Out where
  | ok (ts : List Tok)
  | err (why : Int) (pos : Nat)
  deriving DecidableEq
def Out.cons (t : Tok) : Out → Out
  | .ok ts => .ok (t :: ts)
  | .err a b => .err a b
/-- The tokens of a suffix of a text of n bytes. -/
def scanF : Nat → Nat → List UInt8 → Out
  | 0, _, _ => .ok []
  | f + 1, n, l =>
    if (rest false l).isEmpty then .ok []
    else if tokWhy (rest false l) ≠ 0 then .err (tokWhy (rest false l)) (n - (rest false l).length)
    else (scanF f n ((rest false l).drop (tokText (rest false l)).length)).cons ⟨headKind (rest false l), tokText (rest false l), n - (rest false l).length⟩
def scanAt (n : Nat) (l : List UInt8) : Out := scanF (l.length + 1) n l
def scanL (l : List UInt8) : Out := if 20000 < l.length then .err 6 20000 else scanAt l.length l

theorem rest_le : ∀ (b : Bool) (l : List UInt8), (rest b l).length ≤ l.length
  | _, [] => by cases ‹Bool› <;> simp [rest]
  | true, c :: l => by
    rw [rest]
    split
    · have := rest_le false l; simp; omega
    · have := rest_le true l; simp; omega
  | false, c :: l => by
    rw [rest]
    split
    · have := rest_le false l; simp; omega
    · split
      · have := rest_le true l; simp; omega
      · simp
theorem rest_idem : ∀ (b : Bool) (l : List UInt8), rest false (rest b l) = rest b l
  | _, [] => by cases ‹Bool› <;> simp [rest]
  | true, c :: l => by
    rw [rest]
    split
    · exact rest_idem false l
    · exact rest_idem true l
  | false, c :: l => by
    rw [rest]
    split
    · exact rest_idem false l
    · split
      · exact rest_idem true l
      · rename_i h1 h2
        rw [rest, if_neg h1, if_neg h2]
/-- A head that is neither a space nor a comment. -/
def fresh (l : List UInt8) : Prop := rest false l = l
theorem fresh_head {c : UInt8} {l : List UInt8} (h : fresh (c :: l)) : isSp c = false ∧ c.toNat ≠ 35 := by
  unfold fresh at h
  rw [rest] at h
  split at h
  · have := rest_le false l; rw [h] at this; simp at this; omega
  · split at h
    · have := rest_le true l; rw [h] at this; simp at this; omega
    · rename_i h1 h2
      exact ⟨by simpa using h1, h2⟩
theorem fresh_of {c : UInt8} (l : List UInt8) (h1 : isSp c = false) (h2 : c.toNat ≠ 35) : fresh (c :: l) := by
  unfold fresh
  rw [rest, h1, if_neg (by simp), if_neg h2]
theorem takeWhile_append_stop {p : UInt8 → Bool} (l : List UInt8) (c : UInt8) (m : List UInt8) (hc : p c = false) : (l ++ c :: m).takeWhile p = l.takeWhile p := by
  induction l with
  | nil => simp [hc]
  | cons a l ih =>
    simp only [List.cons_append, List.takeWhile_cons]
    split
    · rw [ih]
    · rfl
theorem takeWhile_idem_stop {p : UInt8 → Bool} (l : List UInt8) (c : UInt8) (m : List UInt8) (hc : p c = false) : (l.takeWhile p ++ c :: m).takeWhile p = l.takeWhile p := by
  induction l with
  | nil => simp [hc]
  | cons a l ih =>
    simp only [List.takeWhile_cons]
    split
    · rename_i h
      simp only [List.cons_append, List.takeWhile_cons, h, if_true, ih]
    · rename_i h
      simp [hc]
theorem prefix_append (p l : List UInt8) (c : UInt8) (m : List UInt8) (hc : p.contains c = false) : p.isPrefixOf (l ++ c :: m) = p.isPrefixOf l := by
  induction p generalizing l with
  | nil => simp [List.isPrefixOf]
  | cons a p ih =>
    simp only [List.contains_cons, Bool.or_eq_false_iff] at hc
    cases l with
    | nil =>
      have : (a == c) = false := by rw [Bool.eq_false_iff]; intro h; have := beq_iff_eq.1 h; subst this; simp at hc
      simp [List.isPrefixOf, this]
    | cons b l =>
      simp only [List.cons_append, List.isPrefixOf]
      rw [ih l hc.2]
/-- No symbol holds the byte. -/
def noSym (c : UInt8) : Bool := longs.all (fun p => !p.contains c) && !ones.contains c
theorem find_congr {α : Type} {p q : α → Bool} : ∀ (l : List α), (∀ a ∈ l, p a = q a) → l.find? p = l.find? q
  | [], _ => rfl
  | a :: l, h => by
    rw [List.find?_cons, List.find?_cons, h a (by simp), find_congr l (fun b hb => h b (by simp [hb]))]
theorem sym_append (l : List UInt8) (c : UInt8) (m : List UInt8) (hc : noSym c = true) : sym (l ++ c :: m) = sym l := by
  unfold noSym at hc
  rw [Bool.and_eq_true] at hc
  have hf : longs.find? (fun p => p.isPrefixOf (l ++ c :: m)) = longs.find? (fun p => p.isPrefixOf l) := by
    apply find_congr
    intro p hp
    apply prefix_append
    have := (List.all_eq_true.1 hc.1) p hp
    simpa using this
  unfold sym
  rw [hf]
  split
  · rfl
  · cases l with
    | nil =>
      have h2 : ones.contains c = false := by simpa using hc.2
      simp only [List.nil_append]
      rw [h2]
      rfl
    | cons a l => rfl
theorem tokText_append (a : UInt8) (l : List UInt8) (c : UInt8) (m : List UInt8) (hw : isWrd c = false) (hc : noSym c = true) : tokText (a :: l ++ c :: m) = tokText (a :: l) := by
  rw [List.cons_append]
  unfold tokText
  split
  · rename_i h
    cases h
  · rename_i h
    cases h
    show (if isWrd a then a :: (l ++ c :: m).takeWhile isWrd else sym (a :: (l ++ c :: m))) = if isWrd a then a :: l.takeWhile isWrd else sym (a :: l)
    rw [takeWhile_append_stop l c m hw, ← List.cons_append, sym_append (a :: l) c m hc]
theorem tokText_le (l : List UInt8) : tokText l <+: l := by
  unfold tokText
  split
  · exact List.prefix_refl _
  · rename_i c r
    split
    · exact List.prefix_cons_inj c |>.2 (List.takeWhile_prefix _)
    · unfold sym
      split
      · rename_i p hp
        have := List.find?_some hp
        exact List.isPrefixOf_iff_prefix.1 this
      · show (if ones.contains c then [c] else []) <+: c :: r
        split
        · exact ⟨r, rfl⟩
        · exact List.nil_prefix
theorem tokText_len (l : List UInt8) : (tokText l).length ≤ l.length := (tokText_le l).length_le
theorem tokText_pos (l : List UInt8) (h : tokWhy l = 0) (hl : l ≠ []) : 0 < (tokText l).length := by
  cases l with
  | nil => exact absurd rfl hl
  | cons c r =>
    by_cases hw : isWrd c
    · unfold tokText
      simp [hw]
    · have hd : isDig c = false := by unfold isWrd at hw; simp at hw; exact hw.2
      have ht : isLet c = false := by unfold isWrd at hw; simp at hw; exact hw.1
      unfold tokWhy at h
      have hk : headKind (c :: r) = 3 := by simp [headKind, hd, ht]
      rw [hk] at h
      unfold textWhy at h
      simp only [show ¬ ((3 : Int) = 2) by decide, show ¬ ((3 : Int) = 1) by decide, if_false] at h
      split at h
      · cases h
      · rename_i h2
        cases ht2 : tokText (c :: r) with
        | nil => rw [ht2] at h2; simp at h2
        | cons => simp
theorem scanF_enough : ∀ (f g n : Nat) (l : List UInt8), l.length < f → l.length < g → scanF f n l = scanF g n l := by
  intro f
  induction f with
  | zero => intro g n l h _; omega
  | succ f ih =>
    intro g n l hf hg
    cases g with
    | zero => omega
    | succ g =>
      rw [scanF, scanF]
      split
      · rfl
      · rename_i h1
        split
        · rfl
        · rename_i h2
          have h2' : tokWhy (rest false l) = 0 := by simpa using h2
          have h1' : rest false l ≠ [] := by intro h; rw [h] at h1; simp at h1
          have hp := tokText_pos _ h2' h1'
          have hr := rest_le false l
          have hpos : 0 < (rest false l).length := by
            cases h : rest false l with
            | nil => exact absurd h h1'
            | cons => simp
          rw [ih g n _ (by rw [List.length_drop]; omega) (by rw [List.length_drop]; omega)]
theorem scanAt_nil {n : Nat} {l : List UInt8} (h : rest false l = []) : scanAt n l = .ok [] := by
  unfold scanAt
  rw [scanF, h]
  rfl
theorem scanAt_err {n : Nat} {l r : List UInt8} (h : rest false l = r) (hr : r ≠ []) (hw : tokWhy r ≠ 0) : scanAt n l = .err (tokWhy r) (n - r.length) := by
  unfold scanAt
  rw [scanF, h, if_neg (by simpa using hr), if_pos hw]
theorem scanAt_ok {n : Nat} {l r : List UInt8} (h : rest false l = r) (hr : r ≠ []) (hw : tokWhy r = 0) : scanAt n l = (scanAt n (r.drop (tokText r).length)).cons ⟨headKind r, tokText r, n - r.length⟩ := by
  unfold scanAt
  have hp := tokText_pos _ hw hr
  have hl := rest_le false l
  rw [h] at hl
  have hpos : 0 < r.length := List.length_pos_iff.2 hr
  rw [scanF, h, if_neg (by simpa using hr), if_neg (by simpa using hw)]
  rw [scanF_enough l.length ((r.drop (tokText r).length).length + 1) n _ (by rw [List.length_drop]; omega) (by omega)]
/-- Induction along a scan. -/
theorem scan_induct {P : List UInt8 → Prop} (hnil : ∀ l, rest false l = [] → P l) (herr : ∀ l r, rest false l = r → r ≠ [] → tokWhy r ≠ 0 → P l)
    (hok : ∀ l r, rest false l = r → r ≠ [] → tokWhy r = 0 → P (r.drop (tokText r).length) → P l) : ∀ l, P l := by
  intro l
  generalize hn : l.length = n
  induction n using Nat.strongRecOn generalizing l with
  | ind n ih =>
    by_cases h1 : rest false l = []
    · exact hnil l h1
    · by_cases h2 : tokWhy (rest false l) = 0
      · refine hok l _ rfl h1 h2 ?_
        have hp := tokText_pos _ h2 h1
        have hl := rest_le false l
        have hpos : 0 < (rest false l).length := List.length_pos_iff.2 h1
        exact ih _ (by rw [List.length_drop]; omega) _ rfl
      · exact herr l _ rfl h1 h2
end Go.Proofs.YtcjolamfjgdgjaaGreatDoor
