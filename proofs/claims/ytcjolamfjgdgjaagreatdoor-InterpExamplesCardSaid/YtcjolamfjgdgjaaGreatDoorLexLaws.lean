/-
  Laws of the plain scanner: two texts one behind the other, tokens laid out anew, offsets, names. No Go in sight.
-/
import Derived.Test.YtcjolamfjgdgjaaGreatDoorLexMath
namespace Go.Proofs.YtcjolamfjgdgjaaGreatDoor

def shiftTok (k : Nat) (t : Tok) : Tok := ⟨t.kind, t.text, t.pos + k⟩
def Out.shift (k : Nat) : Out → Out
  | .ok ts => .ok (ts.map (shiftTok k))
  | .err a p => .err a (p + k)
def Out.app : Out → Out → Out
  | .ok ts, .ok us => .ok (ts ++ us)
  | .ok _, .err a p => .err a p
  | .err a p, _ => .err a p
theorem Out.cons_shift (k : Nat) (t : Tok) (o : Out) : (o.cons t).shift k = (o.shift k).cons (shiftTok k t) := by cases o <;> rfl
theorem Out.cons_app (t : Tok) (o p : Out) : (o.cons t).app p = (o.app p).cons t := by cases o <;> cases p <;> rfl
theorem scanAt_shift (n k : Nat) (l : List UInt8) (h : l.length ≤ n) : scanAt (n + k) l = (scanAt n l).shift k := by
  revert h
  refine scan_induct (P := fun l => l.length ≤ n → scanAt (n + k) l = (scanAt n l).shift k) ?_ ?_ ?_ l
  · intro l h _
    rw [scanAt_nil h, scanAt_nil h]
    rfl
  · intro l r h hr hw hn
    rw [scanAt_err h hr hw, scanAt_err h hr hw]
    have := rest_le false l
    rw [h] at this
    show Out.err _ _ = Out.err _ _
    congr 1
    omega
  · intro l r h hr hw ih hn
    have := rest_le false l
    rw [h] at this
    rw [scanAt_ok h hr hw, scanAt_ok h hr hw, ih (by rw [List.length_drop]; omega), Out.cons_shift]
    congr 1
    unfold shiftTok
    congr 1
    show n + k - r.length = n - r.length + k
    omega
theorem rest_append (B : List UInt8) : ∀ (b : Bool) (l : List UInt8), rest b (l ++ 10 :: B) = if rest b l = [] then rest false B else rest b l ++ 10 :: B
  | true, [] => by simp [rest]
  | false, [] => by simp [rest, isSp]
  | true, c :: l => by
    rw [List.cons_append, rest, rest]
    split
    · exact rest_append B false l
    · exact rest_append B true l
  | false, c :: l => by
    rw [List.cons_append, rest, rest]
    split
    · exact rest_append B false l
    · split
      · exact rest_append B true l
      · rw [if_neg (by simp)]
        rfl
theorem wrd10 : isWrd 10 = false := by decide
theorem sym10 : noSym 10 = true := by decide
theorem wrd32 : isWrd 32 = false := by decide
theorem sym32 : noSym 32 = true := by decide
theorem headKind_append (a : UInt8) (l m : List UInt8) : headKind (a :: l ++ m) = headKind (a :: l) := rfl
theorem scan_concat (B : List UInt8) (n : Nat) (l : List UInt8) (h : l.length ≤ n) : scanAt (n + (B.length + 1)) (l ++ 10 :: B) = (scanAt n l).app ((scanAt B.length B).shift (n + 1)) := by
  revert h
  have hB : scanAt (n + (B.length + 1)) B = (scanAt B.length B).shift (n + 1) := by
    rw [← scanAt_shift B.length (n + 1) B (Nat.le_refl _)]
    congr 1
    omega
  refine scan_induct (P := fun l => l.length ≤ n → scanAt (n + (B.length + 1)) (l ++ 10 :: B) = (scanAt n l).app ((scanAt B.length B).shift (n + 1))) ?_ ?_ ?_ l
  · intro l h _
    have e : rest false (l ++ 10 :: B) = rest false B := by rw [rest_append, if_pos h]
    have e2 : scanAt (n + (B.length + 1)) (l ++ 10 :: B) = scanAt (n + (B.length + 1)) B := by
      by_cases h1 : rest false B = []
      · rw [scanAt_nil h1, scanAt_nil (e.trans h1)]
      · by_cases h2 : tokWhy (rest false B) = 0
        · rw [scanAt_ok rfl h1 h2, scanAt_ok e h1 h2]
        · rw [scanAt_err rfl h1 h2, scanAt_err e h1 h2]
    rw [e2, hB, scanAt_nil h]
    cases (scanAt B.length B).shift (n + 1) <;> rfl
  · intro l r h hr hw hn
    have hl := rest_le false l
    rw [h] at hl
    cases r with
    | nil => exact absurd rfl hr
    | cons a r =>
      have e : rest false (l ++ 10 :: B) = (a :: r) ++ 10 :: B := by rw [rest_append, h, if_neg (by simp)]
      have hw' : tokWhy ((a :: r) ++ 10 :: B) = tokWhy (a :: r) := by
        unfold tokWhy
        rw [tokText_append a r 10 B wrd10 sym10, headKind_append]
      rw [scanAt_err h hr hw, scanAt_err e (by simp) (by rw [hw']; exact hw), hw']
      show Out.err _ _ = Out.err _ _
      congr 1
      simp only [List.length_append, List.length_cons] at hl ⊢
      omega
  · intro l r h hr hw ih hn
    have hl := rest_le false l
    rw [h] at hl
    cases r with
    | nil => exact absurd rfl hr
    | cons a r =>
      have e : rest false (l ++ 10 :: B) = (a :: r) ++ 10 :: B := by rw [rest_append, h, if_neg (by simp)]
      have ht := tokText_append a r 10 B wrd10 sym10
      have hk := headKind_append a r (10 :: B)
      have hw' : tokWhy ((a :: r) ++ 10 :: B) = tokWhy (a :: r) := by
        unfold tokWhy
        rw [ht, hk]
      rw [scanAt_ok h hr hw, scanAt_ok e (by simp) (by rw [hw']; exact hw), ht, hk, Out.cons_app, List.drop_append_of_le_length (tokText_len _), ih (by rw [List.length_drop]; omega)]
      congr 2
      simp only [List.length_append, List.length_cons] at hl ⊢
      omega

/-- A token that stands for itself. -/
def goodTok (t : Tok) : Prop := ∃ r, fresh r ∧ r ≠ [] ∧ tokWhy r = 0 ∧ t.kind = headKind r ∧ t.text = tokText r
theorem scan_good (n : Nat) (l : List UInt8) : ∀ ts, scanAt n l = .ok ts → ∀ t ∈ ts, goodTok t := by
  refine scan_induct (P := fun l => ∀ ts, scanAt n l = .ok ts → ∀ t ∈ ts, goodTok t) ?_ ?_ ?_ l
  · intro l h ts e t ht
    rw [scanAt_nil h] at e
    cases e
    cases ht
  · intro l r h hr hw ts e
    rw [scanAt_err h hr hw] at e
    cases e
  · intro l r h hr hw ih ts e t ht
    rw [scanAt_ok h hr hw] at e
    cases hs : scanAt n (r.drop (tokText r).length) with
    | err a p => rw [hs] at e; cases e
    | ok us =>
      rw [hs] at e
      cases e
      rcases List.mem_cons.1 ht with rfl | ht
      · exact ⟨r, by unfold fresh; rw [← h, rest_idem], hr, hw, rfl, rfl⟩
      · exact ih us hs t ht
def spaced : List Tok → List UInt8
  | [] => []
  | t :: ts => 32 :: t.text ++ spaced ts
theorem sym_longs : ∀ p ∈ longs, sym p = p := by decide
theorem sym_ones : ∀ c ∈ ones, sym [c] = [c] := by decide
theorem sym_none (c : UInt8) (l : List UInt8) (h : longs.find? (fun p => p.isPrefixOf (c :: l)) = none) : sym (c :: l) = if ones.contains c then [c] else [] := by
  unfold sym
  rw [h]
theorem sym_some (l p : List UInt8) (h : longs.find? (fun p => p.isPrefixOf l) = some p) : sym l = p := by
  unfold sym
  rw [h]
theorem sym_mem (l : List UInt8) : sym l = [] ∨ sym l ∈ longs ∨ ∃ c ∈ ones, sym l = [c] := by
  cases h : longs.find? (fun p => p.isPrefixOf l) with
  | some p =>
    refine Or.inr (Or.inl ?_)
    rw [sym_some l p h]
    exact List.mem_of_find?_eq_some h
  | none =>
    cases l with
    | nil => exact Or.inl rfl
    | cons c l =>
      rw [sym_none c l h]
      by_cases h2 : ones.contains c = true
      · refine Or.inr (Or.inr ⟨c, List.contains_iff_mem.1 h2, ?_⟩)
        rw [if_pos h2]
      · left
        rw [if_neg h2]
theorem sym_idem (l : List UInt8) : sym (sym l) = sym l := by
  rcases sym_mem l with h | h | ⟨c, hc, h⟩
  · rw [h]; rfl
  · exact sym_longs _ h
  · rw [h]; exact sym_ones c hc
theorem relex (r m : List UInt8) (hf : fresh r) (hr : r ≠ []) (hw : tokWhy r = 0) :
    fresh (tokText r ++ 32 :: m) ∧ tokText (tokText r ++ 32 :: m) = tokText r ∧ headKind (tokText r ++ 32 :: m) = headKind r := by
  have hp := tokText_pos r hw hr
  cases r with
  | nil => exact absurd rfl hr
  | cons c r =>
    have hpre := tokText_le (c :: r)
    have hc := fresh_head hf
    cases ht : tokText (c :: r) with
    | nil => rw [ht] at hp; simp at hp
    | cons d u =>
      rw [ht] at hpre
      obtain rfl : d = c := (List.cons_prefix_cons.1 hpre).1
      refine ⟨fresh_of _ hc.1 hc.2, ?_, rfl⟩
      rw [tokText_append d u 32 m wrd32 sym32]
      by_cases hwd : isWrd d
      · have e : tokText (d :: r) = d :: r.takeWhile isWrd := by unfold tokText; simp [hwd]
        rw [e] at ht
        cases ht
        unfold tokText
        simp only [hwd, if_true]
        congr 1
        clear e hp hpre hf hw hc hr
        induction r with
        | nil => rfl
        | cons a r ih =>
          simp only [List.takeWhile_cons]
          split
          · rename_i h
            simp only [List.takeWhile_cons, h, if_true, ih]
          · rfl
      · have e : tokText (d :: r) = sym (d :: r) := by unfold tokText; simp [hwd]
        have e2 : tokText (d :: u) = sym (d :: u) := by unfold tokText; simp [hwd]
        rw [e2, ← ht, e, sym_idem]
theorem respaced (n : Nat) (tail : List UInt8) (h1 : rest false (32 :: tail) = []) : ∀ ts : List Tok, (∀ t ∈ ts, goodTok t) →
    ∃ us, scanAt n (spaced ts ++ 32 :: tail) = .ok us ∧ us.map (fun t => (t.kind, t.text)) = ts.map (fun t => (t.kind, t.text))
  | [], _ => ⟨[], scanAt_nil h1, rfl⟩
  | t :: ts, h => by
    obtain ⟨us, hs, hm⟩ := respaced n tail h1 ts (fun t ht => h t (by simp [ht]))
    obtain ⟨r, hf, hr, hw, hk, ht⟩ := h t (by simp)
    have hx : ∃ m, spaced ts ++ 32 :: tail = 32 :: m := by
      cases ts with
      | nil => exact ⟨_, rfl⟩
      | cons t' ts => exact ⟨_, rfl⟩
    obtain ⟨m, hmm⟩ := hx
    obtain ⟨g1, g2, g3⟩ := relex r m hf hr hw
    have hp := tokText_pos r hw hr
    have e : spaced (t :: ts) ++ 32 :: tail = 32 :: (tokText r ++ 32 :: m) := by
      rw [spaced, ht, ← hmm]
      simp
    have e1 : rest false (32 :: (tokText r ++ 32 :: m)) = tokText r ++ 32 :: m := by
      rw [rest, if_pos (by decide)]
      exact g1
    have hw' : tokWhy (tokText r ++ 32 :: m) = 0 := by
      unfold tokWhy
      rw [g2, g3]
      exact hw
    rw [e, scanAt_ok e1 (by simp) hw', g2, g3, List.drop_left, ← hmm, hs]
    exact ⟨_, rfl, by simp [hm, hk, ht]⟩
/-- A comment without a line feed ends the text. -/
theorem rest_comment : ∀ l : List UInt8, (∀ c ∈ l, c.toNat ≠ 10) → rest true l = []
  | [], _ => rfl
  | c :: l, h => by
    rw [rest, if_neg (h c (by simp))]
    exact rest_comment l (fun d hd => h d (by simp [hd]))
theorem spaced_len (n : Nat) (l : List UInt8) : ∀ ts, scanAt n l = .ok ts → (spaced ts).length ≤ 2 * l.length := by
  refine scan_induct (P := fun l => ∀ ts, scanAt n l = .ok ts → (spaced ts).length ≤ 2 * l.length) ?_ ?_ ?_ l
  · intro l h ts e
    rw [scanAt_nil h] at e
    cases e
    simp [spaced]
  · intro l r h hr hw ts e
    rw [scanAt_err h hr hw] at e
    cases e
  · intro l r h hr hw ih ts e
    rw [scanAt_ok h hr hw] at e
    have hl := rest_le false l
    rw [h] at hl
    have hp := tokText_pos r hw hr
    have hle := tokText_len r
    cases hs : scanAt n (r.drop (tokText r).length) with
    | err a p => rw [hs] at e; cases e
    | ok us =>
      rw [hs] at e
      cases e
      have := ih us hs
      rw [List.length_drop] at this
      show (32 :: tokText r ++ spaced us).length ≤ _
      simp only [List.cons_append, List.length_cons, List.length_append]
      omega
theorem scan_count (n : Nat) (l : List UInt8) : ∀ ts, scanAt n l = .ok ts → ts.length ≤ l.length := by
  refine scan_induct (P := fun l => ∀ ts, scanAt n l = .ok ts → ts.length ≤ l.length) ?_ ?_ ?_ l
  · intro l h ts e
    rw [scanAt_nil h] at e
    cases e
    simp
  · intro l r h hr hw ts e
    rw [scanAt_err h hr hw] at e
    cases e
  · intro l r h hr hw ih ts e
    rw [scanAt_ok h hr hw] at e
    have hl := rest_le false l
    rw [h] at hl
    have hp := tokText_pos r hw hr
    have hle := tokText_len r
    cases hs : scanAt n (r.drop (tokText r).length) with
    | err a p => rw [hs] at e; cases e
    | ok us =>
      rw [hs] at e
      cases e
      have := ih us hs
      rw [List.length_drop] at this
      simp only [List.length_cons]
      omega

/-- Spaces and comments alone, as a look at each byte tells it. -/
def blankV : Bool → List UInt8 → Bool
  | _, [] => true
  | b, c :: l => if c.toNat = 10 then blankV false l else if c.toNat = 35 then blankV true l else if b = false ∧ c.toNat ≠ 32 ∧ c.toNat ≠ 9 ∧ c.toNat ≠ 13 then false else blankV b l
theorem rest_blank : ∀ (b : Bool) (l : List UInt8), ∃ p, l = p ++ rest b l ∧ blankV b p = true
  | true, [] => ⟨[], rfl, rfl⟩
  | false, [] => ⟨[], rfl, rfl⟩
  | true, c :: l => by
    rw [rest]
    split
    · rename_i h
      obtain ⟨p, h1, h2⟩ := rest_blank false l
      exact ⟨c :: p, by rw [List.cons_append, ← h1], by rw [blankV, if_pos h]; exact h2⟩
    · rename_i h
      obtain ⟨p, h1, h2⟩ := rest_blank true l
      refine ⟨c :: p, by rw [List.cons_append, ← h1], ?_⟩
      rw [blankV, if_neg h]
      split
      · exact h2
      · rw [if_neg (by simp)]; exact h2
  | false, c :: l => by
    rw [rest]
    split
    · rename_i h
      obtain ⟨p, h1, h2⟩ := rest_blank false l
      refine ⟨c :: p, by rw [List.cons_append, ← h1], ?_⟩
      have h' : (c.toNat = 32 ∨ c.toNat = 9 ∨ c.toNat = 10) ∨ c.toNat = 13 := by
        unfold isSp at h
        simp only [Bool.or_eq_true, beq_iff_eq] at h
        omega
      rw [blankV]
      split
      · exact h2
      · rw [if_neg (by omega), if_neg (by omega)]
        exact h2
    · split
      · rename_i h1 h
        obtain ⟨p, h2, h3⟩ := rest_blank true l
        refine ⟨c :: p, by rw [List.cons_append, ← h2], ?_⟩
        rw [blankV, if_neg (by omega), if_pos h]
        exact h3
      · exact ⟨[], rfl, rfl⟩
/-- The tokens lie in the text one behind the other, with spaces and comments alone between them. -/
def goodFrom (L : List UInt8) : Nat → List Tok → Prop
  | p, [] => p ≤ L.length ∧ blankV false (L.drop p) = true
  | p, t :: ts => p ≤ t.pos ∧ t.text ≠ [] ∧ t.pos + t.text.length ≤ L.length ∧ (L.drop t.pos).take t.text.length = t.text ∧ blankV false ((L.drop p).take (t.pos - p)) = true ∧ goodFrom L (t.pos + t.text.length) ts
theorem scan_offsets (L : List UInt8) (l : List UInt8) : ∀ p ts, l = L.drop p → p ≤ L.length → scanAt L.length l = .ok ts → goodFrom L p ts := by
  refine scan_induct (P := fun l => ∀ p ts, l = L.drop p → p ≤ L.length → scanAt L.length l = .ok ts → goodFrom L p ts) ?_ ?_ ?_ l
  · intro l h p ts hl hp e
    rw [scanAt_nil h] at e
    cases e
    obtain ⟨q, h1, h2⟩ := rest_blank false l
    rw [h, List.append_nil] at h1
    exact ⟨hp, by rw [← hl, h1]; exact h2⟩
  · intro l r h hr hw p ts hl hp e
    rw [scanAt_err h hr hw] at e
    cases e
  · intro l r h hr hw ih p ts hl hp e
    rw [scanAt_ok h hr hw] at e
    have hlr := rest_le false l
    rw [h] at hlr
    have hpos := tokText_pos r hw hr
    have hle := tokText_len r
    obtain ⟨q, h1, h2⟩ := rest_blank false l
    rw [h] at h1
    have hlen : l.length = L.length - p := by rw [hl, List.length_drop]
    have hq : q.length + r.length = L.length - p := by rw [← hlen, h1, List.length_append]
    have hat : L.length - r.length = p + q.length := by omega
    have hrL : L.drop (p + q.length) = r := by
      rw [← List.drop_drop, ← hl, h1, List.drop_left]
    cases hs : scanAt L.length (r.drop (tokText r).length) with
    | err a b => rw [hs] at e; cases e
    | ok us =>
      rw [hs] at e
      cases e
      refine ⟨by show p ≤ L.length - r.length; omega, by intro h0; simp only at h0; rw [h0] at hpos; simp at hpos, by show L.length - r.length + (tokText r).length ≤ _; omega, ?_, ?_, ?_⟩
      · show (L.drop (L.length - r.length)).take (tokText r).length = tokText r
        rw [hat, hrL]
        exact (List.prefix_iff_eq_take.1 (tokText_le r)).symm
      · show blankV false ((L.drop p).take (L.length - r.length - p)) = true
        rw [hat, ← hl, h1, Nat.add_sub_cancel_left, List.take_left]
        exact h2
      · refine ih _ us ?_ (by show L.length - r.length + (tokText r).length ≤ _; omega) hs
        show _ = L.drop (L.length - r.length + (tokText r).length)
        rw [hat, ← List.drop_drop, hrL]
theorem scan_err_pos (n : Nat) (l : List UInt8) : l.length ≤ n → ∀ a p, scanAt n l = .err a p → p < n ∧ (a = 2 ∨ a = 6) := by
  refine scan_induct (P := fun l => l.length ≤ n → ∀ a p, scanAt n l = .err a p → p < n ∧ (a = 2 ∨ a = 6)) ?_ ?_ ?_ l
  · intro l h _ a p e
    rw [scanAt_nil h] at e
    cases e
  · intro l r h hr hw hn a p e
    rw [scanAt_err h hr hw] at e
    have hl := rest_le false l
    rw [h] at hl
    have hpos : 0 < r.length := List.length_pos_iff.2 hr
    cases e
    refine ⟨by omega, ?_⟩
    revert hw
    unfold tokWhy textWhy
    split
    · split <;> simp
    · split
      · split <;> simp
      · split <;> simp
  · intro l r h hr hw ih hn a p e
    rw [scanAt_ok h hr hw] at e
    have hl := rest_le false l
    rw [h] at hl
    cases hs : scanAt n (r.drop (tokText r).length) with
    | err b q =>
      rw [hs] at e
      cases e
      exact ih (by rw [List.length_drop]; omega) a p hs
    | ok us => rw [hs] at e; cases e
theorem takeWhile_all {p : UInt8 → Bool} : ∀ l : List UInt8, l.all p = true → l.takeWhile p = l
  | [], _ => rfl
  | c :: l, h => by
    rw [List.all_cons, Bool.and_eq_true] at h
    rw [List.takeWhile_cons, h.1, if_pos rfl, takeWhile_all l h.2]
theorem scan_names (v : List UInt8) (h : v.all isWrd = true) : scanAt (v.length + 2) (43 :: 110 :: v) = if v.length + 1 ≤ 16 then .ok [⟨3, [43], 0⟩, ⟨1, 110 :: v, 1⟩] else .err 6 1 := by
  have f1 : rest false (43 :: 110 :: v) = 43 :: 110 :: v := fresh_of _ (by decide) (by decide)
  have f2 : rest false (110 :: v) = 110 :: v := fresh_of _ (by decide) (by decide)
  have t1 : tokText (43 :: 110 :: v) = [43] := rfl
  have t2 : tokText (110 :: v) = 110 :: v := by
    show 110 :: v.takeWhile isWrd = _
    rw [takeWhile_all v h]
  have w1 : tokWhy (43 :: 110 :: v) = 0 := rfl
  have w2 : tokWhy (110 :: v) = if v.length + 1 ≤ 16 then 0 else 6 := by
    unfold tokWhy
    rw [t2]
    rfl
  rw [scanAt_ok f1 (by simp) w1, t1]
  show (scanAt (v.length + 2) (110 :: v)).cons _ = _
  split
  · rename_i hle
    rw [scanAt_ok f2 (by simp) (by rw [w2, if_pos hle]), t2]
    have e : (110 :: v).drop (110 :: v).length = [] := by simp
    rw [e, scanAt_nil rfl]
    show Out.ok _ = Out.ok _
    have e1 : v.length + 2 - (43 :: 110 :: v).length = 0 := by simp
    have e2 : v.length + 2 - (110 :: v).length = 1 := by simp
    rw [e1, e2]
    rfl
  · rename_i hgt
    rw [scanAt_err f2 (by simp) (by rw [w2, if_neg hgt]; decide), w2, if_neg hgt]
    show Out.err _ _ = Out.err _ _
    congr 1
    simp
end Go.Proofs.YtcjolamfjgdgjaaGreatDoor
