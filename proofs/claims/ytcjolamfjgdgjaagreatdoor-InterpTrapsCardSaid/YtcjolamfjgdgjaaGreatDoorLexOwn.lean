/-
  Rows of tokens in memory: what the call itself made, and how it stands behind quiet calls.
-/
import Derived.Test.YtcjolamfjgdgjaaGreatDoorLexTwo
import Derived.Laws.AppendOwn
import Derived.Laws.OwnMore
import Derived.OwnWalk
import Derived.Deep.AppendLies
namespace Go.Proofs.YtcjolamfjgdgjaaGreatDoor
open Go.RowKit (wrap32 wrap64)
open Go.RowKit
set_option maxHeartbeats 400000

theorem bel_drewN {a w : World} (h : Bel a w) (n : Nat) : Bel a (w.drewN n) := Bel.trans h ⟨rfl, rfl, rfl, Nat.le_refl _, fun _ _ => rfl⟩
def tokCells (ts : List Tok) : List Value := ts.flatMap (fun t => [.int .i64 t.kind, .string ⟨t.text.toArray⟩, .int .i64 t.pos])
theorem tokCells_snoc (ts : List Tok) (t : Tok) : tokCells (ts ++ [t]) = tokCells ts ++ [.int .i64 t.kind, .string ⟨t.text.toArray⟩, .int .i64 t.pos] := by
  unfold tokCells
  rw [List.flatMap_append]
  simp
theorem tokCells_len : ∀ ts : List Tok, (tokCells ts).length = ts.length * 3
  | [] => rfl
  | t :: ts => by
    have := tokCells_len ts
    unfold tokCells at *
    rw [List.flatMap_cons, List.length_append, this]
    simp
    omega
theorem own_bel {w w' : World} {b e sz n : Nat} {v : Value} {xs : List Value} (h : w.ownsRow b e sz v n xs) (hb : Bel w w') : w'.ownsRow b e sz v n xs := by
  obtain ⟨h1, h2⟩ := h
  refine ⟨h1, ?_⟩
  rcases h2 with h2 | ⟨g, cap, cur, hv, hg, hh, h3⟩
  · exact Or.inl h2
  · refine Or.inr ⟨g, cap, cur, hv, hg, ?_, h3⟩
    have hlt : g < w.heap.size := (Array.getElem?_eq_some_iff.1 hh).1
    rw [hb.block g hlt]
    exact hh
theorem own_block {w : World} {b e sz n : Nat} {v : Value} {xs : List Value} (h : w.ownsRow b e sz v n xs) : ∀ g, v.ownBlock = some g → b ≤ g ∧ g < w.heap.size := by
  intro g hg
  rcases h.2 with ⟨rfl, _⟩ | ⟨g', cap, cur, rfl, hb, hh, _⟩
  · cases hg
  · have : g' = g := by simpa [Value.ownBlock] using hg
    subst this
    exact ⟨hb, (Array.getElem?_eq_some_iff.1 hh).1⟩
theorem own_ne {w : World} {b e sz n : Nat} {v : Value} {xs : List Value} (h : w.ownsRow b e sz v n xs) (g : Nat) (hg : g < b ∨ w.heap.size ≤ g) : some g ≠ v.ownBlock := by
  intro he
  have := own_block h g he.symm
  omega
theorem news3 (w1 : World) (a b c : Value) (o : Obj) (t : TypeId) : ∀ (j : Nat) (u : Value), [a, b, c][j]? = some u → ((w1.alloc o).alloc (.cells #[a, b, c] t)).cell? ((⟨w1.heap.size + 1, 0, none⟩ : Addr).add j) = some u := by
  intro j u hj
  refine World.news_of_block (B := w1.heap.size + 1) (cs := #[a, b, c]) (t := t) (fr := (0, 0)) ?_ j u hj
  show ((w1.heap.push o).push _)[w1.heap.size + 1]? = _
  have : w1.heap.size + 1 = (w1.heap.push o).size := by simp
  rw [this, Array.getElem?_push_size]
/-- The token's variable stands behind the append. -/
theorem tok_behind {w1 w2 : World} {v : Value} {b e sz n : Nat} {xs : List Value} {x y z : Value} {o : Obj} {t : TypeId} (h : w1.ownsRow b e sz v n xs) (hg : ((w1.alloc (.cells #[x, y, z] t)).alloc o).grownBy w2 v.ownBlock) : w2.cell? ⟨w1.heap.size, 1, none⟩ = some y := by
  rw [hg.cell_far ⟨w1.heap.size, 1, none⟩ (by simp; omega) (own_ne h _ (Or.inr (Nat.le_refl _)))]
  simp
/-- What was there before the scan stands behind the append. -/
theorem bel_behind {w0 w1 w2 : World} {v : Value} {b e sz n : Nat} {xs : List Value} {o o' : Obj} (hb : Bel w0 w1) (h : w1.ownsRow b e sz v n xs) (hB : w0.heap.size ≤ b) (hg : ((w1.alloc o).alloc o').grownBy w2 v.ownBlock) : Bel w0 w2 := by
  refine Below.grown ((hb.alloc o).alloc o') hg ?_ ?_
  · have := hb.size
    simp
    omega
  · intro g he
    have := own_block h g he
    omega
/-- What the scan has come to: the tokens that are done, then the rest. -/
def Out.pre (ts : List Tok) : Out → Out
  | .ok us => .ok (ts ++ us)
  | .err a p => .err a p
theorem Out.pre_cons (ts : List Tok) (t : Tok) (o : Out) : Out.pre ts (o.cons t) = Out.pre (ts ++ [t]) o := by
  cases o with
  | ok us => simp [Out.pre, Out.cons]
  | err a p => rfl
theorem Out.pre_nil (o : Out) : Out.pre [] o = o := by cases o <;> rfl
theorem scanAt_rest (n : Nat) (l : List UInt8) : scanAt n l = scanAt n (rest false l) := by
  have e := rest_idem false l
  by_cases h1 : rest false l = []
  · rw [scanAt_nil h1, h1, scanAt_nil rfl]
  · by_cases h2 : tokWhy (rest false l) = 0
    · rw [scanAt_ok rfl h1 h2, scanAt_ok e h1 h2]
    · rw [scanAt_err rfl h1 h2, scanAt_err e h1 h2]
theorem scan_step {n k m r : Nat} {L : List UInt8} {ts : List Tok} (hn : L.length = n) (hk : k ≤ n) (hne : L.drop k ≠ []) (hw : tokWhy (L.drop k) = 0) (hF : rest false (L.drop k) = L.drop k) (hR : scanAt n L = Out.pre ts (scanAt n (L.drop k)))
    (hm : k + (tokText (L.drop k)).length = m) (hr : rest false (L.drop m) = L.drop r) : scanAt n L = Out.pre (ts ++ [⟨headKind (L.drop k), tokText (L.drop k), k⟩]) (scanAt n (L.drop r)) := by
  rw [hR, scanAt_ok hF hne hw, Out.pre_cons, List.drop_drop, hm, scanAt_rest n (L.drop m), hr]
  have : n - (L.drop k).length = k := by rw [List.length_drop]; omega
  rw [this]
def ScanPost (s : ByteArray) (w : World) (e : Ending) (w' : World) : Prop :=
  match scanL s.data.toList with
  | .ok ts => ∃ v, e = .returned (.tuple #[v, .agg #[.int .i64 0, .int .i64 0]]) ∧ w'.ownsRow w.heap.size 96 3 v ts.length (tokCells ts) ∧ Bel w w'
  | .err a p => e = .returned (.tuple #[.slice none 0 0, .agg #[.int .i64 a, .int .i64 p]]) ∧ Bel w w'
theorem scanPost_ok {s : ByteArray} {w : World} {ts : List Tok} (h : scanL s.data.toList = .ok ts) : ScanPost s w = fun e w' => ∃ v, e = .returned (.tuple #[v, .agg #[.int .i64 0, .int .i64 0]]) ∧ w'.ownsRow w.heap.size 96 3 v ts.length (tokCells ts) ∧ Bel w w' := by
  funext e w'
  unfold ScanPost
  rw [h]
theorem scanPost_err {s : ByteArray} {w : World} {a : Int} {p : Nat} (h : scanL s.data.toList = .err a p) : ScanPost s w = fun e w' => e = .returned (.tuple #[.slice none 0 0, .agg #[.int .i64 a, .int .i64 p]]) ∧ Bel w w' := by
  funext e w'
  unfold ScanPost
  rw [h]
/-- The error's variable stands behind quiet calls. -/
theorem err_cell {w w1 : World} {a b : Value} {t : TypeId} (hb : Bel (w.alloc (.cells #[a, b] t)) w1) :
    w1.cell? ⟨w.heap.size, 0, none⟩ = some a ∧ w1.cell? ⟨w.heap.size, 1, none⟩ = some b ∧
    w1.frozen? ⟨w.heap.size, 0, none⟩ = false ∧ w1.frozen? ⟨w.heap.size, 1, none⟩ = false ∧ w.heap.size < w1.heap.size := by
  have hlt : w.heap.size < (w.alloc (.cells #[a, b] t)).heap.size := by simp
  refine ⟨?_, ?_, ?_, ?_, Nat.lt_of_lt_of_le hlt hb.size⟩
  · rw [Below.cell hb (p := ⟨w.heap.size, 0, none⟩) hlt]; simp
  · rw [Below.cell hb (p := ⟨w.heap.size, 1, none⟩) hlt]; simp
  · rw [Below.frozen hb (p := ⟨w.heap.size, 0, none⟩) hlt]; simp
  · rw [Below.frozen hb (p := ⟨w.heap.size, 1, none⟩) hlt]; simp
theorem err_end {w w1 : World} {o : Obj} (hb : Bel (w.alloc o) w1) (a b : Value) : Bel w ((w1.setCell ⟨w.heap.size, 0, none⟩ a).setCell ⟨w.heap.size, 1, none⟩ b) :=
  Below.setCell (Below.setCell (((Bel.refl w).alloc o).trans hb) (p := ⟨w.heap.size, 0, none⟩) (Nat.le_refl _) a) (p := ⟨w.heap.size, 1, none⟩) (Nat.le_refl _) b
theorem own_set {w : World} {b e sz n : Nat} {v : Value} {xs : List Value} (h : w.ownsRow b e sz v n xs) (p : Addr) (u : Value) (hp : p.block < b) : (w.setCell p u).ownsRow b e sz v n xs := by
  obtain ⟨h1, h2⟩ := h
  refine ⟨h1, ?_⟩
  rcases h2 with h2 | ⟨g, cap, cur, hv, hg, hh, h3⟩
  · exact Or.inl h2
  · refine Or.inr ⟨g, cap, cur, hv, hg, ?_, h3⟩
    rw [Below.heap_setCell _ _ _ _ (by omega)]
    exact hh
theorem own_base {w : World} {b b' e sz n : Nat} {v : Value} {xs : List Value} (h : w.ownsRow b e sz v n xs) (hb : b' ≤ b) : w.ownsRow b' e sz v n xs := by
  obtain ⟨h1, h2⟩ := h
  refine ⟨h1, ?_⟩
  rcases h2 with h2 | ⟨g, cap, cur, hv, hg, h3⟩
  · exact Or.inl h2
  · exact Or.inr ⟨g, cap, cur, hv, Nat.le_trans hb hg, h3⟩
end Go.Proofs.YtcjolamfjgdgjaaGreatDoor
