/-
  Slices of tokens as lists; fullingref1.SameTokens: the walk.
-/
import Derived.Test.YtpkchglfgkkcbaaDoorLexPieces
import Derived.Deep.Quiet
import Derived.Deep.QuietTactic
import Derived.Deep.RegionWith
import Derived.Laws.StructEq
namespace Go.Proofs.YtpkchglfgkkcbaaDoor
open Go.RowKit (wrap32 wrap64)
open Go.RowKit
set_option maxHeartbeats 400000

theorem tokCells_at : ∀ (ts : List Tok) (i : Nat) (t : Tok), ts[i]? = some t → (tokCells ts)[i * 3]? = some (.int .i64 t.kind) ∧ (tokCells ts)[i * 3 + 1]? = some (.string ⟨t.text.toArray⟩) ∧ (tokCells ts)[i * 3 + 2]? = some (.int .i64 t.pos)
  | [], i, t, h => by simp at h
  | x :: ts, 0, t, h => by
    have : x = t := by simpa using h
    subst this
    exact ⟨rfl, rfl, rfl⟩
  | x :: ts, i + 1, t, h => by
    have ih := tokCells_at ts i t (by simpa using h)
    have e : ∀ r, (tokCells (x :: ts))[(i + 1) * 3 + r]? = (tokCells ts)[i * 3 + r]? := fun r => by
      have e1 : tokCells (x :: ts) = [.int .i64 x.kind, .string ⟨x.text.toArray⟩, .int .i64 x.pos] ++ tokCells ts := by
        unfold tokCells
        rw [List.flatMap_cons]
      rw [e1, List.getElem?_append_right (by simp; omega)]
      congr 1
      simp
      omega
    exact ⟨(e 0).trans ih.1, (e 1).trans ih.2.1, (e 2).trans ih.2.2⟩
/-- The slice value v holds the tokens ts. -/
def ToksIs (w : World) (v : Value) (ts : List Tok) : Prop :=
  ((∃ p cap, v = .slice p 0 cap) ∧ ts = []) ∨
  (∃ g cap, v = .slice (some ⟨g, 0, none⟩) ts.length cap ∧ 0 < ts.length ∧ ts.length ≤ maxLen ∧
    ∀ i t, ts[i]? = some t → w.cell? ⟨g, i * 3, none⟩ = some (.int .i64 t.kind) ∧ w.cell? ⟨g, i * 3 + 1, none⟩ = some (.string ⟨t.text.toArray⟩) ∧ w.cell? ⟨g, i * 3 + 2, none⟩ = some (.int .i64 t.pos))
theorem ToksIs.keep {w w' : World} {v : Value} {ts : List Tok} (h : ToksIs w v ts) (hb : Bel w w') : ToksIs w' v ts := by
  rcases h with h | ⟨g, cap, rfl, h0, h1, hc⟩
  · exact Or.inl h
  · refine Or.inr ⟨g, cap, rfl, h0, h1, fun i t hi => ?_⟩
    obtain ⟨a, b, c⟩ := hc i t hi
    refine ⟨?_, ?_, ?_⟩
    · rw [Below.cell hb (World.block_lt_of_cell? w _ a)]; exact a
    · rw [Below.cell hb (World.block_lt_of_cell? w _ b)]; exact b
    · rw [Below.cell hb (World.block_lt_of_cell? w _ c)]; exact c
theorem toks_of_own {w : World} {b e : Nat} {v : Value} {ts : List Tok} (h : w.ownsRow b e 3 v ts.length (tokCells ts)) : ToksIs w v ts := by
  have h' := h
  rcases h.2 with ⟨rfl, h0⟩ | ⟨g, cap, cur, rfl, _, _, h1, h2, _⟩
  · exact Or.inl ⟨⟨_, _, rfl⟩, List.length_eq_zero_iff.1 h0⟩
  · by_cases hz : ts = []
    · subst hz
      exact Or.inl ⟨⟨_, _, rfl⟩, rfl⟩
    · refine Or.inr ⟨g, cap, rfl, List.length_pos_iff.2 hz, Nat.le_trans h1 h2, fun i t hi => ?_⟩
      have hlt : i < ts.length := (List.getElem?_eq_some_iff.1 hi).1
      obtain ⟨a, b, c⟩ := tokCells_at ts i t hi
      exact ⟨by rw [h'.cellAt _ (by omega), a], by rw [h'.cellAt _ (by omega), b], by rw [h'.cellAt _ (by omega), c]⟩
theorem same_zero (p q : Option Addr) (c d : Nat) (w : World) : Calls Tryd.prog 11 #[.slice p 0 c, .slice q 0 d] w fun e w' => e = .returned (.bool true) ∧ w = w' := by
  go_enter Tryd.func11, Tryd.ntmps11
  go_wp2_with fail
  go_loop [5] (fun i => i = .int .i64 0) (fun _ => 0)
  case atStart => rfl
  case round =>
    obtain rfl := hrel
    go_wp2_with fail
    go_ret
    exact ⟨rfl, rfl⟩
theorem same_length (p q : Option Addr) (c d m n : Nat) (w : World) (h : ((m : Int) == (n : Int)) = false) : Calls Tryd.prog 11 #[.slice p m c, .slice q n d] w fun e w' => e = .returned (.bool false) ∧ w = w' := by
  go_enter Tryd.func11, Tryd.ntmps11
  go_wp2_with fail
  go_ret
  exact ⟨rfl, rfl⟩
theorem tok_equal (a b : Int) (x y : ByteArray) (p q : Int) (W : World) : (Op.equalIn 10000 46 (.agg #[.int .i64 a, .string x, .int .i64 p]) (.agg #[.int .i64 b, .string y, .int .i64 q])).run Tryd.prog W = .ok (a == b && (x.toList == y.toList && p == q)) W := by
  have hf : (Tryd.prog.fieldsOf 46).toList.map (fun f => (f.name == "_", f.type, f.offset)) = [(false, 3, 0), (false, 9, 1), (false, 3, 2)] := by kernel_rfl
  have u1 := Tryd.underlying3
  have u2 := Tryd.underlying9
  rw [run_equalIn_agg W 9999 _ _ _ (by kernel_rfl) (by kernel_rfl)]
  generalize (Tryd.prog.fieldsOf 46).toList = l at hf ⊢
  rcases l with _ | ⟨f0, _ | ⟨f1, _ | ⟨f2, _ | ⟨f3, l⟩⟩⟩⟩ <;> simp at hf
  obtain ⟨⟨n0, t0, o0⟩, ⟨n1, t1, o1⟩, n2, t2, o2⟩ := hf
  have p0 : ∀ (v0 v1 v2 : Value) (W : World), (part 3 #[v0, v1, v2] 0).run Tryd.prog W = .ok v0 W := fun _ _ _ _ => by kernel_rfl
  have p1 : ∀ (v0 v1 v2 : Value) (W : World), (part 9 #[v0, v1, v2] 1).run Tryd.prog W = .ok v1 W := fun _ _ _ _ => by kernel_rfl
  have p2 : ∀ (v0 v1 v2 : Value) (W : World), (part 3 #[v0, v1, v2] 2).run Tryd.prog W = .ok v2 W := fun _ _ _ _ => by kernel_rfl
  have q1 : ∀ (a b : Int) (W : World), (Op.equalIn 9999 3 (.int .i64 a) (.int .i64 b)).run Tryd.prog W = .ok (a == b) W := fun a b W => run_equalIn_int W 9998 _ _ _ _ _ u1
  have q2 : ∀ (a b : ByteArray) (W : World), (Op.equalIn 9999 9 (.string a) (.string b)).run Tryd.prog W = .ok (a.toList == b.toList) W := fun a b W => run_equalIn_string W 9998 _ _ _ u2
  obtain ⟨c0, hc0⟩ : ∃ c, (a == b) = c := ⟨_, rfl⟩
  obtain ⟨c1, hc1⟩ : ∃ c, (x.toList == y.toList) = c := ⟨_, rfl⟩
  obtain ⟨c2, hc2⟩ : ∃ c, (p == q) = c := ⟨_, rfl⟩
  rw [hc0, hc1, hc2]
  have q3 := fun W => q1 a b W
  have q4 := fun W => q2 x y W
  have q5 := fun W => q1 p q W
  rw [hc0] at q3
  rw [hc1] at q4
  rw [hc2] at q5
  clear hc0 hc1 hc2 q1 q2
  cases c0 <;> cases c1 <;> cases c2 <;> simp [Op.eqFields, n0, n1, n2, t0, t1, t2, o0, o1, o2, Sem.run_bind, p0, p1, p2, q3, q4, q5, Result.andThen_ok]
theorem tok_same {t u : Tok} (h : (!(t.kind == u.kind && ((⟨t.text.toArray⟩ : ByteArray).toList == (⟨u.text.toArray⟩ : ByteArray).toList && (t.pos : Int) == (u.pos : Int)))) = false) : t = u := by
  rw [Lib.toList_data, Lib.toList_data] at h
  simp at h
  cases t
  cases u
  simp only at h
  obtain ⟨rfl, rfl, h3⟩ := h
  congr 1
  omega
theorem bel_drewN {a w : World} (h : Bel a w) (n : Nat) : Bel a (w.drewN n) := Bel.trans h ⟨rfl, rfl, rfl, Nat.le_refl _, fun _ _ => rfl⟩
theorem tok_neq (a b : Int) (x y : ByteArray) (p q : Int) (W : World) : (binOp .neq 46 (.agg #[.int .i64 a, .string x, .int .i64 p]) (.agg #[.int .i64 b, .string y, .int .i64 q])).run Tryd.prog W = .ok (.bool (!(a == b && (x.toList == y.toList && p == q)))) W := by
  rw [run_neq_struct, tok_equal]
  rfl
set_option maxRecDepth 100000 in
theorem same_loop (g g' c d : Nat) (ts us : List Tok) (n : Nat) (w : World) (hn : Hid (ts.length = n)) (hn' : Hid (us.length = n)) (hm : n ≤ maxLen)
    (h1 : ∀ i t, ts[i]? = some t → w.cell? ⟨g, i * 3, none⟩ = some (.int .i64 t.kind) ∧ w.cell? ⟨g, i * 3 + 1, none⟩ = some (.string ⟨t.text.toArray⟩) ∧ w.cell? ⟨g, i * 3 + 2, none⟩ = some (.int .i64 t.pos))
    (h2 : ∀ i t, us[i]? = some t → w.cell? ⟨g', i * 3, none⟩ = some (.int .i64 t.kind) ∧ w.cell? ⟨g', i * 3 + 1, none⟩ = some (.string ⟨t.text.toArray⟩) ∧ w.cell? ⟨g', i * 3 + 2, none⟩ = some (.int .i64 t.pos)) :
    Calls Tryd.prog 11 #[.slice (some ⟨g, 0, none⟩) n c, .slice (some ⟨g', 0, none⟩) n d] w fun e w' => e = .returned (.bool (decide (ts = us))) ∧ Bel w w' := by
  have H1 := Lib.hid h1
  have H2 := Lib.hid h2
  unfold maxLen at hm
  clear h1 h2
  go_enter Tryd.func11, Tryd.ntmps11
  go_wp2_with fail
  go_loopw [5] (fun i wr => ∃ k : Nat, k ≤ n ∧ i = .int .i64 k ∧ Hid (ts.take k = us.take k) ∧ Hid (Bel w wr)) (fun i _ => n - (intOf i).toNat)
  case atStart => exact ⟨0, by omega, rfl, Lib.hid rfl, Lib.hid (Bel.refl _)⟩
  case round =>
    obtain ⟨k, hk, rfl, HE, HB⟩ := hrel
    by_cases hlt : k < n
    · obtain ⟨t, ht⟩ : ∃ t, ts[k]? = some t := ⟨_, List.getElem?_eq_getElem (by rw [hn.out]; exact hlt)⟩
      obtain ⟨u, hu⟩ : ∃ u, us[k]? = some u := ⟨_, List.getElem?_eq_getElem (by rw [hn'.out]; exact hlt)⟩
      obtain ⟨a1, a2, a3⟩ := H1.out k t ht
      obtain ⟨b1, b2, b3⟩ := H2.out k u hu
      have HT := Lib.hid ht
      have HU := Lib.hid hu
      clear ht hu
      have a1' : ∀ q, (wr.drewN q).cell? ⟨g, k * 3, none⟩ = some (.int .i64 t.kind) := fun q => (Below.cell HB.out (World.block_lt_of_cell? w _ a1)).trans a1
      have a2' : ∀ q, (wr.drewN q).cell? ⟨g, k * 3 + 1, none⟩ = some (.string ⟨t.text.toArray⟩) := fun q => (Below.cell HB.out (World.block_lt_of_cell? w _ a2)).trans a2
      have a3' : ∀ q, (wr.drewN q).cell? ⟨g, k * 3 + 2, none⟩ = some (.int .i64 t.pos) := fun q => (Below.cell HB.out (World.block_lt_of_cell? w _ a3)).trans a3
      have b1' : ∀ q, (wr.drewN q).cell? ⟨g', k * 3, none⟩ = some (.int .i64 u.kind) := fun q => (Below.cell HB.out (World.block_lt_of_cell? w _ b1)).trans b1
      have b2' : ∀ q, (wr.drewN q).cell? ⟨g', k * 3 + 1, none⟩ = some (.string ⟨u.text.toArray⟩) := fun q => (Below.cell HB.out (World.block_lt_of_cell? w _ b2)).trans b2
      have b3' : ∀ q, (wr.drewN q).cell? ⟨g', k * 3 + 2, none⟩ = some (.int .i64 u.pos) := fun q => (Below.cell HB.out (World.block_lt_of_cell? w _ b3)).trans b3
      clear a1 a2 a3 b1 b2 b3
      have k0 : (0 : Int) ≤ (k : Int) := by omega
      have k1 : (k : Int) < (n : Int) := by omega
      have hg : Tryd.prog.eqGuardType Tryd.prog.depth 46 = false := by kernel_rfl
      have hcmp := tok_neq t.kind u.kind ⟨t.text.toArray⟩ ⟨u.text.toArray⟩ t.pos u.pos
      obtain ⟨b, hb⟩ : ∃ b, (!(t.kind == u.kind && ((⟨t.text.toArray⟩ : ByteArray).toList == (⟨u.text.toArray⟩ : ByteArray).toList && (t.pos : Int) == (u.pos : Int)))) = b := ⟨_, rfl⟩
      rw [hb] at hcmp
      have HCB := Lib.hid hb
      clear hb
      go_wp2_with fail
      go_quiet (fail)
      have HL : Hid (ts.take (k + 1) = ts.take k ++ [t] ∧ us.take (k + 1) = us.take k ++ [u]) := Lib.hid ⟨by rw [List.take_add_one, HT.out]; rfl, by rw [List.take_add_one, HU.out]; rfl⟩
      cases b
      · have HQ : Hid (t = u) := Lib.hid (tok_same HCB.out)
        go_wp2_with fail
        refine ⟨⟨k + 1, by omega, by go_num, Lib.hid ?_, Lib.hid (bel_drewN HB.out _)⟩, by simp [intOf]; omega⟩
        rw [HL.out.1, HL.out.2, HE.out, HQ.out]
      · have HQ : Hid (decide (ts = us) = false) := Lib.hid (by
          rw [decide_eq_false_iff_not]
          intro h
          have h1 := HT.out
          rw [h, HU.out] at h1
          have := HCB.out
          rw [Option.some.inj h1] at this
          simp at this)
        go_wp2_with fail
        go_ret
        exact ⟨by rw [HQ.out]; rfl, bel_drewN HB.out _⟩
    · obtain rfl : k = n := by omega
      have HQ : Hid (decide (ts = us) = true) := Lib.hid (by
        rw [decide_eq_true_eq]
        have h := HE.out
        rw [List.take_of_length_le (by rw [hn.out]; exact Nat.le_refl _), List.take_of_length_le (by rw [hn'.out]; exact Nat.le_refl _)] at h
        exact h)
      go_wp2_with fail
      go_ret
      exact ⟨by rw [HQ.out]; rfl, HB.out⟩
theorem same_any (v v' : Value) (ts us : List Tok) (w : World) (h : ToksIs w v ts) (h' : ToksIs w v' us) : Calls Tryd.prog 11 #[v, v'] w fun e w' => e = .returned (.bool (decide (ts = us))) ∧ Bel w w' := by
  by_cases hl : ts.length = us.length
  · rcases h with ⟨⟨p, c, rfl⟩, rfl⟩ | ⟨g, c, rfl, h0, h1, hc⟩ <;> rcases h' with ⟨⟨q, d, rfl⟩, rfl⟩ | ⟨g', d, rfl, h0', h1', hc'⟩
    · refine (same_zero p q c d w).mono ?_
      rintro e w' ⟨rfl, rfl⟩
      exact ⟨rfl, Bel.refl _⟩
    · rw [List.length_nil] at hl; omega
    · rw [List.length_nil] at hl; omega
    · rw [hl]
      exact same_loop g g' c d ts us us.length w (Lib.hid hl) (Lib.hid rfl) h1' hc hc'
  · have e : decide (ts = us) = false := by rw [decide_eq_false_iff_not]; intro h; exact hl (by rw [h])
    rw [e]
    have hx : ∀ {v : Value} {ts : List Tok}, ToksIs w v ts → ∃ p c, v = .slice p ts.length c := by
      rintro v ts (⟨⟨p, c, rfl⟩, rfl⟩ | ⟨g, c, rfl, _⟩)
      · exact ⟨p, c, rfl⟩
      · exact ⟨_, c, rfl⟩
    obtain ⟨p, c, rfl⟩ := hx h
    obtain ⟨q, d, rfl⟩ := hx h'
    refine (same_length p q c d _ _ w (by rw [beq_eq_false_iff_ne]; omega)).mono ?_
    rintro e w' ⟨rfl, rfl⟩
    exact ⟨rfl, Bel.refl _⟩
end Go.Proofs.YtpkchglfgkkcbaaDoor
