/-
  Operations that make blocks, that read memory, that build values.
-/
import Derived.Test.YtcjolamfjgdgjaaGreatDoorEvOps
import Derived.Laws.BytesString
import Derived.Lib.SliceRun
import Derived.WalkSpells
namespace Go.Proofs.YtcjolamfjgdgjaaGreatDoor.Ev
open Go.RowKit
variable [Syms]
section
variable {P : Program} {ρ : Ren} {e : Env} {ev : Operand → Value} {nx : Nat} {w : World} {mem : Tr Blk}

theorem cells_sim (hm : MR ρ mem w) {σ : St} (hσ : σ.mem = mem) {l o n : Nat} {cs : List Value} (h : cellsAt σ l o n = some cs) {L : Loc} (hL : ρ l = some L) :
    ∃ ds, VRs ρ cs ds ∧ w.rangeAt L.b (L.d + o) ds ∧ cs.length = n := by
  unfold cellsAt at h
  rw [hσ] at h
  obtain ⟨B, hB, _, _, _, _, hc⟩ := hm.blk l L hL
  rw [hB] at h
  obtain ⟨h1, h2⟩ := bif_some h
  obtain rfl := Option.some.inj h2
  have hle := Nat.le_of_ble_eq_true h1
  have hlen : ((B.cells.drop o).take n).length = n := by simp; omega
  refine ⟨(List.range n).map fun j => (w.cell? ⟨L.b, L.d + o + j, none⟩).getD undef, ?_, ?_, hlen⟩
  · refine VRs.of (by rw [hlen]; simp) fun i x hx => ?_
    have hi : i < n := by
      have := (List.getElem?_eq_some_iff.1 hx).1
      omega
    rw [List.getElem?_take, if_pos hi, List.getElem?_drop] at hx
    obtain ⟨c, hc1, hc2⟩ := hc (o + i) x hx
    refine ⟨c, ?_, hc2⟩
    rw [List.getElem?_map, List.getElem?_range hi]
    simp only [Option.map_some]
    rw [Nat.add_assoc, hc1]
    rfl
  · intro j v hv
    have hj : j < n := by
      have := (List.getElem?_eq_some_iff.1 hv).1
      simpa using this
    rw [List.getElem?_map, List.getElem?_range hj] at hv
    simp only [Option.map_some, Option.some.injEq] at hv
    have hB' : ∃ x, B.cells[o + j]? = some x := ⟨_, List.getElem?_eq_getElem (by omega)⟩
    obtain ⟨x, hx⟩ := hB'
    obtain ⟨c, hc1, _⟩ := hc (o + j) x hx
    rw [← Nat.add_assoc] at hc1
    rw [hc1] at hv ⊢
    exact congrArg some hv
theorem load_run (hm : MR ρ mem w) {σ : St} (hσ : σ.mem = mem) {t : TypeId} {l o : Nat} {v : Value} (h : loadV P σ t l o = some v) {L : Loc} (hL : ρ l = some L) : ∃ c, (loadVar t ⟨L.b, L.d + o, none⟩).run P w = .ok c w ∧ VR ρ v c := by
  unfold loadV at h
  split at h
  · rename_i d i hu hi
    split at h
    · rename_i hd
      cases hc : cellsAt σ l o i.size with
      | none => rw [hc] at h; cases h
      | some cs =>
        rw [hc] at h
        obtain rfl := Option.some.inj h
        obtain ⟨ds, h1, h2, h3⟩ := cells_sim hm hσ hc hL
        refine ⟨.agg ds.toArray, run_loadVar_mid w L.b (L.d + o) t ds d h2 hu (by cases d <;> first | rfl | cases hd) (by rw [hi, ← h1.length, h3]; rfl), ?_⟩
        exact .agg h1
    · rename_i hd
      rw [hσ] at h
      obtain ⟨B, hB, _, _, _, _, hc⟩ := hm.blk l L hL
      rw [hB] at h
      obtain ⟨c, hc1, hc2⟩ := hc o v h
      refine ⟨c, ?_, hc2⟩
      have ha : (isAgg t).run P w = .ok false w := by
        simp only [isAgg, Sem.run_bind, run_underlying hu, Result.andThen_ok]
        cases d <;> first | rfl | cases hd
      simp [loadVar, ha, hc1]
  · cases h
theorem load_sim (hm : MR ρ mem w) {σ : St} (hσ : σ.mem = mem) (he : Env.rel ρ e ev) {o : Oper} {t : TypeId} {x : Operand} (ho : o.op = .load t x) {v : Value} {ob : Option Blk} (h : neLoad P σ t (e x) = some (v, ob)) : NEok P ρ nx (execOp ev o) w v ob := by
  unfold neLoad at h
  split at h
  · rename_i l off hx
    obtain ⟨rfl, h1⟩ := asVal_some h
    obtain ⟨L, hL, hcv⟩ := (he x _ hx).ptr_inv
    obtain ⟨c, hr, hv⟩ := load_run hm hσ h1 hL
    refine ⟨c, ?_, hv⟩
    simp [execOp, ho, hcv, Instr.loadAt, Instr.sureAddr, hr]
  · cases h
omit [Syms] in
theorem zero_inv {t : TypeId} {z : List Value} (h : zeroCells P t = some z) : ∃ i v, P.info? t = some i ∧ i.zero = some v ∧ ground v = true ∧ z = v.cells.toList := by
  unfold zeroCells at h
  split at h
  · rename_i i hi
    split at h
    · rename_i v hv
      obtain ⟨h1, h2⟩ := bif_some h
      exact ⟨i, v, hi, hv, h1, (Option.some.inj h2).symm⟩
    · cases h
  · cases h
theorem VRs.cells {cs : Array Value} {vs : List Value} (h : VRs ρ vs cs.toList) : ∀ (i : Nat) (x : Value), vs[i]? = some x → ∃ c, cs[i]? = some c ∧ VR ρ x c := fun i x hx => by
  obtain ⟨c, h1, h2⟩ := h.at i x hx
  exact ⟨c, by simpa using h1, h2⟩
theorem alloc_sim {o : Oper} {t : TypeId} (ho : o.op = .alloc t) {v : Value} {ob : Option Blk} (h : neAlloc nx (P.info? t) (zeroCells P t) = some (v, ob)) : NEok P ρ nx (execOp ev o) w v ob := by
  unfold neAlloc at h
  split at h
  · rename_i i z hi hz
    simp only [Option.some.injEq, Prod.mk.injEq] at h
    obtain ⟨rfl, rfl⟩ := h
    obtain ⟨i', v, hi', hv, hg, rfl⟩ := zero_inv hz
    have hrel := (VR.refl (ρ := ρ) hg).cells
    refine ⟨v.cells, t, .pointer (some ⟨w.heap.size, 0, none⟩), ?_, ⟨rfl, rfl⟩, by simp, hrel.cells, fun ρ' _ hl => ?_⟩
    · simp [execOp, ho, Instr.alloc, zeroValue, typeInfo, hi', hv, newVar, newRow]
    · have := VR.ptr (ρ := ρ') (o := 0) hl
      simpa using this
  · cases h
theorem box_sim (he : Env.rel ρ e ev) {o : Oper} {t : TypeId} {x : Operand} (ho : o.op = .box t x) {v : Value} {ob : Option Blk} (h : neBox nx (P.info? t) (e x) = some (v, ob)) : NEok P ρ nx (execOp ev o) w v ob := by
  unfold neBox at h
  split at h
  · rename_i i y hi hx
    simp only [Option.some.injEq, Prod.mk.injEq] at h
    obtain ⟨rfl, rfl⟩ := h
    have hrel := (he x y hx).cells
    refine ⟨(ev x).cells, t, .pointer (some ⟨w.heap.size, 0, none⟩), ?_, ⟨rfl, rfl⟩, ?_, hrel.cells, fun ρ' _ hl => ?_⟩
    · simp [execOp, ho, Instr.box, newVar, newRow]
    · have := hrel.length
      simp only [Array.length_toList] at this
      simp [this]
    · have := VR.ptr (ρ := ρ') (o := 0) hl
      simpa using this
  · cases h
theorem mapM_sim (he : Env.rel ρ e ev) : ∀ {l : List Operand} {vs : List Value}, l.mapM e = some vs → VRs ρ vs (l.map ev)
  | [], vs, h => by
    simp at h
    subst h
    exact .nil
  | x :: l, vs, h => by
    rw [List.mapM_cons] at h
    simp only [Option.bind_eq_bind, Option.pure_def, Option.bind_eq_some_iff, Option.some.injEq] at h
    obtain ⟨y, hy, ys, hys, rfl⟩ := h
    exact .cons (he x y hy) (mapM_sim he hys)
theorem func_sim (he : Env.rel ρ e ev) {o : Oper} {f : FuncId} {a b : Array Operand} (ho : o.op = .makeFunc (.func f) a b) {v : Value} {ob : Option Blk} (h : neFunc f (a.toList.mapM e) (b.toList.mapM e) = some (v, ob)) : NEok P ρ nx (execOp ev o) w v ob := by
  unfold neFunc at h
  split at h
  · rename_i x y hx hy
    simp only [Option.some.injEq, Prod.mk.injEq] at h
    obtain ⟨rfl, rfl⟩ := h
    have h1 := mapM_sim he hx
    have h2 := mapM_sim he hy
    refine ⟨.func (.func f) (a.map ev) (b.map ev), by simp [execOp, ho, Instr.makeFunc], ?_⟩
    have := VR.func (f := f) h1 h2
    have e1 : a.map ev = ⟨a.toList.map ev⟩ := by apply Array.ext'; simp
    have e2 : b.map ev = ⟨b.toList.map ev⟩ := by apply Array.ext'; simp
    rw [e1, e2]
    exact this
  · cases h
theorem mmV_ok {mx : Bool} {a b v ca cb : Value} (h : mmV mx a b = some v) (ha : VR ρ a ca) (hb : VR ρ b cb) : ∃ cv, VR ρ v cv ∧ ((bif mx then Builtin.max2 ca cb else Builtin.min2 ca cb).run P w = .ok cv w) := by
  unfold mmV at h
  split at h
  · rename_i k a j b
    obtain ⟨h1, h2⟩ := bif_some h
    obtain rfl := of_decide_eq_true h1
    obtain rfl := Option.some.inj h2
    obtain rfl := ha.groundEq rfl
    obtain rfl := hb.groundEq rfl
    refine ⟨_, .refl rfl, ?_⟩
    cases mx <;> simp [Builtin.max2, Builtin.min2]
  · obtain ⟨hq, h2⟩ := bif_some h
    simp only [Bool.and_eq_true] at hq
    obtain ⟨cv, hcv, k, m, n, rfl, rfl, rfl⟩ := Syms.mm_ok _ _ _ _ h2 _ _ (ha.at hq.2.1) (hb.at hq.2.2)
    refine ⟨_, VR.ofAt hcv, ?_⟩
    cases mx <;> simp [Builtin.max2, Builtin.min2]
theorem mm_sim (he : Env.rel ρ e ev) {o : Oper} {c : Call} (ho : o.op = .call c) {mx : Bool} (hc : (c.callee = .builtin .max ∧ mx = true) ∨ (c.callee = .builtin .min ∧ mx = false)) {v : Value} {ob : Option Blk} (h : neMm P e o mx c.args.toList = some (v, ob)) : NEok P ρ nx (execOp ev o) w v ob := by
  unfold neMm at h
  split at h
  · rename_i x y hx
    have hargs : c.args = #[x, y] := by apply Array.ext'; simpa using hx
    unfold neMm2 at h
    split at h
    · rename_i k a j b hxv hyv
      obtain ⟨h1, h2⟩ := bif_some h
      simp only [Option.some.injEq, Prod.mk.injEq] at h2
      obtain ⟨rfl, rfl⟩ := h2
      have ha := (he x _ hxv).groundEq rfl
      have hb := (he y _ hyv).groundEq rfl
      refine ⟨_, ?_, .refl rfl⟩
      rcases hc with ⟨hc, rfl⟩ | ⟨hc, rfl⟩
      · simp [execOp, ho, resolve, hc, hargs, invoke, builtin, Builtin.max_, Builtin.max2, ha, hb]
      · simp [execOp, ho, resolve, hc, hargs, invoke, builtin, Builtin.min_, Builtin.min2, ha, hb]
    · rename_i a b _ hxv hyv
      cases hq : (isSym a || isSym b) && (atOk a && atOk b) with
      | false => rw [hq, cond_false] at h; exact asGround_sim he h
      | true =>
        rw [hq, cond_true] at h
        obtain ⟨rfl, h6⟩ := asVal_some h
        simp only [Bool.and_eq_true] at hq
        obtain ⟨cv, hcv, k, m, n, ha, hb, rfl⟩ := Syms.mm_ok _ _ _ _ h6 _ _ ((he x _ hxv).at hq.2.1) ((he y _ hyv).at hq.2.2)
        refine ⟨_, ?_, VR.ofAt hcv⟩
        rcases hc with ⟨hc, rfl⟩ | ⟨hc, rfl⟩
        · simp [execOp, ho, resolve, hc, hargs, invoke, builtin, Builtin.max_, Builtin.max2, ha, hb]
        · simp [execOp, ho, resolve, hc, hargs, invoke, builtin, Builtin.min_, Builtin.min2, ha, hb]
    · exact asGround_sim he h
  · rename_i x y z hx
    have hargs : c.args = #[x, y, z] := by apply Array.ext'; simpa using hx
    unfold neMm3 at h
    split at h
    · rename_i a b d hxv hyv hzv
      unfold mmV3 at h
      split at h
      · rename_i m hm
        obtain ⟨rfl, h6⟩ := asVal_some h
        obtain ⟨cm, hcm, hr⟩ := mmV_ok (P := P) (w := w) hm (he x _ hxv) (he y _ hyv)
        obtain ⟨cv, hcv, hr2⟩ := mmV_ok (P := P) (w := w) h6 hcm (he z _ hzv)
        refine ⟨cv, ?_, hcv⟩
        rcases hc with ⟨hc, rfl⟩ | ⟨hc, rfl⟩
        · simp only [cond_true] at hr hr2
          simp [execOp, ho, resolve, hc, hargs, invoke, builtin, Builtin.max_, hr, hr2]
        · simp only [cond_false] at hr hr2
          simp [execOp, ho, resolve, hc, hargs, invoke, builtin, Builtin.min_, hr, hr2]
      · cases h
    · cases h
  · exact asGround_sim he h
theorem len_sim (he : Env.rel ρ e ev) {o : Oper} {c : Call} (ho : o.op = .call c) {v : Value} {ob : Option Blk} (h : neCall P e o c c.callee = some (v, ob)) : NEok P ρ nx (execOp ev o) w v ob := by
  unfold neCall at h
  split at h
  · rename_i hc
    unfold neLen1 at h
    split at h
    · rename_i x t hx ht
      have hargs : c.args = #[x] := by apply Array.ext'; simpa using hx
      have htys : c.argTypes = #[t] := by apply Array.ext'; simpa using ht
      unfold neLen2 at h
      split at h
      · rename_i a n cc el hxv hu
        simp only [Option.some.injEq, Prod.mk.injEq] at h
        obtain ⟨rfl, rfl⟩ := h
        refine ⟨.int .i64 n, ?_, .refl rfl⟩
        have hr := he x _ hxv
        have : ∃ a' c', ev x = .slice a' n c' := by
          generalize ev x = cv at hr
          cases hr with
          | refl hg => exact ⟨_, _, rfl⟩
          | slice _ _ => exact ⟨_, _, rfl⟩
          | own _ _ _ => exact ⟨_, _, rfl⟩
          | emp _ => exact ⟨_, _, rfl⟩
        obtain ⟨a', c', hcv⟩ := this
        simp [execOp, ho, resolve, hc, hargs, htys, invoke, builtin, Builtin.len_, run_underlying hu, hcv, goInt]
      · rename_i n cc el hxv hu
        simp only [Option.some.injEq, Prod.mk.injEq] at h
        obtain ⟨rfl, rfl⟩ := h
        refine ⟨.int .i64 n, ?_, .refl rfl⟩
        have hcv := (he x _ hxv).groundEq rfl
        simp [execOp, ho, resolve, hc, hargs, htys, invoke, builtin, Builtin.len_, run_underlying hu, hcv, goInt]
      · rename_i s hxv hu
        simp only [Option.some.injEq, Prod.mk.injEq] at h
        obtain ⟨rfl, rfl⟩ := h
        refine ⟨.int .i64 s.size, ?_, .refl rfl⟩
        have hcv := (he x _ hxv).string_inv
        simp [execOp, ho, resolve, hc, hargs, htys, invoke, builtin, Builtin.len_, run_underlying hu, hcv, goInt]
      · rename_i i hxv hu
        obtain ⟨rfl, h6⟩ := asVal_some h
        obtain ⟨s, hcv, hat⟩ := Syms.len_ok _ _ h6 _ ((he x _ hxv).at rfl)
        refine ⟨.int .i64 s.size, ?_, VR.ofAt hat⟩
        simp [execOp, ho, resolve, hc, hargs, htys, invoke, builtin, Builtin.len_, run_underlying hu, hcv, goInt]
      · exact asGround_sim he h
    · cases h
  · rename_i hc
    unfold neCap1 at h
    split at h
    · rename_i x t hx ht
      have hargs : c.args = #[x] := by apply Array.ext'; simpa using hx
      have htys : c.argTypes = #[t] := by apply Array.ext'; simpa using ht
      unfold neCap at h
      split at h
      · rename_i a n cc el hxv hu
        obtain ⟨h1, h2⟩ := bif_none h
        simp only [Option.some.injEq, Prod.mk.injEq] at h2
        obtain ⟨rfl, rfl⟩ := h2
        refine ⟨.int .i64 cc, ?_, .refl rfl⟩
        have hr := he x _ hxv
        have : ∃ a', ev x = .slice a' n cc := by
          generalize ev x = cv at hr
          cases hr with
          | refl hg => exact ⟨_, rfl⟩
          | slice _ _ => exact ⟨_, rfl⟩
          | own _ _ _ => simp at h1
          | emp _ => simp at h1
        obtain ⟨a', hcv⟩ := this
        simp [execOp, ho, resolve, hc, hargs, htys, invoke, builtin, Builtin.cap_, run_underlying hu, hcv, goInt]
      · rename_i n cc el hxv hu
        simp only [Option.some.injEq, Prod.mk.injEq] at h
        obtain ⟨rfl, rfl⟩ := h
        refine ⟨.int .i64 cc, ?_, .refl rfl⟩
        have hcv := (he x _ hxv).groundEq rfl
        simp [execOp, ho, resolve, hc, hargs, htys, invoke, builtin, Builtin.cap_, run_underlying hu, hcv, goInt]
      · cases h
    · cases h
  · rename_i hc
    exact mm_sim he ho (mx := true) (.inl ⟨hc, rfl⟩) h
  · rename_i hc
    exact mm_sim he ho (mx := false) (.inr ⟨hc, rfl⟩) h
  · exact asGround_sim he h
end
end Go.Proofs.YtcjolamfjgdgjaaGreatDoor.Ev
