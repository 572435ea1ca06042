/-
  Operations that turn nothing that was there: what the run answers, the model answers.
-/
import Derived.Test.YtcjolamfjgdgjaaGreatDoorEvRel
import Derived.Lib.Strings
namespace Go.Proofs.YtcjolamfjgdgjaaGreatDoor.Ev
open Go.RowKit
variable [Syms]

omit [Syms] in
theorem pureSem_run {α : Type} (P : Program) : ∀ {m : Sem α} {a : α}, pureSem P m = some a → ∀ w, m.run P w = .ok a w
  | .pure b, a, h, w => by
    obtain rfl := Option.some.inj h
    rfl
  | .program k, a, h, w => pureSem_run P (m := k P) h w
  | .mark _ k, a, h, w => pureSem_run P (m := k) h w
  | .load .., _, h, _ => by cases h
  | .store .., _, h, _ => by cases h
  | .new .., _, h, _ => by cases h
  | .shape .., _, h, _ => by cases h
  | .freeze .., _, h, _ => by cases h
  | .frozen .., _, h, _ => by cases h
  | .getObj .., _, h, _ => by cases h
  | .setObj .., _, h, _ => by cases h
  | .choose .., _, h, _ => by cases h
  | .sys .., _, h, _ => by cases h
  | .halt .., _, h, _ => by cases h
/-- The operands in the world are those of the run. -/
def Env.rel (ρ : Ren) (e : Env) (ev : Operand → Value) : Prop := ∀ x v, e x = some v → VR ρ v (ev x)
def NEok (P : Program) (ρ : Ren) (nx : Nat) (m : Sem Next) (w : World) (v : Value) : Option Blk → Prop
  | none => ∃ cv, m.run P w = .ok (.value cv) w ∧ VR ρ v cv
  | some B => ∃ cs t cv, m.run P w = .ok (.value cv) (w.alloc (.cells cs t)) ∧ (B.ro = false ∧ B.ob = none) ∧ B.cells.length ≤ cs.size ∧ (∀ (i : Nat) (x : Value), B.cells[i]? = some x → ∃ c, cs[i]? = some c ∧ VR ρ x c) ∧ ∀ ρ', Le ρ ρ' → ρ' nx = some ⟨w.heap.size, 0, cs.size, B.es⟩ → VR ρ' v cv
omit [Syms] in
theorem run_val {P : Program} {s : Sem Value} {cv : Value} {w w' : World} (h : s.run P w = .ok cv w') : (do pure (Next.value (← s)) : Sem Next).run P w = .ok (.value cv) w' := by
  rw [Sem.run_bind, h]
  rfl
omit [Syms] in
theorem asVal_some {r : Option Value} {v : Value} {ob : Option Blk} (h : asVal r = some (v, ob)) : ob = none ∧ r = some v := by
  cases r with
  | none => cases h
  | some x => simp only [asVal, Option.some.injEq, Prod.mk.injEq] at h; exact ⟨h.2.symm, by rw [h.1]⟩
omit [Syms] in
theorem bif_none {α : Type} {b : Bool} {x : Option α} {y : α} (h : (bif b then none else x) = some y) : b = false ∧ x = some y := by
  cases b with
  | true => cases h
  | false => exact ⟨rfl, h⟩
omit [Syms] in
theorem bif_some {α : Type} {b : Bool} {x : Option α} {y : α} (h : (bif b then x else none) = some y) : b = true ∧ x = some y := by
  cases b with
  | true => exact ⟨rfl, h⟩
  | false => cases h
section
variable {P : Program} {ρ : Ren} {e : Env} {ev : Operand → Value} {nx : Nat} {w : World} {mem : Tr Blk}

theorem ground_sim (he : Env.rel ρ e ev) {o : Oper} {v : Value} (h : groundOp P e o = some v) : (execOp ev o).run P w = .ok (.value v) w ∧ ground v = true := by
  unfold groundOp at h
  obtain ⟨h1, h2⟩ := bif_some h
  rw [Bool.and_eq_true] at h1
  obtain ⟨hg, hs⟩ := h1
  have hcongr : execOp (fun x => (e x).getD undef) o = execOp ev o := by
    refine execOp_congr o (fun cs b hop => ?_) (fun x hx => ?_)
    · rw [hop] at hs; simp [isSel] at hs
    · have := List.all_eq_true.1 hg x (by simpa using hx)
      cases hx' : e x with
      | none => rw [hx'] at this; cases this
      | some y =>
        rw [hx'] at this
        exact ((he x y hx').groundEq this).symm
  rw [hcongr] at h2
  cases hp : pureSem P (execOp ev o) with
  | none => rw [hp] at h2; cases h2
  | some nxt =>
    rw [hp] at h2
    cases nxt with
    | value y =>
      obtain ⟨h3, h4⟩ := bif_some h2
      obtain rfl := Option.some.inj h4
      exact ⟨pureSem_run P hp w, h3⟩
    | _ => cases h2
theorem asGround_sim (he : Env.rel ρ e ev) {o : Oper} {v : Value} {ob : Option Blk} (h : asVal (groundOp P e o) = some (v, ob)) : NEok P ρ nx (execOp ev o) w v ob := by
  obtain ⟨rfl, h'⟩ := asVal_some h
  obtain ⟨h1, h2⟩ := ground_sim (w := w) he h'
  exact ⟨v, h1, .refl h2⟩
theorem VR.ptr_inv {l o : Nat} {c : Value} (h : VR ρ (.pointer (some ⟨l, o, none⟩)) c) : ∃ L, ρ l = some L ∧ c = .pointer (some ⟨L.b, L.d + o, none⟩) := by
  cases h with
  | refl hg => simp [ground, cellGround] at hg
  | ptr hl => exact ⟨_, hl, rfl⟩
theorem VR.slice_inv {l o n c : Nat} {cv : Value} (h : VR ρ (.slice (some ⟨l, o, none⟩) n c) cv) : ∃ L, ρ l = some L ∧
    ((c < ucap ∧ cv = .slice (some ⟨L.b, L.d + o, none⟩) n c) ∨ (c = ucap ∧ ∃ c', n ≤ c' ∧ o + c' * L.es ≤ L.m ∧ cv = .slice (some ⟨L.b, L.d + o, none⟩) n c') ∨ (c = ucap ∧ n = 0 ∧ ∃ a, cv = .slice (some a) 0 0)) := by
  cases h with
  | refl hg => simp [ground, cellGround] at hg
  | slice hl hc => exact ⟨_, hl, Or.inl ⟨hc, rfl⟩⟩
  | own hl hn hm => exact ⟨_, hl, Or.inr (Or.inl ⟨rfl, _, hn, hm, rfl⟩)⟩
  | emp hl => exact ⟨_, hl, Or.inr (Or.inr ⟨rfl, rfl, _, rfl⟩)⟩
theorem VR.int_inv {k : IntKind} {n : Int} {c : Value} (h : VR ρ (.int k n) c) : c = .int k n := h.groundEq rfl
theorem VR.bool_inv {b : Bool} {c : Value} (h : VR ρ (.bool b) c) : c = .bool b := h.groundEq rfl
theorem VR.string_inv {s : ByteArray} {c : Value} (h : VR ρ (.string s) c) : c = .string s := h.groundEq rfl
theorem VR.agg_inv {cs : Array Value} {c : Value} (h : VR ρ (.agg cs) c) : ∃ ds : Array Value, c = .agg ds ∧ VRs ρ cs.toList ds.toList := by
  cases h with
  | refl hg => exact ⟨cs, rfl, VRs.refl (show cs.toList.all cellGround = true from hg)⟩
  | agg hs => exact ⟨⟨_⟩, rfl, hs⟩
theorem VR.tuple_inv {cs : Array Value} {c : Value} (h : VR ρ (.tuple cs) c) : ∃ ds : Array Value, c = .tuple ds ∧ VRs ρ cs.toList ds.toList := by
  cases h with
  | refl hg => exact ⟨cs, rfl, VRs.refl (show cs.toList.all cellGround = true from hg)⟩
  | tuple hs => exact ⟨⟨_⟩, rfl, hs⟩
theorem VR.func_inv {f : FuncId} {a b : Array Value} {c : Value} (h : VR ρ (.func (.func f) a b) c) : ∃ a' b' : Array Value, c = .func (.func f) a' b' ∧ VRs ρ a.toList a'.toList ∧ VRs ρ b.toList b'.toList := by
  cases h with
  | refl hg =>
    simp [ground, cellGround] at hg
    obtain ⟨rfl, rfl⟩ := hg
    exact ⟨#[], #[], rfl, .nil, .nil⟩
  | func h1 h2 => exact ⟨⟨_⟩, ⟨_⟩, rfl, h1, h2⟩

theorem pick_sim (he : Env.rel ρ e ev) {o : Oper} {c a b : Operand} (ho : o.op = .pick c a b) {v : Value} {ob : Option Blk} (h : nePick e a b (e c) = some (v, ob)) : NEok P ρ nx (execOp ev o) w v ob := by
  cases hc : e c with
  | none => rw [hc] at h; cases h
  | some x =>
    rw [hc] at h
    cases x with
    | bool t =>
      have hcv := (he c _ hc).bool_inv
      cases t with
      | true =>
        obtain ⟨rfl, ha⟩ := asVal_some h
        exact ⟨ev a, by simp [execOp, ho, hcv, asBool], he a v ha⟩
      | false =>
        obtain ⟨rfl, ha⟩ := asVal_some h
        exact ⟨ev b, by simp [execOp, ho, hcv, asBool], he b v ha⟩
    | _ => cases h
theorem nil_sim (he : Env.rel ρ e ev) {o : Oper} {x : Operand} (ho : o.op = .nilCheck x) {v : Value} {ob : Option Blk} (h : neNil (e x) = some (v, ob)) : NEok P ρ nx (execOp ev o) w v ob := by
  cases hx : e x with
  | none => rw [hx] at h; cases h
  | some y =>
    rw [hx] at h
    have hr := he x y hx
    cases y with
    | pointer p =>
      cases p with
      | none => cases h
      | some a =>
        simp only [neNil, Option.some.injEq, Prod.mk.injEq] at h
        obtain ⟨rfl, rfl⟩ := h
        have : ∃ b, ev x = .pointer (some b) := by
          generalize ev x = cv at hr
          cases hr with
          | refl hg => simp [ground, cellGround] at hg
          | ptr hl => exact ⟨_, rfl⟩
        obtain ⟨b, hb⟩ := this
        exact ⟨ev x, by simp [execOp, ho, hb], hr⟩
    | func f a b =>
      cases f with
      | func f =>
        simp only [neNil, Option.some.injEq, Prod.mk.injEq] at h
        obtain ⟨rfl, rfl⟩ := h
        obtain ⟨a', b', hcv, _, _⟩ := hr.func_inv
        exact ⟨ev x, by simp [execOp, ho, hcv], hr⟩
      | _ => cases h
    | _ => cases h
theorem fieldAddr_sim (he : Env.rel ρ e ev) {o : Oper} {s : TypeId} {x : Operand} {f : Nat} (ho : o.op = .fieldAddr s x f) {v : Value} {ob : Option Blk} (h : neFieldAddr P f (e x) (P.underlying s) = some (v, ob)) : NEok P ρ nx (execOp ev o) w v ob := by
  unfold neFieldAddr at h
  split at h
  · rename_i l off fs hx hs
    unfold neField1 at h
    split at h
    · rename_i fd hf
      split at h
      · rename_i i hi
        cases hz : Nat.beq i.size 0 with
        | true => rw [hz] at h; cases h
        | false =>
          rw [hz] at h
          simp only [cond_false, Option.some.injEq, Prod.mk.injEq] at h
          obtain ⟨rfl, rfl⟩ := h
          obtain ⟨L, hL, hcv⟩ := (he x _ hx).ptr_inv
          have hz' : i.size ≠ 0 := fun e => by rw [e] at hz; cases hz
          refine ⟨.pointer (some ⟨L.b, L.d + (off + fd.offset), none⟩), ?_, .ptr hL⟩
          simp [execOp, ho, hcv, Instr.fieldAt, run_underlying hs, hf, Instr.sureAddr, fieldPlace, sizeOf, typeInfo, hi, hz', Addr.add_mid, Nat.add_assoc]
      · cases h
    · cases h
  · cases h
omit [Syms] in
theorem mul_lt_int {i n : Nat} (h : i < n) : (0 : Int) ≤ (i : Int) ∧ (i : Int) < (n : Int) := by omega
theorem indexAddr_sim (he : Env.rel ρ e ev) {o : Oper} {t : TypeId} {x ix : Operand} (ho : o.op = .indexAddr t x ix) {v : Value} {ob : Option Blk} (h : neIndexAddr P (e x) (e ix) (P.underlying t) = some (v, ob)) : NEok P ρ nx (execOp ev o) w v ob := by
  unfold neIndexAddr at h
  split at h
  · rename_i l off n c k i el hx hix hs
    unfold neIndex1 at h
    split at h
    · rename_i inf hi
      obtain ⟨h1, h2⟩ := bif_some h
      simp only [Option.some.injEq, Prod.mk.injEq] at h2
      obtain ⟨rfl, rfl⟩ := h2
      have hlt : i < n := Nat.le_of_ble_eq_true h1
      have hci := (he ix _ hix).int_inv
      obtain ⟨L, hL, hcs⟩ := (he x _ hx).slice_inv
      have hb := mul_lt_int hlt
      have : ∃ c', ev x = .slice (some ⟨L.b, L.d + off, none⟩) n c' := by
        rcases hcs with ⟨_, h⟩ | ⟨_, c', _, _, h⟩ | ⟨_, h0, _⟩
        · exact ⟨_, h⟩
        · exact ⟨_, h⟩
        · omega
      obtain ⟨c', hcv⟩ := this
      refine ⟨.pointer (some ⟨L.b, L.d + (off + i * inf.size), none⟩), ?_, .ptr hL⟩
      have hi0 : ev ix = .int k (i : Int) := hci
      simp [execOp, ho, hcv, hi0, Instr.indexAt, asIntOf, run_underlying hs, sizeOf, typeInfo, hi, hlt, Addr.add_mid, Nat.add_assoc]
    · cases h
  · rename_i l off k i n el hx hix hs
    unfold neIndex1 at h
    split at h
    · rename_i inf hi
      obtain ⟨h1, h2⟩ := bif_some h
      simp only [Option.some.injEq, Prod.mk.injEq] at h2
      obtain ⟨rfl, rfl⟩ := h2
      have hlt : i < n := Nat.le_of_ble_eq_true h1
      have hci : ev ix = .int k (i : Int) := (he ix _ hix).int_inv
      obtain ⟨L, hL, hcv⟩ := (he x _ hx).ptr_inv
      refine ⟨.pointer (some ⟨L.b, L.d + (off + i * inf.size), none⟩), ?_, .ptr hL⟩
      simp [execOp, ho, hcv, hci, Instr.indexAt, Instr.sureAddr, asIntOf, run_underlying hs, sizeOf, typeInfo, hi, hlt, Addr.add_mid, Nat.add_assoc]
    · cases h
  · cases h
omit [Syms] in
theorem bound_sim {k : IntKind} {i y : Nat} (code : BoundsCode) (h : i ≤ y) : (Instr.sliceBound (.int k (i : Int)) y code).run P w = .ok i w := by
  simp [Instr.sliceBound, asIntOf, h]
theorem intArg_sim (he : Env.rel ρ e ev) {x : Option Operand} {r : Option Nat} (h : intArg e x = some r) : (r = none ∧ x.map ev = none) ∨ ∃ k n, r = some n ∧ x.map ev = some (.int k (Int.ofNat n)) := by
  cases x with
  | none =>
    simp only [intArg, Option.some.injEq] at h
    exact Or.inl ⟨h.symm, rfl⟩
  | some x =>
    simp only [intArg] at h
    split at h
    · rename_i k n hx
      have hc := (he x _ hx).int_inv
      cases n with
      | ofNat m =>
        simp only [Option.some.injEq] at h
        exact Or.inr ⟨k, m, h.symm, by simp [hc]⟩
      | negSucc m => cases h
    · cases h
omit [Syms] in
theorem bounds_sim {n c : Nat} {lo hi : Option Nat} {lov hiv : Option Value} (hl : (lo = none ∧ lov = none) ∨ ∃ k n, lo = some n ∧ lov = some (.int k (Int.ofNat n))) (hh : (hi = none ∧ hiv = none) ∨ ∃ k n, hi = some n ∧ hiv = some (.int k (Int.ofNat n)))
    (h1 : lo.getD 0 ≤ hi.getD n) (h2 : hi.getD n ≤ c) : (Instr.sliceBounds true n c lov hiv none).run P w = .ok (lo.getD 0, hi.getD n, c) w := by
  rcases hl with ⟨rfl, rfl⟩ | ⟨k, a, rfl, rfl⟩ <;> rcases hh with ⟨rfl, rfl⟩ | ⟨k', b, rfl, rfl⟩
  · simp [Instr.sliceBounds]
  · have := bound_sim (P := P) (w := w) (k := k') .sliceAcap (show b ≤ c from h2)
    simp only [Int.ofNat_eq_natCast] at *
    simp [Instr.sliceBounds, this]
  · have := bound_sim (P := P) (w := w) (k := k) .sliceB (show a ≤ n from h1)
    simp only [Int.ofNat_eq_natCast] at *
    simp [Instr.sliceBounds, this]
  · have t1 := bound_sim (P := P) (w := w) (k := k') .sliceAcap (show b ≤ c from h2)
    have t2 := bound_sim (P := P) (w := w) (k := k) .sliceB (show a ≤ b from h1)
    simp only [Int.ofNat_eq_natCast] at *
    simp [Instr.sliceBounds, t1, t2]
omit [Syms] in
theorem sliceRun_sim {t el : TypeId} {inf : TypeInfo} (ht : P.underlying t = some (.slice el)) (hi : P.info? el = some inf) {n c a h : Nat} {ad : Addr} {lov hiv : Option Value} (hb : (Instr.sliceBounds true n c lov hiv none).run P w = .ok (a, h, c) w) :
    (Instr.sliceAt t (.slice (some ad) n c) lov hiv none).run P w = .ok (.slice (some (if c = a then ad else ad.add (a * inf.size))) (h - a) (c - a)) w := by
  simp only [Instr.sliceAt, Sem.run_bind, run_underlying ht, Result.andThen_ok, Instr.slice, hb]
  simp only [sizeOf, typeInfo, Sem.run_bind, run_program, Result.andThen_ok, hi, Sem.run_pure]
  split <;> rfl
omit [Syms] in
theorem bounds_str {n : Nat} {lo hi : Option Nat} {lov hiv : Option Value} (hl : (lo = none ∧ lov = none) ∨ ∃ k n, lo = some n ∧ lov = some (.int k (Int.ofNat n))) (hh : (hi = none ∧ hiv = none) ∨ ∃ k n, hi = some n ∧ hiv = some (.int k (Int.ofNat n)))
    (h1 : lo.getD 0 ≤ hi.getD n) (h2 : hi.getD n ≤ n) : (Instr.sliceBounds false n n lov hiv none).run P w = .ok (lo.getD 0, hi.getD n, n) w := by
  rcases hl with ⟨rfl, rfl⟩ | ⟨k, a, rfl, rfl⟩ <;> rcases hh with ⟨rfl, rfl⟩ | ⟨k', b, rfl, rfl⟩
  · simp [Instr.sliceBounds]
  · have := bound_sim (P := P) (w := w) (k := k') .sliceAlen (show b ≤ n from h2)
    simp only [Int.ofNat_eq_natCast] at *
    simp [Instr.sliceBounds, this]
  · have := bound_sim (P := P) (w := w) (k := k) .sliceB (show a ≤ n from h1)
    simp only [Int.ofNat_eq_natCast] at *
    simp [Instr.sliceBounds, this]
  · have t1 := bound_sim (P := P) (w := w) (k := k') .sliceAlen (show b ≤ n from h2)
    have t2 := bound_sim (P := P) (w := w) (k := k) .sliceB (show a ≤ b from h1)
    simp only [Int.ofNat_eq_natCast] at *
    simp [Instr.sliceBounds, t1, t2]
theorem str_sim (he : Env.rel ρ e ev) {o : Oper} {t : TypeId} {x : Operand} {lo hi : Option Operand} (ho : o.op = .slice t x lo hi none) {s : ByteArray} (hx : e x = some (.string s)) {v : Value} {ob : Option Blk}
    (h : neStr s (P.underlying t) (intArg e lo) (intArg e hi) = some (v, ob)) : NEok P ρ nx (execOp ev o) w v ob := by
  unfold neStr at h
  split at h
  · rename_i a hh ht ha hb
    unfold neStr1 at h
    obtain ⟨h1, h2⟩ := bif_some h
    rw [Bool.and_eq_true] at h1
    have hle1 := Nat.le_of_ble_eq_true h1.1
    have hle2 := Nat.le_of_ble_eq_true h1.2
    simp only [Option.some.injEq, Prod.mk.injEq] at h2
    obtain ⟨rfl, rfl⟩ := h2
    have hcv := (he x _ hx).string_inv
    have hbd := bounds_str (P := P) (w := w) (intArg_sim he ha) (intArg_sim he hb) hle1 hle2
    refine ⟨.string ⟨((s.data.toList.drop (a.getD 0)).take (hh.getD s.size - a.getD 0)).toArray⟩, ?_, .refl rfl⟩
    have hr : (Instr.sliceAt t (.string s) (lo.map ev) (hi.map ev) none).run P w = .ok (.string (s.extract (a.getD 0) (hh.getD s.size))) w := by
      simp only [Instr.sliceAt, Sem.run_bind, run_underlying ht, Result.andThen_ok, Instr.slice, hbd, Option.isSome_none, Bool.false_eq_true, if_false, Sem.run_pure]
    rw [Lib.extract_eq] at hr
    simp only [execOp, ho, hcv]
    exact run_val hr
  · cases h
theorem slice_sim (hm : MR ρ mem w) {σ : St} (hσ : σ.mem = mem) (he : Env.rel ρ e ev) {o : Oper} {t : TypeId} {x : Operand} {lo hi : Option Operand} (ho : o.op = .slice t x lo hi none) {v : Value} {ob : Option Blk}
    (h : neSlice P e σ o t lo hi (e x) = some (v, ob)) : NEok P ρ nx (execOp ev o) w v ob := by
  unfold neSlice at h
  split at h
  · rename_i l off n c hx
    unfold neSlice1 at h
    split at h
    · rename_i el a hh ht ha hb
      unfold neSlice2 at h
      split at h
      · rename_i inf B hi' hB
        obtain ⟨h1, h2⟩ := bif_some h
        rw [Bool.and_eq_true] at h1
        have hes := Nat.eq_of_beq_eq_true h1.1
        have hcu : c < ucap + 1 := by simpa [Nat.blt_eq, ucap] using h1.2
        obtain ⟨rfl, h3⟩ := asVal_some h2
        unfold sliceOf at h3
        obtain ⟨h4, h5⟩ := bif_some h3
        rw [Bool.and_eq_true] at h4
        have hle1 := Nat.le_of_ble_eq_true h4.1
        have hla := intArg_sim he ha
        have hlh := intArg_sim he hb
        obtain ⟨L, hL, hcs⟩ := (he x _ hx).slice_inv
        obtain ⟨B', hB', hBes, _⟩ := hm.blk l L hL
        rw [hσ, hB'] at hB
        obtain rfl := Option.some.inj hB
        rw [← hBes, ← hes] at hcs
        rcases hcs with ⟨hc, hcv⟩ | ⟨rfl, c', hn, hmm, hcv⟩ | ⟨rfl, rfl, ad, hcv⟩
        · have hne : Nat.beq c ucap = false := by
            cases hq : Nat.beq c ucap with
            | false => rfl
            | true => have := Nat.eq_of_beq_eq_true hq; omega
          rw [hne] at h4 h5
          have hle2 : hh.getD n ≤ c := Nat.le_of_ble_eq_true h4.2
          have hr := sliceRun_sim ht hi' (ad := ⟨L.b, L.d + off, none⟩) (bounds_sim (P := P) (w := w) hla hlh hle1 hle2)
          have hbq : Nat.beq c (a.getD 0) = decide (c = a.getD 0) := by
            cases hq : Nat.beq c (a.getD 0) with
            | true => simp [Nat.eq_of_beq_eq_true hq]
            | false => symm; rw [decide_eq_false_iff_not]; intro e; rw [e] at hq; simp at hq
          rw [hbq] at h5
          obtain rfl := Option.some.inj h5
          refine ⟨_, by simp only [execOp, ho, hcv]; exact run_val hr, ?_⟩
          by_cases hq : c = a.getD 0
          · simp only [hq, decide_true, cond_true, cond_false, if_true]
            rw [← hq]
            exact .slice hL (by omega)
          · simp only [hq, decide_false, cond_false, if_false, Addr.add_mid, Nat.add_assoc]
            exact .slice hL (by omega)
        · have hyes : Nat.beq ucap ucap = true := by simp
          rw [hyes] at h4 h5
          have hle2 : hh.getD n ≤ n := Nat.le_of_ble_eq_true h4.2
          have hr := sliceRun_sim ht hi' (ad := ⟨L.b, L.d + off, none⟩) (bounds_sim (P := P) (w := w) (c := c') hla hlh hle1 (Nat.le_trans hle2 hn))
          obtain rfl := Option.some.inj h5
          refine ⟨_, by simp only [execOp, ho, hcv]; exact run_val hr, ?_⟩
          by_cases hq : c' = a.getD 0
          · simp only [cond_true, hq, if_true]
            have e1 : hh.getD n - a.getD 0 = 0 := by omega
            rw [e1, Nat.sub_self]
            exact .emp hL
          · simp only [cond_true, hq, if_false, Addr.add_mid, Nat.add_assoc]
            refine .own hL (by omega) ?_
            have hk : a.getD 0 + (c' - a.getD 0) = c' := by omega
            have h7 := Nat.add_mul (a.getD 0) (c' - a.getD 0) inf.size
            rw [hk] at h7
            rw [← hBes, ← hes]
            generalize (c' - a.getD 0) * inf.size = q1 at h7 ⊢
            generalize a.getD 0 * inf.size = q2 at h7 ⊢
            omega
        · have hyes : Nat.beq ucap ucap = true := by simp
          rw [hyes] at h4 h5
          have hle2 : hh.getD 0 ≤ 0 := Nat.le_of_ble_eq_true h4.2
          have hr := sliceRun_sim ht hi' (ad := ad) (bounds_sim (P := P) (w := w) (c := 0) hla hlh hle1 hle2)
          obtain rfl := Option.some.inj h5
          refine ⟨_, by simp only [execOp, ho, hcv]; exact run_val hr, ?_⟩
          have e0 : a.getD 0 = 0 := by omega
          have e1 : hh.getD 0 = 0 := by omega
          rw [cond_true, e0, e1, if_pos rfl, Nat.sub_self]
          exact VR.emp hL
      · cases h
    · cases h
  · rename_i s hx; exact str_sim he ho hx h
  · rename_i hx
    unfold neSliceNil at h
    split at h
    · rename_i el a hh ht ha hb
      split at h
      · rename_i inf hi'
        obtain ⟨h1, h2⟩ := bif_some h
        rw [Bool.and_eq_true] at h1
        have e1 := Nat.eq_of_beq_eq_true h1.1
        have e2 := Nat.eq_of_beq_eq_true h1.2
        simp only [Option.some.injEq, Prod.mk.injEq] at h2
        obtain ⟨rfl, rfl⟩ := h2
        have hcv := (he x _ hx).groundEq rfl
        have hla := intArg_sim he ha
        have hlh := intArg_sim he hb
        refine ⟨.slice none 0 0, ?_, .refl rfl⟩
        have hbd := bounds_sim (P := P) (w := w) (n := 0) (c := 0) hla hlh (by rw [e1]; exact Nat.zero_le _) (by rw [e2]; exact Nat.le_refl _)
        have hr : (Instr.sliceAt t (.slice none 0 0) (lo.map ev) (hi.map ev) none).run P w = .ok (.slice none 0 0) w := by
          simp [Instr.sliceAt, Instr.slice, run_underlying ht, hbd, sizeOf, typeInfo, hi', e1, e2]
        simp only [execOp, ho, hcv]
        exact run_val hr
      · cases h
    · cases h
  · exact asGround_sim he h
theorem part_sim {t : TypeId} {cs ds : Array Value} (hs : VRs ρ cs.toList ds.toList) {off : Nat} {v : Value} (h : part P t cs.toList off = some v) : ∃ c, (Go.part t ds off).run P w = .ok c w ∧ VR ρ v c := by
  have agg : ∀ i, P.info? t = some i → (isAgg t).run P w = .ok true w → VR ρ (.agg ((cs.toList.drop off).take i.size).toArray) (.agg ((ds.toList.drop off).take i.size).toArray) ∧ (Go.part t ds off).run P w = .ok (.agg ((ds.toList.drop off).take i.size).toArray) w := by
    intro i hi ha
    refine ⟨.agg ((hs.drop off).take i.size), ?_⟩
    simp only [Go.part, Sem.run_bind, ha, Result.andThen_ok, if_true, sizeOf, typeInfo, run_program, hi, Sem.run_pure]
    congr 2
    apply Array.ext'
    rw [Array.toList_extract, List.extract_eq_take_drop]
    congr 1
    omega
  unfold part at h
  split at h
  · rename_i fs i hu hi
    obtain rfl := Option.some.inj h
    have := agg i hi (by simp [isAgg, run_underlying hu])
    exact ⟨_, this.2, this.1⟩
  · rename_i n el i hu hi
    obtain rfl := Option.some.inj h
    have := agg i hi (by simp [isAgg, run_underlying hu])
    exact ⟨_, this.2, this.1⟩
  · rename_i d i hns hna hu hi
    obtain ⟨c, hc, hr⟩ := hs.at off v h
    refine ⟨c, ?_, hr⟩
    have ha : (isAgg t).run P w = .ok false w := by
      simp only [isAgg, Sem.run_bind, run_underlying hu, Result.andThen_ok]
      cases d <;> first | rfl | exact absurd rfl (hns _) | exact absurd rfl (hna _ _)
    have hc' : ds[off]? = some c := by simpa using hc
    simp [Go.part, ha, hc']
  · cases h
theorem idx_sim (he : Env.rel ρ e ev) {o : Oper} {t : TypeId} {x ix : Operand} (ho : o.op = .index t x ix) {v : Value} {ob : Option Blk} (h : neIdx P e o (e x) (e ix) (P.underlying t) = some (v, ob)) : NEok P ρ nx (execOp ev o) w v ob := by
  unfold neIdx at h
  split at h
  · rename_i s k i hx hix ht
    unfold neIdx2 at h
    split at h
    · rename_i b hb
      simp only [Option.some.injEq, Prod.mk.injEq] at h
      obtain ⟨rfl, rfl⟩ := h
      have hcv := (he x _ hx).string_inv
      have hci : ev ix = .int k (i : Int) := (he ix _ hix).int_inv
      refine ⟨.int .u8 b.toNat, ?_, .refl rfl⟩
      have hlt : i < s.data.toList.length := (List.getElem?_eq_some_iff.1 hb).1
      have hsz : i < s.size := by simpa using hlt
      have hget : s[i]? = some b := by
        rw [getElem?_pos s i hsz]
        have := (List.getElem?_eq_some_iff.1 hb).2
        rw [← this]
        rfl
      have hr : (Instr.index t (.string s) (.int k (i : Int))).run P w = .ok (.int .u8 b.toNat) w := by
        simp [Instr.index, asIntOf, run_underlying ht, hget]
      simp only [execOp, ho, hcv, hci]
      exact run_val hr
    · cases h
  · rename_i cs k i n el hx hix ht
    unfold neIdxA at h
    split at h
    · rename_i inf hi
      cases hb : Nat.ble (Nat.succ i) n with
      | false => rw [hb] at h; cases h
      | true =>
        rw [hb] at h
        have hlt : i < n := Nat.le_of_ble_eq_true hb
        obtain ⟨rfl, h1⟩ := asVal_some h
        obtain ⟨ds, hcv, hds⟩ := (he x _ hx).agg_inv
        have hci : ev ix = .int k (i : Int) := (he ix _ hix).int_inv
        obtain ⟨c, hr, hvr⟩ := part_sim (P := P) (w := w) hds h1
        refine ⟨c, ?_, hvr⟩
        have hr' : (Go.part el ds (i * inf.size)).run P w = .ok c w := hr
        have hrun : (Instr.index t (.agg ds) (.int k (i : Int))).run P w = .ok c w := by
          simp [Instr.index, asIntOf, run_underlying ht, sizeOf, typeInfo, run_program, hi, hlt, hr']
        simp only [execOp, ho, hcv, hci]
        exact run_val hrun
    · cases h
  · exact asGround_sim he h
theorem field_sim (he : Env.rel ρ e ev) {o : Oper} {t : TypeId} {x : Operand} {f : Nat} (ho : o.op = .field t x f) {v : Value} {ob : Option Blk} (h : neFld P f (e x) (P.underlying t) = some (v, ob)) : NEok P ρ nx (execOp ev o) w v ob := by
  unfold neFld at h
  split at h
  · rename_i cs fs hx hs
    unfold neFld1 at h
    split at h
    · rename_i fd hf
      obtain ⟨rfl, h1⟩ := asVal_some h
      obtain ⟨ds, hcv, hds⟩ := (he x _ hx).agg_inv
      obtain ⟨c, hr, hvr⟩ := part_sim (P := P) (w := w) hds h1
      refine ⟨c, ?_, hvr⟩
      simp [execOp, ho, hcv, Instr.field, run_underlying hs, hf, asAgg, hr]
    · cases h
  · cases h
theorem extract_sim (he : Env.rel ρ e ev) {o : Oper} {x : Operand} {i : Nat} (ho : o.op = .extract x i) {v : Value} {ob : Option Blk} (h : neExtract i (e x) = some (v, ob)) : NEok P ρ nx (execOp ev o) w v ob := by
  unfold neExtract at h
  split at h
  · rename_i vs hx
    obtain ⟨rfl, h1⟩ := asVal_some h
    obtain ⟨ds, hcv, hds⟩ := (he x _ hx).tuple_inv
    obtain ⟨c, hc, hr⟩ := hds.at i v h1
    have hc' : ds[i]? = some c := by simpa using hc
    exact ⟨c, by simp [execOp, ho, hcv, Instr.extract, hc'], hr⟩
  · cases h

end
end Go.Proofs.YtcjolamfjgdgjaaGreatDoor.Ev
