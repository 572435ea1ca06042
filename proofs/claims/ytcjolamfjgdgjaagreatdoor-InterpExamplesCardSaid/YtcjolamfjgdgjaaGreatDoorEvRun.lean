/-
  Effects, lists of operations.
-/
import Derived.Test.YtcjolamfjgdgjaaGreatDoorEvApp
import Derived.RangeFuncRecord
import Derived.TacticsIn
import Derived.OrdersIn
import Derived.LoopNIn
namespace Go.Proofs.YtcjolamfjgdgjaaGreatDoor.Ev
open Go.RowKit
variable [Syms]

/-- The fence of the walks: all functions; a round of a loop, or none. -/
def Wd (r : Option Nat) : Fence := { Fence.wide with round := r }
omit [Syms] in
theorem callsIn_wd {r : Option Nat} {n : Nat} {P : Program} {f : FuncId} {args : Array Value} {w : World} {R : Ending → World → Prop} (h : Calls P f args w R) : CallsIn (Wd r) n P f args w R := callsIn_wide.2 h
/-- What the run answers of a call, every call answers. -/
def CallOK (P : Program) (gl : Nat) (w0 : World) (call : CallF) : Prop :=
  ∀ f args σ v σ', call f args σ = some (v, σ') → ∀ opn ρ w (cargs : Array Value), SR gl ⟨w0, opn⟩ ρ σ w → VRs ρ args cargs.toList → Calls P f cargs w fun e w' => ∃ ρ' cv, e = .returned cv ∧ Ext ρ σ ρ' σ' ∧ VR ρ' v cv ∧ SR gl ⟨w0, opn⟩ ρ' σ' w'
/-- What the run answers of a round, every round answers. -/
def RndOK (P : Program) (gl : Nat) (w0 : World) (rnd : CallF) : Prop :=
  ∀ l args σ v σ', rnd l args σ = some (v, σ') → ∀ opn ρ w (cargs : Array Value) (L : Loc), SR gl ⟨w0, opn⟩ ρ σ w → ρ l = some L → VRs ρ args cargs.toList →
    ∃ f tmps assign body, (Instr.yield L.b cargs).run P w = .ok (.round L.b f tmps assign body) w ∧ RoundIn Fence.wide 0 P L.b f tmps assign body w fun e w' => ∃ ρ' cv, e = .returned cv ∧ Ext ρ σ ρ' σ' ∧ VR ρ' v cv ∧ SR gl ⟨w0, opn⟩ ρ' σ' w'
structure RunOK (P : Program) (gl : Nat) (w0 : World) (R : Run) : Prop where
  call : CallOK P gl w0 R.call
  rnd : RndOK P gl w0 R.rnd
def NoCount (P : Program) : Prop := ∀ (f : Nat) (fn : Func), P.funcs[f]? = some fn → (fn.name == "runtime.NumGoroutine") = false
section
variable {P : Program} {gl : Nat} {w0 : Bs} {ρ : Ren} {e : Env} {σ σ' : St} {w : World} {call : Run} {r : Option Nat}

omit [Syms] in
theorem upon_of_value {o : Oper} {a : Act} {K : Act → World → Prop} {Q : Exit → Act → World → Prop} {cv : Value} {w' : World} (h : (execOp a.eval o).run P w = .ok (.value cv) w') (hK : K (a.put o.dst cv) w') : o.wpIn (Wd r) 0 P a w K Q := by
  refine ⟨fun _ _ => trivial, ?_⟩
  have hd : ∀ c, o.op ≠ .defer c := fun c ho => by
    simp only [execOp, ho, Sem.run_bind] at h
    cases hr : (resolve a.eval c o.type).run P w with
    | ok d w1 => rw [hr] at h; simp at h
    | halt x y => rw [hr] at h; simp [Result.andThen] at h
  rw [Oper.semAt_eq _ _ _ hd, h]
  exact hK
omit [Syms] in
theorem upon_of_skip {o : Oper} {a : Act} {K : Act → World → Prop} {Q : Exit → Act → World → Prop} {w' : World} (hd : ∀ c, o.op ≠ .defer c) (h : (execOp a.eval o).run P w = .ok .skip w') (hK : K (a.put o.dst undef) w') : o.wpIn (Wd r) 0 P a w K Q := by
  refine ⟨fun _ _ => trivial, ?_⟩
  rw [Oper.semAt_eq _ _ _ hd, h]
  exact hK
omit [Syms] in
theorem putObj_cell {b : Nat} {x : Obj} (h : noCells w.heap[b]?) (hx : noCells (some x)) (a : Addr) : (w.putObj b x).cell? a = w.cell? a := by
  by_cases e : a.block = b
  · have h1 : w.cell? a = none := by
      unfold World.cell?
      rw [e]
      cases hh : w.heap[b]? with
      | none => rfl
      | some o => rw [hh] at h; cases o <;> first | rfl | exact h.elim
    have h2 : (w.putObj b x).cell? a = none := by
      unfold World.cell?
      rw [e]
      have hlt : b < w.heap.size := by
        cases hh : w.heap[b]? with
        | none => rw [hh] at h; exact h.elim
        | some o => exact (Array.getElem?_eq_some_iff.1 hh).1
      rw [World.putObj_heap_same hlt]
      cases x <;> first | rfl | exact hx.elim
    rw [h1, h2]
  · exact World.cell?_of_block (w := w) (World.putObj_heap_other e)
omit [Syms] in
theorem putObj_frozen {b : Nat} {x : Obj} (h : noCells w.heap[b]?) (hx : noCells (some x)) (a : Addr) : (w.putObj b x).frozen? a = w.frozen? a := by
  by_cases e : a.block = b
  · have h1 : w.frozen? a = false := by
      unfold World.frozen?
      rw [e]
      cases hh : w.heap[b]? with
      | none => rfl
      | some o => rw [hh] at h; cases o <;> first | rfl | exact h.elim
    have h2 : (w.putObj b x).frozen? a = false := by
      unfold World.frozen?
      rw [e]
      have hlt : b < w.heap.size := by
        cases hh : w.heap[b]? with
        | none => rw [hh] at h; exact h.elim
        | some o => exact (Array.getElem?_eq_some_iff.1 hh).1
      rw [World.putObj_heap_same hlt]
      cases x <;> first | rfl | exact hx.elim
    rw [h1, h2]
  · exact World.frozen?_of_block (w := w) (World.putObj_heap_other e)
omit [Syms] in
theorem Below.putObj {B : Nat} {a : World} (h : Below B a w) {b : Nat} (hb : B ≤ b) (x : Obj) : Below B a (w.putObj b x) :=
  h.trans ⟨rfl, rfl, rfl, by simp, fun k hk => World.putObj_heap_other (by omega)⟩
/-- An object turns, in the run and in the world. -/
theorem SR.putOb (h : SR gl w0 ρ σ w) {l : Nat} {L : Loc} (hl : ρ l = some L) {B : Blk} (hB : σ.mem.get l = some B) {o : Ob} (ho : B.ob = some o) {x : Obj} (hx : noCells (some x)) {o' : Option Ob} (ho' : ∀ o, o' = some o → ObR ρ L.b (w.putObj L.b x) o) (hnd : ∀ c, w.heap[L.b]? ≠ some (.deferred c)) :
    SR gl w0 ρ (setOb σ l o') (w.putObj L.b x) := by
  obtain ⟨⟨b1, b2, b0⟩, b3, b4⟩ := h.mr.obj l L B o hl hB ho
  obtain ⟨B1, hB1, hes1, hlen1, hlt, _, _⟩ := h.mr.blk l L hl
  obtain rfl := Option.some.inj (hB.symm.trans hB1)
  have hown := h.own l L B hl hB (.inr (by rw [ho]; rfl))
  have hno := b3.noCells
  refine ⟨⟨fun y Y hy => ?_, fun y y' Y Y' hy hy' hb hn => ?_, fun y Y B' o1 hy hg hob => ?_⟩, h.dom, fun y Y B' hy hg hr' => ?_, h.glob, Below.putObj h.old hown _, fun D hD => ?_⟩
  · by_cases e : y = l
    · subst e
      obtain rfl := Option.some.inj (hl.symm.trans hy)
      exact ⟨_, Tr.get_put_same _ _ _, by rw [← hes1, b0], Nat.zero_le _, by simpa using hlt, (fun hr => by cases hr), (fun i v hi => by simp at hi)⟩
    · obtain ⟨B', c1, c2, c3, c4, c5, c6⟩ := h.mr.blk y Y hy
      refine ⟨B', (Tr.get_put_other _ _ e).trans c1, c2, c3, by simpa using c4, fun hr' j hj => ⟨?_, ?_⟩, fun i v hi => ?_⟩
      · rw [putObj_cell hno hx]; exact (c5 hr' j hj).1
      · rw [putObj_frozen hno hx]; exact (c5 hr' j hj).2
      · obtain ⟨c, k1, k2⟩ := c6 i v hi
        exact ⟨c, by rw [putObj_cell hno hx]; exact k1, k2⟩
  · have key : ∀ z, (∀ B, σ.mem.get z = some B → B.ro = true ∧ B.cells = []) → ∀ B'', (setOb σ l o').mem.get z = some B'' → B''.ro = true ∧ B''.cells = [] := fun z hd B'' hg => by
      by_cases e : z = l
      · subst e
        rw [setOb, Tr.get_put_same] at hg
        obtain rfl := Option.some.inj hg
        exact ⟨rfl, rfl⟩
      · rw [setOb, Tr.get_put_other _ _ e] at hg
        exact hd B'' hg
    have keyR : ∀ z, (∀ B, σ.mem.get z = some B → B.ro = true) → ∀ B'', (setOb σ l o').mem.get z = some B'' → B''.ro = true := fun z hd B'' hg => by
      by_cases e : z = l
      · subst e
        rw [setOb, Tr.get_put_same] at hg
        obtain rfl := Option.some.inj hg
        rfl
      · rw [setOb, Tr.get_put_other _ _ e] at hg
        exact hd B'' hg
    rcases h.mr.inj y y' Y Y' hy hy' hb hn with hd | hd | hd
    · exact .inl (key y hd)
    · exact .inr (.inl (key y' hd))
    · exact .inr (.inr ⟨keyR y hd.1, keyR y' hd.2⟩)
  · by_cases e : y = l
    · subst e
      obtain rfl := Option.some.inj (hl.symm.trans hy)
      rw [setOb, Tr.get_put_same] at hg
      obtain rfl := Option.some.inj hg
      exact ⟨⟨rfl, rfl, rfl⟩, ho' o1 hob, b4⟩
    · rw [setOb, Tr.get_put_other _ _ e] at hg
      obtain ⟨k1, k2, k3⟩ := h.mr.obj y Y B' o1 hy hg hob
      exact ⟨k1, k2.world (World.putObj_heap_other (fun e' => e (b4 y Y hy e'))), k3⟩
  · by_cases e : y = l
    · subst e
      obtain rfl := Option.some.inj (hl.symm.trans hy)
      exact hown
    · rw [setOb, Tr.get_put_other _ _ e] at hg
      exact h.own y Y B' hy hg hr'
  · obtain ⟨k1, k2⟩ := h.opn D hD
    refine ⟨k1, (World.putObj_heap_other fun e => ?_).trans k2⟩
    rw [e] at k2
    exact hnd _ k2
/-- The run forgets an object. -/
theorem SR.dropOb (h : SR gl w0 ρ σ w) {l : Nat} {L : Loc} (hl : ρ l = some L) {B : Blk} (hB : σ.mem.get l = some B) {o : Ob} (ho : B.ob = some o) : SR gl w0 ρ (setOb σ l none) w := by
  have hk := h.killed hl hB
  rw [(h.mr.obj l L B o hl hB ho).1.2.2] at hk
  exact hk
/-- A new object. -/
theorem SR.newOb (h : SR gl w0 ρ σ w) {x : Obj} {o : Ob} (ho : ObR (upd ρ σ.next ⟨w.heap.size, 0, 0, 0⟩) w.heap.size (w.alloc x) o) :
    SR gl w0 (upd ρ σ.next ⟨w.heap.size, 0, 0, 0⟩) (σ.new ⟨[], true, 0, some o⟩) (w.alloc x) := by
  have hnone : ρ σ.next = none := by
    cases hq : ρ σ.next with
    | none => rfl
    | some X => exact absurd (h.dom _ _ hq) (Nat.lt_irrefl _)
  have hle := Le.upd ⟨w.heap.size, 0, 0, 0⟩ hnone
  have hw : MR ρ σ.mem (w.alloc x) := h.mr.world (by simp) (fun b hb => Below.heap_alloc _ _ _ hb)
  have hold : ∀ y Y, ρ y = some Y → Y.b < w.heap.size := fun y Y hy => by
    obtain ⟨_, _, _, _, h4, _⟩ := h.mr.blk y Y hy
    exact h4
  have hget : ∀ y, y ≠ σ.next → (σ.new ⟨[], true, 0, some o⟩).mem.get y = σ.mem.get y := fun y hy => Tr.get_put_other _ _ hy
  have hnew : (σ.new ⟨[], true, 0, some o⟩).mem.get σ.next = some ⟨[], true, 0, some o⟩ := Tr.get_put_same _ _ _
  refine ⟨⟨fun y Y hy => ?_, fun y y' Y Y' hy hy' hb hn => ?_, fun y Y B' o1 hy hg hob => ?_⟩, fun y Y hy => ?_, fun y Y B' hy hg hr' => ?_, fun g hg => ?_, h.old.alloc h.old.size _, fun D hD => ?_⟩
  · by_cases e : y = σ.next
    · subst e
      rw [upd_same] at hy
      obtain rfl := Option.some.inj hy
      exact ⟨_, hnew, rfl, Nat.zero_le _, by simp, (fun hr => by cases hr), (fun i v hi => by simp at hi)⟩
    · rw [upd_other _ _ e] at hy
      obtain ⟨B', h1, h2, h3, h4, h5, h6⟩ := hw.blk y Y hy
      exact ⟨B', by rw [hget y e]; exact h1, h2, h3, h4, h5, fun i v hv => by obtain ⟨c, k1, k2⟩ := h6 i v hv; exact ⟨c, k1, k2.mono hle⟩⟩
  · by_cases e : y = σ.next
    · subst e
      exact .inl fun B'' hg => by
        obtain rfl := Option.some.inj (hnew.symm.trans hg)
        exact ⟨rfl, rfl⟩
    · rw [upd_other _ _ e] at hy
      by_cases e' : y' = σ.next
      · subst e'
        exact .inr (.inl fun B'' hg => by
          obtain rfl := Option.some.inj (hnew.symm.trans hg)
          exact ⟨rfl, rfl⟩)
      · rw [upd_other _ _ e'] at hy'
        rw [hget y e, hget y' e']
        exact h.mr.inj y y' Y Y' hy hy' hb hn
  · by_cases e : y = σ.next
    · subst e
      rw [upd_same] at hy
      obtain rfl := Option.some.inj hy
      obtain rfl := Option.some.inj (hnew.symm.trans hg)
      obtain rfl := Option.some.inj hob
      refine ⟨⟨rfl, rfl, rfl⟩, ho, fun z Z hz hb => ?_⟩
      by_cases e' : z = σ.next
      · exact e'
      · rw [upd_other _ _ e'] at hz
        have := hold z Z hz
        simp only at hb
        omega
    · rw [upd_other _ _ e] at hy
      rw [hget y e] at hg
      obtain ⟨k1, k2, k3⟩ := hw.obj y Y B' o1 hy hg hob
      refine ⟨k1, k2.mono hle, fun z Z hz hb => ?_⟩
      by_cases e' : z = σ.next
      · subst e'
        rw [upd_same] at hz
        obtain rfl := Option.some.inj hz
        have := hold y Y hy
        simp only at hb
        omega
      · rw [upd_other _ _ e'] at hz
        exact k3 z Z hz hb
  · by_cases e : y = σ.next
    · rw [e]; exact Nat.lt_succ_self _
    · rw [upd_other _ _ e] at hy
      exact Nat.lt_succ_of_lt (h.dom y Y hy)
  · by_cases e : y = σ.next
    · subst e
      rw [upd_same] at hy
      obtain rfl := Option.some.inj hy
      exact h.old.size
    · rw [upd_other _ _ e] at hy
      rw [hget y e] at hg
      exact h.own y Y B' hy hg hr'
  · obtain ⟨L', h1, h2, h3⟩ := h.glob g hg
    exact ⟨L', hle _ _ h1, h2, h3⟩
  · obtain ⟨k1, k2⟩ := h.opn D hD
    exact ⟨k1, (Below.heap_alloc _ _ _ ((Array.getElem?_eq_some_iff.1 k2).1)).trans k2⟩
/-- A mark is opened: a block for deferred calls, which the run does not know. -/
theorem SR.open {w1 : World} {opn : Nat → Prop} (h : SR gl ⟨w1, opn⟩ ρ σ w) : SR gl ⟨w1, fun D => D = w.heap.size ∨ opn D⟩ ρ σ (w.alloc (.deferred (some []))) := by
  refine ⟨h.mr.world (by simp) (fun b hb => Below.heap_alloc _ _ _ hb), h.dom, h.own, h.glob, h.old.alloc h.old.size _, fun D hD => ?_⟩
  rcases hD with rfl | hD
  · exact ⟨h.old.size, World.alloc_heap_new _ _⟩
  · obtain ⟨k1, k2⟩ := h.opn D hD
    exact ⟨k1, (Below.heap_alloc _ _ _ ((Array.getElem?_eq_some_iff.1 k2).1)).trans k2⟩
/-- And shut. -/
theorem SR.shut {w1 : World} {opn opn' : Nat → Prop} (h : SR gl ⟨w1, opn⟩ ρ σ w) {D : Nat} (hD : opn D) (ho : ∀ x, opn' x → opn x ∧ x ≠ D) : SR gl ⟨w1, opn'⟩ ρ σ (w.putObj D (.deferred none)) := by
  obtain ⟨k1, k2⟩ := h.opn D hD
  have hno : noCells w.heap[D]? := by rw [k2]; trivial
  have hx : noCells (some (Obj.deferred none)) := trivial
  refine ⟨⟨fun y Y hy => ?_, h.mr.inj, fun y Y B' o1 hy hg hob => ?_⟩, h.dom, h.own, h.glob, Below.putObj h.old k1 _, fun x hxo => ?_⟩
  · obtain ⟨B', c1, c2, c3, c4, c5, c6⟩ := h.mr.blk y Y hy
    refine ⟨B', c1, c2, c3, by simpa using c4, fun hr' j hj => ⟨?_, ?_⟩, fun i v hi => ?_⟩
    · rw [putObj_cell hno hx]; exact (c5 hr' j hj).1
    · rw [putObj_frozen hno hx]; exact (c5 hr' j hj).2
    · obtain ⟨c, q1, q2⟩ := c6 i v hi
      exact ⟨c, by rw [putObj_cell hno hx]; exact q1, q2⟩
  · obtain ⟨q1, q2, q3⟩ := h.mr.obj y Y B' o1 hy hg hob
    refine ⟨q1, q2.world (World.putObj_heap_other fun e => ?_), q3⟩
    rw [e] at q2
    cases o1 with
    | mp _ =>
      obtain ⟨_, _, z, _⟩ := q2
      rw [k2] at z; cases z
    | lp _ =>
      obtain ⟨_, z, _⟩ := q2
      rw [k2] at z; cases z
  · obtain ⟨q1, q2⟩ := ho x hxo
    obtain ⟨q3, q4⟩ := h.opn x q1
    exact ⟨q3, (World.putObj_heap_other q2).trans q4⟩
omit [Syms] in
theorem Ext.newOb (L : Loc) (B : Blk) : Ext ρ σ (upd ρ σ.next L) (σ.new B) := Ext.fresh L B
omit [Syms] in
theorem ob_of {B : Blk} {es : List (Value × Value)} (h : loEs (some B) = some es) : B.ob = some (.mp es) := by
  unfold loEs at h
  simp only at h
  split at h
  · rename_i es' he
    obtain rfl := Option.some.inj h
    exact he
  · cases h
omit [Syms] in
theorem keyEq_true {k x : Value} (h : keyEq k x = some true) : x = k := by
  unfold keyEq at h
  split at h
  · rename_i j a k b'
    cases hjk : decide (j = k) with
    | false => rw [hjk] at h; cases h
    | true =>
      rw [hjk] at h
      simp only [cond_true, Option.some.injEq, decide_eq_true_eq] at h
      rw [of_decide_eq_true hjk, h]
  · rename_i a b'
    simp only [Option.some.injEq] at h
    rw [lEq_eq, decide_eq_true_eq] at h
    obtain ⟨⟨a⟩⟩ := a
    obtain ⟨⟨b'⟩⟩ := b'
    simp only at h
    rw [h]
  · cases h
/-- Where a key is put. -/
theorem mapPut_at {d : TypeDesc} {k v cv : Value} (hk : keyKind d k = true) (hv : VR ρ v cv) : ∀ {es es' : List (Value × Value)} {l : List MapEntry} (i : Nat), MapR ρ es l → mapPut k v es = some es' →
    (Instr.findNow d k l i = some none ∧ ∀ c, MapR ρ es' (l ++ [{ key := k, val := cv, born := c }])) ∨ ∃ j u m, Instr.findNow d k l i = some (some (i + j, u)) ∧ l[j]? = some m ∧ m.key = k ∧ MapR ρ es' (l.set j { m with key := k, val := cv })
  | [], es', l, i, hr, h => by
    obtain ⟨h1, _, _⟩ := hr
    obtain rfl := Option.some.inj h
    cases l with
    | cons => cases h1
    | nil =>
      exact .inl ⟨rfl, fun c => ⟨.cons (.refl (cellGround_ground (keyKind_cell hk))) .nil, .cons hv .nil, by simp [keyKind_cell hk]⟩⟩
  | (x, u) :: es, es', l, i, hr, h => by
    obtain ⟨h1, h2, h3⟩ := hr
    cases l with
    | nil => cases h1
    | cons m l =>
      cases h1 with
      | cons h1 h1' =>
        cases h2 with
        | cons h2 h2' =>
          simp only [List.all_cons, Bool.and_eq_true] at h3
          have hx : m.key = x := h1.cellEq h3.1
          simp only [mapPut] at h
          split at h
          · rename_i hq
            obtain rfl := Option.some.inj h
            have hxk := keyEq_true hq
            refine .inr ⟨0, m.val, m, ?_, rfl, hx.trans hxk, .cons (.refl (cellGround_ground (keyKind_cell hk))) h1', .cons hv h2', ?_⟩
            · simp only [Instr.findNow, hx, keyEq_now hk hq, Nat.add_zero]
            · simp only [List.all_cons, Bool.and_eq_true]
              exact ⟨keyKind_cell hk, h3.2⟩
          · rename_i hq
            split at h
            · rename_i rs hrs
              obtain rfl := Option.some.inj h
              rcases mapPut_at hk hv (i + 1) ⟨h1', h2', h3.2⟩ hrs with ⟨p1, p2⟩ | ⟨j, u', m', p1, p2, p3, p4, p5, p6⟩
              · refine .inl ⟨?_, fun c => ?_⟩
                · simp only [Instr.findNow, hx, keyEq_now hk hq]; exact p1
                · obtain ⟨y1, y2, y3⟩ := p2 c
                  exact ⟨.cons h1 y1, .cons h2 y2, by simp only [List.all_cons, Bool.and_eq_true]; exact ⟨h3.1, y3⟩⟩
              · refine .inr ⟨j + 1, u', m', ?_, by simpa using p2, p3, .cons h1 p4, .cons h2 p5, by simp only [List.all_cons, Bool.and_eq_true]; exact ⟨h3.1, p6⟩⟩
                simp only [Instr.findNow, hx, keyEq_now hk hq]
                rw [p1, show i + 1 + j = i + (j + 1) by omega]
            · cases h
          · cases h
omit [Syms] in
theorem sameBits_key {d : TypeDesc} {k : Value} (hk : keyKind d k = true) : Instr.sameBits 10000 k k = true := by
  cases d <;> first | (cases hk; done) | skip
  all_goals cases k <;> first | (cases hk; done) | skip
  · simp [Instr.sameBits]
  · simp [Instr.sameBits, MapKept.bytes_beq]
theorem put_run {mt key el : TypeId} {d : TypeDesc} {k v cv : Value} {b : Nat} {arr : Array MapEntry} {clock : Nat} {es es' : List (Value × Value)} (ht : P.underlying mt = some (.map key el)) (hu : P.underlying key = some d) (hk : keyKind d k = true) (hb : w.heap[b]? = some (.map arr clock)) (hr : MapR ρ es arr.toList) (hv : VR ρ v cv) (hp : mapPut k v es = some es') :
    ∃ arr' clock', (Instr.mapUpdate mt (.map (some b)) k cv).run P w = .ok () (w.putObj b (.map arr' clock')) ∧ MapR ρ es' arr'.toList := by
  have hg : (getObj b).run P w = .ok (.map arr clock) w := by simp [getObj, Sem.run, hb]
  have hset : ∀ o, (setObj b o).run P w = .ok () (w.putObj b o) := fun o => by simp [setObj, Sem.run, hb, World.putObj]
  rcases mapPut_at hk hv 0 hr hp with ⟨p1, p2⟩ | ⟨j, u, m, p1, p2, p3, p4⟩
  · refine ⟨arr.push { key := k, val := cv, born := clock }, clock + 1, ?_, by simpa using p2 clock⟩
    simp only [Instr.mapUpdate, Sem.run_bind, run_underlying ht, Result.andThen_ok, hg, key_check hk hu, MapKept.run_findKey hu p1, hset]
  · rw [Nat.zero_add] at p1
    refine ⟨arr.modify j (fun e => { e with key := k, val := cv }), clock, ?_, ?_⟩
    · have hkt : (((arr[j]?).map (·.key)).getD k) = k := by
        rw [← Array.getElem?_toList, p2]
        exact p3
      have hstay : (Instr.keyThatStays k k).run P w = .ok k w := by simp [Instr.keyThatStays, sameBits_key hk]
      simp only [Instr.mapUpdate, Sem.run_bind, run_underlying ht, Result.andThen_ok, hg, key_check hk hu, MapKept.run_findKey hu p1, hkt, hstay, hset]
    · have e : (arr.modify j (fun e => { e with key := k, val := cv })).toList = arr.toList.set j { m with key := k, val := cv } := by
        apply List.ext_getElem?
        intro i
        rw [Array.getElem?_toList, Array.getElem?_modify, List.getElem?_set]
        by_cases e : j = i
        · subst e
          have hlt := (List.getElem?_eq_some_iff.1 p2).1
          rw [Array.getElem?_toList] at p2
          simp only [if_true, p2, Option.map_some]
          rw [if_pos hlt]
        · rw [if_neg e, if_neg e, Array.getElem?_toList]
      rw [e]
      exact p4
theorem eff_sim (hng : NoCount P) (hcall : RunOK P gl w0.w call) (hs : SR gl w0 ρ σ w) {a : Act} (he : Env.rel ρ e a.eval) {o : Oper} {v : Value} (h : evEff P call e σ o = some (v, σ')) {K : Act → World → Prop} {Q : Exit → Act → World → Prop}
    (hK : ∀ ρ' cv w', Ext ρ σ ρ' σ' → VR ρ' v cv → SR gl w0 ρ' σ' w' → K (a.put o.dst cv) w') : o.wpIn (Wd r) 0 P a w K Q := by
  unfold evEff at h
  split at h
  · rename_i t x y ho
    unfold efStore at h
    split at h
    · rename_i l off v' hx hy
      split at h
      · rename_i σ1 hst
        simp only [Option.some.injEq, Prod.mk.injEq] at h
        obtain ⟨rfl, rfl⟩ := h
        obtain ⟨L, hL, hcv⟩ := (he x _ hx).ptr_inv
        obtain ⟨w', h1, h2, h3⟩ := store_sim (P := P) hs hL (he y _ hy) hst
        have hrun : (execOp a.eval o).run P w = .ok .skip w' := by
          simp only [execOp, ho, hcv, Instr.storeAt, Instr.sureAddr, Sem.run_bind, Sem.run_pure, Result.andThen_ok, h1]
        exact upon_of_skip (fun c hc => by rw [ho] at hc; cases hc) hrun (hK ρ undef w' h2 (.refl rfl) h3)
      · cases h
    · cases h
  · rename_i c ho
    unfold efCall at h
    split at h
    · rename_i hc
      unfold efApp at h
      split at h
      · rename_i s x t u hargs htys
        have hargs : c.args = #[s, x] := by apply Array.ext'; simpa using hargs
        have htys : c.argTypes = #[t, u] := by apply Array.ext'; simpa using htys
        unfold efApp1 at h
        split at h
        · rename_i vs vx d hs' hx' hu
          have fin : ∀ (hk : (∃ e', P.underlying u = some (.slice e')) ∨ P.underlying u = some .string), appendV P σ vs vx (P.underlying t) = some (v, σ') → o.wpIn (Wd r) 0 P a w K Q := fun hk h => by
            obtain ⟨ρ', cv, w', h1, h2, h3, h4⟩ := append_sim (ty := o.type) hs hk (he s _ hs') (he x _ hx') h
            refine upon_of_value ?_ (hK ρ' cv w' h2 h3 h4)
            simp [execOp, ho, resolve, hc, hargs, htys, invoke, builtin, h1]
          unfold efApp2 at h
          split at h
          · exact fin (Or.inl ⟨_, hu⟩) h
          · exact fin (Or.inr hu) h
          · obtain ⟨ρ', cv, w', h1, h2, h3, h4⟩ := zeros_sim (ty := o.type) hs hu (he s _ hs') (he x _ hx') h
            refine upon_of_value ?_ (hK ρ' cv w' h2 h3 h4)
            simp [execOp, ho, resolve, hc, hargs, htys, invoke, builtin, h1]
          · cases h
        · cases h
      · cases h
    · rename_i f hc
      unfold efVal at h
      split at h
      · rename_i g first captured as hf has
        obtain ⟨first', captured', hfv, hf1, hf2⟩ := (he f _ hf).func_inv
        have hargs := mapM_sim he has
        have hall : VRs ρ (first.toList ++ as ++ captured.toList) (first' ++ c.args.map a.eval ++ captured').toList := by
          have e1 : (first' ++ c.args.map a.eval ++ captured').toList = first'.toList ++ c.args.toList.map a.eval ++ captured'.toList := by simp
          rw [e1]
          exact (hf1.append hargs).append hf2
        have hrun0 : (execOp a.eval o).run P w = (callFunc g (first' ++ c.args.map a.eval ++ captured')).run P w := by
          simp [execOp, ho, resolve, hc, hfv, Deferred.ofValue, invoke]
        unfold efFn at h
        split at h
        · rename_i fn hfn
          unfold efFn1 at h
          split at h
          · rename_i body hbody
            have hrun : (execOp a.eval o).run P w = .ok (.enter g (first' ++ c.args.map a.eval ++ captured')) w := by
              rw [hrun0]
              have hne : ¬ fn.name = "runtime.NumGoroutine" := by
                have := hng g fn hfn
                simpa using this
              simp [callFunc, hfn, hne, hbody]
            refine ⟨fun _ _ => trivial, ?_⟩
            rw [Oper.semAt_eq _ _ _ (fun c hc => by rw [ho] at hc; cases hc), hrun]
            refine ⟨(fun h => by cases h), callsIn_wd ?_⟩
            refine (hcall.call g _ σ v σ' h w0.opn ρ w _ hs hall).mono ?_
            rintro e w' ⟨ρ', cv, rfl, h1, h2, h3⟩
            exact hK ρ' cv w' h1 h2 h3
          · unfold efExt at h
            obtain ⟨g1, g2⟩ := bif_some h
            have hground : ∀ {l m : List Value}, VRs ρ l m → l.all ground = true → m = l := by
              intro l m hr
              induction l generalizing m with
              | nil => intro _; cases hr; rfl
              | cons x l ih =>
                intro hgr
                rw [List.all_cons, Bool.and_eq_true] at hgr
                cases hr with
                | cons h1 h2 => rw [h1.groundEq hgr.1, ih h2 hgr.2]
            have heq := hground hall g1
            unfold efExt1 at g2
            split at g2
            · rename_i y hy
              obtain ⟨k1, k2⟩ := bif_some g2
              simp only [Option.some.injEq, Prod.mk.injEq] at k2
              obtain ⟨rfl, rfl⟩ := k2
              refine upon_of_value (w' := w) ?_ (hK ρ y w (Ext.refl _ _) (.refl k1) hs)
              rw [hrun0, show first' ++ c.args.map a.eval ++ captured' = (first.toList ++ as ++ captured.toList).toArray from by rw [← heq]]
              exact pureSem_run P hy w
            · cases g2
        · cases h
      · rename_i l as hf has
        have hcv : ∃ L, ρ l = some L ∧ a.eval f = .func (.yield L.b) ⟨[]⟩ ⟨[]⟩ := by
          have hr := he f _ hf
          generalize a.eval f = cv at hr
          cases hr with
          | refl hg => simp [ground, cellGround] at hg
          | yld hL => exact ⟨_, hL, rfl⟩
        obtain ⟨L, hL, hcv⟩ := hcv
        have hargs := mapM_sim he has
        obtain ⟨fi, tmps, as', body, h1, h2⟩ := hcall.rnd l as σ v σ' h w0.opn ρ w (c.args.map a.eval) L hs hL (by simpa using hargs)
        have hrun : (execOp a.eval o).run P w = .ok (.round L.b fi tmps as' body) w := by
          simp only [execOp, ho, resolve, hc, hcv, Deferred.ofValue, invoke, Sem.run_bind, Sem.run_pure, Result.andThen_ok]
          simpa using h1
        refine ⟨fun _ _ => trivial, ?_⟩
        rw [Oper.semAt_eq _ _ _ (fun c hc => by rw [ho] at hc; cases hc), hrun]
        refine ⟨(fun h => by cases h), ?_⟩
        refine RoundIn.mono (R := fun e w' => ∃ ρ' cv, e = .returned cv ∧ Ext ρ σ ρ' σ' ∧ VR ρ' v cv ∧ SR gl ⟨w0.w, w0.opn⟩ ρ' σ' w') h2 ?_
        rintro e w' ⟨ρ', cv, rfl, k1, k2, k3⟩
        exact hK ρ' cv w' k1 k2 k3
      · cases h
    · cases h
  · rename_i t rsv ho
    unfold efMap at h
    split at h
    · simp only [Option.some.injEq, Prod.mk.injEq] at h
      obtain ⟨rfl, rfl⟩ := h
      refine upon_of_value (w' := w.alloc (.map #[] 0)) ?_ (hK (upd ρ σ.next ⟨w.heap.size, 0, 0, 0⟩) (.map (some w.heap.size)) _ (Ext.fresh _ _) (.map (L := ⟨w.heap.size, 0, 0, 0⟩) (upd_same _ _ _)) (hs.newOb (x := .map #[] 0) ⟨#[], 0, World.alloc_heap_new _ _, .nil, .nil, rfl⟩))
      simp [execOp, ho, Instr.makeMap]
    · cases h
  · rename_i t m k v' ho
    unfold efPut at h
    split at h
    · rename_i l kv vv key el hm hk hv ht
      unfold muKind at h
      split at h
      · rename_i d hu
        obtain ⟨h1, h2⟩ := bif_some h
        rw [Bool.and_eq_true] at h1
        obtain ⟨h1, h1g⟩ := h1
        cases hl : loEs (σ.mem.get l) with
        | none => rw [hl] at h2; cases h2
        | some es =>
          rw [hl] at h2
          simp only [muGo] at h2
          cases hp : mapPut kv vv es with
          | none => rw [hp] at h2; cases h2
          | some es' =>
            rw [hp] at h2
            simp only [muPut, Option.some.injEq, Prod.mk.injEq] at h2
            obtain ⟨rfl, rfl⟩ := h2
            have hr := he m _ hm
            have hmv : ∃ L, ρ l = some L ∧ a.eval m = .map (some L.b) := by
              generalize a.eval m = cv at hr
              cases hr with
              | refl hg => simp [ground, cellGround] at hg
              | map hL => exact ⟨_, hL, rfl⟩
            obtain ⟨L, hL, hmv⟩ := hmv
            have hkc : a.eval k = kv := (he k _ hk).cellEq h1g
            cases hB : σ.mem.get l with
            | none => rw [hB] at hl; cases hl
            | some B =>
              rw [hB] at hl
              have hob := ob_of hl
              obtain ⟨_, ⟨arr, clock, q1, q2⟩, _⟩ := hs.mr.obj l L B _ hL hB hob
              have hg : (getObj L.b).run P w = .ok (.map arr clock) w := by simp [getObj, Sem.run, q1]
              obtain ⟨arr', clock', r1, r2⟩ := put_run (P := P) (w := w) (mt := t) ht hu h1 q1 q2 (he v' _ hv) hp
              have hrun : (execOp a.eval o).run P w = .ok .skip (w.putObj L.b (.map arr' clock')) := by
                simp only [execOp, ho, hmv, hkc, Sem.run_bind, r1, Result.andThen_ok, Sem.run_pure]
              refine upon_of_skip (fun c hc => by rw [ho] at hc; cases hc) hrun (hK ρ undef _ (Ext.put hL _) (.refl rfl) ?_)
              exact hs.putOb (x := .map arr' clock') hL hB hob trivial (fun o ho => by cases ho; exact ⟨arr', clock', World.putObj_heap_same (Array.getElem?_eq_some_iff.1 q1).1, r2⟩) (fun c hc => by rw [q1] at hc; cases hc)
      · cases h
    · cases h
  · cases h

theorem TMR.put {n : Nat} {tm : Tr Value} {a : Act} (h : TMR n ρ tm a.tmps) {o : Oper} (hd : dstOk n o = true) {v cv : Value} (hv : VR ρ v cv) : TMR n ρ (putD tm o.dst v) (a.put o.dst cv).tmps := by
  unfold dstOk at hd
  cases ho : o.dst with
  | none => exact h
  | some d =>
    rw [ho] at hd
    have hlt : d < n := Nat.le_of_ble_eq_true hd
    refine ⟨by simp [Act.put, h.1], fun t x hx => ?_⟩
    simp only [putD] at hx
    rw [Tr.get_put] at hx
    simp only [Act.put]
    by_cases e : t = d
    · subst e
      rw [if_pos rfl] at hx
      obtain rfl := Option.some.inj hx
      exact ⟨cv, by rw [Array.getElem?_setIfInBounds_self_of_lt (by rw [h.1]; exact hlt)], hv⟩
    · rw [if_neg e] at hx
      obtain ⟨c, h1, h2⟩ := h.2 t x hx
      exact ⟨c, by rw [Array.getElem?_setIfInBounds_ne (Ne.symm e)]; exact h1, h2⟩
theorem glob_rel (hs : SR gl w0 ρ σ w) {g : Nat} {v : Value} (h : glob gl g = some v) : VR ρ v (.pointer (some ⟨g, 0, none⟩)) := by
  unfold glob at h
  obtain ⟨h1, h2⟩ := bif_some h
  obtain rfl := Option.some.inj h2
  obtain ⟨L, hL, hb, hd⟩ := hs.glob g h1
  have := VR.ptr (o := 0) hL
  rw [hb, hd] at this
  exact this
theorem env_rel (hs : SR gl w0 ρ σ w) {n : Nat} {tm : Tr Value} {a : Act} (h : TMR n ρ tm a.tmps) : Env.rel ρ (envOf gl tm) a.eval := by
  intro x v hx
  cases x with
  | tmp t =>
    obtain ⟨c, h1, h2⟩ := h.2 t v hx
    have : a.eval (.tmp t) = c := by simp [Act.eval, h1]
    rw [this]; exact h2
  | const u =>
    obtain ⟨h1, h2⟩ := bif_some hx
    obtain rfl := Option.some.inj h2
    exact .refl h1
  | global g => exact glob_rel hs hx
  | func f =>
    obtain rfl := Option.some.inj hx
    exact .refl rfl
theorem VR.bool_iff {v : Value} {b : Bool} (h : VR ρ v (.bool b)) : v = .bool b := by
  cases h with
  | refl _ => rfl
  | sym _ hc => cases hc
theorem wanted_sim {n : Nat} {ops : Array Oper} {tm : Tr Value} {a : Act} (h : TMR n ρ tm a.tmps) {o : Oper} {b : Bool} (hw : wantedA ops tm.get o = some b) : Region.wanted o (yielded ops a.tmps) = b := by
  unfold wantedA at hw
  unfold Region.wanted
  split at hw
  · rename_i hg
    obtain rfl := Option.some.inj hw
    rw [hg]
  · rename_i j want hg
    rw [hg]
    split at hw
    · rename_i g hj
      split at hw
      · rename_i d hd
        have hy : ∀ c, a.tmps[d]? = some c → yielded ops a.tmps j = match c with | .bool b => some b | _ => none := fun c hc => by
          simp only [yielded, hj, Option.bind_some, hd, hc]
          cases c <;> rfl
        split at hw
        · rename_i t ht
          obtain rfl := Option.some.inj hw
          obtain ⟨c, h1, h2⟩ := h.2 d _ ht
          obtain rfl := h2.bool_inv
          simp only [hy _ h1]
          cases t <;> cases want <;> rfl
        · rename_i v hnb ht
          obtain rfl := Option.some.inj hw
          obtain ⟨c, h1, h2⟩ := h.2 d _ ht
          simp only [hy _ h1]
          cases c <;> first | rfl | exact absurd (VR.bool_iff h2) (hnb _)
        · cases hw
      · cases hw
    · cases hw
/-- One operation, of whichever kind. -/
theorem op_sim (hng : NoCount P) (hcall : RunOK P gl w0.w call) (hs : SR gl w0 ρ σ w) {a : Act} (he : Env.rel ρ e a.eval) {o : Oper} {v : Value} (h : evOp P call e σ o = some (v, σ')) {K : Act → World → Prop} {Q : Exit → Act → World → Prop}
    (hK : ∀ ρ' cv w', Ext ρ σ ρ' σ' → VR ρ' v cv → SR gl w0 ρ' σ' w' → K (a.put o.dst cv) w') : o.wpIn (Wd r) 0 P a w K Q := by
  unfold evOp at h
  cases hk : isEff o with
  | true => rw [hk] at h; exact eff_sim hng hcall hs he h hK
  | false =>
    rw [hk] at h
    simp only [cond_false] at h
    unfold opNE at h
    split at h
    · rename_i x hx
      simp only [Option.some.injEq, Prod.mk.injEq] at h
      obtain ⟨rfl, rfl⟩ := h
      obtain ⟨cv, h1, h2⟩ := ne_sim hs.mr rfl rfl he hx
      exact upon_of_value h1 (hK ρ cv w (Ext.refl _ _) h2 hs)
    · rename_i x B hx
      simp only [Option.some.injEq, Prod.mk.injEq] at h
      obtain ⟨rfl, rfl⟩ := h
      obtain ⟨cs, t, cv, h1, h2, h3, h4, h5⟩ := ne_sim hs.mr rfl rfl he hx
      have hnone : ρ σ.next = none := by
        cases hq : ρ σ.next with
        | none => rfl
        | some X => exact absurd (hs.dom _ _ hq) (Nat.lt_irrefl _)
      exact upon_of_value h1 (hK _ cv _ (Ext.fresh _ _) (h5 _ (Le.upd _ hnone) (upd_same _ _ _)) (hs.fresh h2 cs t h3 h4))
    · cases h
theorem list_sim (hng : NoCount P) (hcall : RunOK P gl w0.w call) {n : Nat} {ops : Array Oper} {Q : Exit → Act → World → Prop} {tm' : Tr Value} : ∀ {l : List Oper} {ρ : Ren} {tm : Tr Value} {σ : St} {a : Act} {w : World}, evList P gl call ops l tm σ = some (tm', σ') → SR gl w0 ρ σ w → TMR n ρ tm a.tmps → l.all (dstOk n) = true →
    (∀ ρ' a' w', Ext ρ σ ρ' σ' → a'.defers = a.defers → TMR n ρ' tm' a'.tmps → SR gl w0 ρ' σ' w' → Q .normal a' w') → wpListIn (Wd r) 0 P ops Q l a w
  | [], ρ, tm, σ, a, w, h, hs, ht, _, hQ => by
    have h : some (tm, σ) = some (tm', σ') := h
    simp only [Option.some.injEq, Prod.mk.injEq] at h
    obtain ⟨rfl, rfl⟩ := h
    exact hQ ρ a w (Ext.refl _ _) rfl ht hs
  | o :: l, ρ, tm, σ, a, w, h, hs, ht, hd, hQ => by
    have h : liStep P gl call o (evList P gl call ops l) tm σ (wantedA ops tm.get o) = some (tm', σ') := h
    rw [List.all_cons, Bool.and_eq_true] at hd
    unfold liStep at h
    unfold wpListIn
    split at h
    · rename_i hw
      rw [if_pos (wanted_sim ht hw)]
      cases hop : evOp P call (envOf gl tm) σ o with
      | none => rw [hop] at h; cases h
      | some r =>
        obtain ⟨v, σ1⟩ := r
        rw [hop] at h
        refine op_sim hng hcall hs (env_rel hs ht) hop (fun ρ' cv w' h1 h2 h3 => ?_)
        exact list_sim hng hcall h h3 ((ht.mono (h1.le hs)).put hd.1 h2) hd.2 (fun ρ'' a'' w'' k1 k2 k3 k4 => hQ ρ'' a'' w'' (h1.trans k1) (by rw [k2]; cases o.dst <;> rfl) k3 k4)
    · rename_i hw
      rw [if_neg (by rw [wanted_sim ht hw]; simp)]
      refine ⟨fun _ _ => trivial, ?_⟩
      exact list_sim hng hcall h hs (ht.put hd.1 (.refl rfl)) hd.2 (fun ρ'' a'' w'' k1 k2 k3 k4 => hQ ρ'' a'' w'' k1 (by rw [k2]; cases o.dst <;> rfl) k3 k4)
    · cases h
end
end Go.Proofs.YtcjolamfjgdgjaaGreatDoor.Ev
