/-
  Operations that turn memory: store, append, call.
-/
import Derived.Test.YtcjolamfjgdgjaaGreatDoorEvOps3
namespace Go.Proofs.YtcjolamfjgdgjaaGreatDoor.Ev
open Go.RowKit
variable [Syms]

omit [Syms] in
theorem Below.setCells {B : Nat} {a : World} {b : Nat} (hb : B ≤ b) : ∀ (vs : List Value) (o : Nat) {w : World}, Below B a w → Below B a (w.setCells b o vs)
  | [], _, _, h => h
  | v :: vs, o, w, h => by
    rw [World.setCells]
    exact Below.setCells hb vs (o + 1) (h.setCell (p := ⟨b, o, none⟩) hb v)
omit [Syms] in
theorem setCells_heap (b : Nat) : ∀ (vs : List Value) (o : Nat) (w : World), (w.setCells b o vs).heap.size = w.heap.size
  | [], _, _ => rfl
  | v :: vs, o, w => by
    rw [World.setCells, setCells_heap b vs]
    simp [World.setCell]
section
variable {P : Program} {gl : Nat} {w0 : Bs} {ρ : Ren} {e : Env} {σ σ' : St} {w : World}

omit [Syms] in
theorem setCells_isSome {b o : Nat} {vs : List Value} (hc : ∀ j, j < vs.length → (w.cell? ⟨b, o + j, none⟩).isSome = true) {a : Addr} (ha : a.spot = none) (h : (w.cell? a).isSome = true) : ((w.setCells b o vs).cell? a).isSome = true := by
  by_cases hin : a.block = b ∧ o ≤ a.off ∧ a.off < o + vs.length
  · obtain ⟨h1, h2, h3⟩ := hin
    have := World.cell?_setCells_in b vs o w hc (a.off - o) (by omega)
    have ea : (⟨b, o + (a.off - o), none⟩ : Addr) = a := by
      obtain ⟨x, y, z⟩ := a
      simp only at h1 h2 h3 ha
      subst h1 ha
      congr 1
      simp only
      omega
    rw [ea] at this
    rw [this]; rfl
  · rw [World.cell?_setCells_out b vs o w a (fun h1 _ => by
      by_cases h2 : o ≤ a.off
      · by_cases h3 : a.off < o + vs.length
        · exact absurd ⟨h1, h2, h3⟩ hin
        · omega
      · omega)]
    exact h
theorem SR.opn_setCells (h : SR gl w0 ρ σ w) (b : Nat) (us : List Value) (o : Nat) : ∀ D, w0.opn D → w0.w.heap.size ≤ D ∧ (w.setCells b o us).heap[D]? = some (.deferred (some [])) := fun D hD => by
  obtain ⟨k1, k2⟩ := h.opn D hD
  exact ⟨k1, (setCells_noCells _ _ _ _ _ (by rw [k2]; trivial)).trans k2⟩
/-- A store into a block that the run may write. -/
theorem SR.stored (h : SR gl w0 ρ σ w) {l : Nat} {L : Loc} (hl : ρ l = some L) {B : Blk} (hB : σ.mem.get l = some B) (hro : B.ro = false) {o : Nat} {vs us : List Value} (hv : VRs ρ vs us) (hr : o + vs.length ≤ B.cells.length) :
    SR gl w0 ρ ⟨σ.mem.put l (some ⟨Go.Proofs.YtcjolamfjgdgjaaGreatDoor.Ev.setCells B.cells o vs, false, B.es, none⟩), σ.next⟩ (w.setCells L.b (L.d + o) us) := by
  have hopn := h.opn_setCells L.b us (L.d + o)
  obtain ⟨B', hB', hes, hlen, hlt, hth, hcs⟩ := h.mr.blk l L hl
  obtain rfl : B = B' := Option.some.inj (hB.symm.trans hB')
  have hth := hth hro
  have hus := hv.length
  have hsome : ∀ j, j < us.length → (w.cell? ⟨L.b, L.d + o + j, none⟩).isSome = true := fun j hj => by rw [Nat.add_assoc]; exact (hth (o + j) (by omega)).1
  have hown := h.own l L B hl hB (.inl hro)
  refine ⟨⟨fun x X hx => ?_, fun x x' X X' hx hx' hb hn => ?_, fun x X B' o' hx hg ho => ?_⟩, h.dom, fun x X B' hx hg hr' => ?_, h.glob, Below.setCells hown us _ h.old, hopn⟩
  rotate_left 2
  · by_cases e : x = l
    · subst e
      simp only at hg
      rw [Tr.get_put_same] at hg
      obtain rfl := Option.some.inj hg
      cases ho
    · simp only at hg
      rw [Tr.get_put_other _ _ e] at hg
      obtain ⟨k1, k2, k3⟩ := h.mr.obj x X B' o' hx hg ho
      exact ⟨k1, k2.world (setCells_noCells _ _ _ _ _ k2.noCells), k3⟩
  rotate_right 2
  · by_cases e : x = l
    · subst e
      obtain rfl := Option.some.inj (hl.symm.trans hx)
      refine ⟨_, Tr.get_put_same _ _ _, hes, by rw [setCells_length]; exact hlen, by rw [setCells_heap]; exact hlt, fun _ j hj => ⟨?_, ?_⟩, fun i v hi => ?_⟩
      · exact setCells_isSome hsome rfl (hth j hj).1
      · rw [World.frozen?_setCells]; exact (hth j hj).2
      · simp only at hi
        rw [setCells_get] at hi
        split at hi
        · rename_i hc
          obtain ⟨y, hy, hyr⟩ := hv.at _ _ hi
          have hin := World.cell?_setCells_in L.b us (L.d + o) w hsome (i - o) (by rw [← hus]; omega)
          refine ⟨y, ?_, hyr⟩
          rw [show L.d + i = L.d + o + (i - o) by omega, hin]
          exact (List.getElem?_eq_getElem (by rw [← hus]; omega)).symm.trans hy
        · rename_i hc
          obtain ⟨y, hy, hyr⟩ := hcs i v hi
          refine ⟨y, ?_, hyr⟩
          rw [World.cell?_setCells_out L.b us (L.d + o) w _ (fun _ _ => ?_)]
          · exact hy
          · have hil : i < B.cells.length := (List.getElem?_eq_some_iff.1 hi).1
            simp only
            rw [← hus]
            omega
    · obtain ⟨B', h1, h2, h3, h4, h5, h6⟩ := h.mr.blk x X hx
      refine ⟨B', by rw [Tr.get_put_other _ _ e]; exact h1, h2, h3, by rw [setCells_heap]; exact h4, fun hr' j hj => ⟨?_, ?_⟩, fun i v hi => ?_⟩
      · exact setCells_isSome hsome rfl (h5 hr' j hj).1
      · rw [World.frozen?_setCells]; exact (h5 hr' j hj).2
      · obtain ⟨y, hy, hyr⟩ := h6 i v hi
        refine ⟨y, ?_, hyr⟩
        by_cases hbb : X.b = L.b
        · rcases h.mr.inj x l X L hx hl hbb e with hd | hd | hd
          · rw [(hd B' h1).2] at hi; simp at hi
          · rw [(hd B hB).1] at hro; cases hro
          · rw [hd.2 B hB] at hro; cases hro
        · rw [World.cell?_setCells_out L.b us (L.d + o) w _ (fun hq _ => absurd hq hbb)]
          exact hy
  · have key : ∀ y Y, ρ y = some Y → (∀ B, σ.mem.get y = some B → B.ro = true ∧ B.cells = []) → ∀ B'', (σ.mem.put l (some ⟨Go.Proofs.YtcjolamfjgdgjaaGreatDoor.Ev.setCells B.cells o vs, false, B.es, none⟩)).get y = some B'' → B''.ro = true ∧ B''.cells = [] := fun y Y _ hd B'' hg => by
      by_cases e : y = l
      · subst e
        rw [(hd B hB).1] at hro
        cases hro
      · rw [Tr.get_put_other _ _ e] at hg
        exact hd B'' hg
    have keyR : ∀ y, (∀ B, σ.mem.get y = some B → B.ro = true) → ∀ B'', (σ.mem.put l (some ⟨Go.Proofs.YtcjolamfjgdgjaaGreatDoor.Ev.setCells B.cells o vs, false, B.es, none⟩)).get y = some B'' → B''.ro = true := fun y hd B'' hg => by
      by_cases e : y = l
      · subst e
        rw [hd B hB] at hro
        cases hro
      · rw [Tr.get_put_other _ _ e] at hg
        exact hd B'' hg
    rcases h.mr.inj x x' X X' hx hx' hb hn with hd | hd | hd
    · exact Or.inl (key x X hx hd)
    · exact Or.inr (Or.inl (key x' X' hx' hd))
    · exact Or.inr (Or.inr ⟨keyR x hd.1, keyR x' hd.2⟩)
  · by_cases e : x = l
    · subst e
      obtain rfl := Option.some.inj (hl.symm.trans hx)
      exact hown
    · simp only at hg
      rw [Tr.get_put_other _ _ e] at hg
      exact h.own x X B' hx hg hr'
omit [Syms] in
theorem Ext.put {l : Nat} {L : Loc} (hl : ρ l = some L) (x : Option Blk) : Ext ρ σ ρ ⟨σ.mem.put l x, σ.next⟩ :=
  ⟨fun _ _ => rfl, Nat.le_refl _, fun y _ hy => Tr.get_put_other _ _ (fun e => by rw [e, hl] at hy; cases hy)⟩
/-- A block that the run lets go. -/
theorem SR.killed (h : SR gl w0 ρ σ w) {l : Nat} {L : Loc} (hl : ρ l = some L) {B : Blk} (hB : σ.mem.get l = some B) : SR gl w0 ρ ⟨σ.mem.put l (some ⟨[], true, B.es, none⟩), σ.next⟩ w := by
  obtain ⟨B', hB', hes, hlen, hlt, hth, hcs⟩ := h.mr.blk l L hl
  obtain rfl : B = B' := Option.some.inj (hB.symm.trans hB')
  refine ⟨⟨fun x X hx => ?_, fun x x' X X' hx hx' hb hn => ?_, fun x X B' o' hx hg ho => ?_⟩, h.dom, fun x X B' hx hg hr' => ?_, h.glob, h.old, h.opn⟩
  rotate_left 2
  · by_cases e : x = l
    · subst e
      simp only at hg
      rw [Tr.get_put_same] at hg
      obtain rfl := Option.some.inj hg
      cases ho
    · simp only at hg
      rw [Tr.get_put_other _ _ e] at hg
      exact h.mr.obj x X B' o' hx hg ho
  rotate_right 2
  · by_cases e : x = l
    · subst e
      obtain rfl := Option.some.inj (hl.symm.trans hx)
      exact ⟨_, Tr.get_put_same _ _ _, hes, Nat.zero_le _, hlt, (fun hr => by cases hr), (fun i v hi => by simp at hi)⟩
    · obtain ⟨B', h1, hrest⟩ := h.mr.blk x X hx
      exact ⟨B', by rw [Tr.get_put_other _ _ e]; exact h1, hrest⟩
  · have key : ∀ y, (∀ B, σ.mem.get y = some B → B.ro = true ∧ B.cells = []) → ∀ B'', (σ.mem.put l (some ⟨[], true, B.es, none⟩)).get y = some B'' → B''.ro = true ∧ B''.cells = [] := fun y hd B'' hg => by
      by_cases e : y = l
      · subst e
        rw [Tr.get_put_same] at hg
        obtain rfl := Option.some.inj hg
        exact ⟨rfl, rfl⟩
      · rw [Tr.get_put_other _ _ e] at hg
        exact hd B'' hg
    have keyR : ∀ y, (∀ B, σ.mem.get y = some B → B.ro = true) → ∀ B'', (σ.mem.put l (some ⟨[], true, B.es, none⟩)).get y = some B'' → B''.ro = true := fun y hd B'' hg => by
      by_cases e : y = l
      · subst e
        rw [Tr.get_put_same] at hg
        obtain rfl := Option.some.inj hg
        rfl
      · rw [Tr.get_put_other _ _ e] at hg
        exact hd B'' hg
    rcases h.mr.inj x x' X X' hx hx' hb hn with hd | hd | hd
    · exact Or.inl (key x hd)
    · exact Or.inr (Or.inl (key x' hd))
    · exact Or.inr (Or.inr ⟨keyR x hd.1, keyR x' hd.2⟩)
  · by_cases e : x = l
    · subst e
      simp only at hg
      rw [Tr.get_put_same] at hg
      obtain rfl := Option.some.inj hg
      rcases hr' with hr' | hr' <;> cases hr'
    · simp only at hg
      rw [Tr.get_put_other _ _ e] at hg
      exact h.own x X B' hx hg hr'
/-- A block that goes on under another name, its room with it. -/
theorem SR.renamed (h : SR gl w0 ρ σ w) {l : Nat} {L : Loc} (hl : ρ l = some L) {B : Blk} (hB : σ.mem.get l = some B) (hro : B.ro = false) {N : Blk} (hN : N.ro = false ∧ N.ob = none) {d m : Nat} (hm : d + m ≤ L.m) (_hes : N.es = L.es) (hlen : N.cells.length ≤ m)
    (hcs : ∀ (i : Nat) (v : Value), N.cells[i]? = some v → ∃ c, w.cell? ⟨L.b, L.d + d + i, none⟩ = some c ∧ VR ρ v c) :
    SR gl w0 (upd ρ σ.next ⟨L.b, L.d + d, m, N.es⟩) (St.new ⟨σ.mem.put l (some ⟨[], true, B.es, none⟩), σ.next⟩ N) w := by
  have hk := h.killed hl hB
  obtain ⟨B', hB', _, _, hlt, hth, _⟩ := h.mr.blk l L hl
  obtain rfl : B = B' := Option.some.inj (hB.symm.trans hB')
  have hth := hth hro
  have hown := h.own l L B hl hB (.inl hro)
  have hnone : ρ σ.next = none := by
    cases hq : ρ σ.next with
    | none => rfl
    | some X => exact absurd (h.dom _ _ hq) (Nat.lt_irrefl _)
  have hle := Le.upd ⟨L.b, L.d + d, m, N.es⟩ hnone
  have hne : ∀ x X, ρ x = some X → x ≠ σ.next := fun x X hx e => by rw [e, hnone] at hx; cases hx
  have hget : ∀ x, x ≠ σ.next → (St.new ⟨σ.mem.put l (some ⟨[], true, B.es, none⟩), σ.next⟩ N).mem.get x = (σ.mem.put l (some ⟨[], true, B.es, none⟩)).get x := fun x hx => Tr.get_put_other _ _ hx
  have hnew : (St.new ⟨σ.mem.put l (some ⟨[], true, B.es, none⟩), σ.next⟩ N).mem.get σ.next = some N := Tr.get_put_same _ _ _
  have hdead : ∀ x X, ρ x = some X → X.b = L.b → ∀ B'', (σ.mem.put l (some ⟨[], true, B.es, none⟩)).get x = some B'' → B''.ro = true ∧ B''.cells = [] := fun x X hx hb B'' hg => by
    by_cases e : x = l
    · subst e
      rw [Tr.get_put_same] at hg
      obtain rfl := Option.some.inj hg
      exact ⟨rfl, rfl⟩
    · rw [Tr.get_put_other _ _ e] at hg
      rcases h.mr.inj x l X L hx hl hb e with hd | hd | hd
      · exact hd B'' hg
      · rw [(hd B hB).1] at hro; cases hro
      · rw [hd.2 B hB] at hro; cases hro
  refine ⟨⟨fun x X hx => ?_, fun x x' X X' hx hx' hb hn => ?_, fun x X B' o' hx hg ho => ?_⟩, fun x X hx => ?_, fun x X B' hx hg hr' => ?_, fun g hg => ?_, h.old, h.opn⟩
  rotate_left 2
  · by_cases e : x = σ.next
    · subst e
      obtain rfl := Option.some.inj (hnew.symm.trans hg)
      rw [hN.2] at ho; cases ho
    · rw [upd_other _ _ e] at hx
      rw [hget x e] at hg
      obtain ⟨k1, k2, k3⟩ := hk.mr.obj x X B' o' hx hg ho
      refine ⟨k1, k2.mono hle, fun y Y hy hb => ?_⟩
      by_cases e' : y = σ.next
      · subst e'
        rw [upd_same] at hy
        obtain rfl := Option.some.inj hy
        have hxl : x = l := by
          have := k3 l L hl hb
          exact this.symm
        subst hxl
        rw [Tr.get_put_same] at hg
        obtain rfl := Option.some.inj hg
        cases ho
      · rw [upd_other _ _ e'] at hy
        exact k3 y Y hy hb
  rotate_right 2
  · by_cases e : x = σ.next
    · subst e
      rw [upd_same] at hx
      obtain rfl := Option.some.inj hx
      refine ⟨N, hnew, rfl, hlen, hlt, fun _ j hj => ?_, fun i v hi => ?_⟩
      · simp only at hj ⊢
        rw [Nat.add_assoc]
        exact hth (d + j) (by omega)
      · obtain ⟨c, h1, h2⟩ := hcs i v hi
        exact ⟨c, h1, h2.mono hle⟩
    · rw [upd_other _ _ e] at hx
      obtain ⟨B', h1, h2, h3, h4, h5, h6⟩ := hk.mr.blk x X hx
      exact ⟨B', by rw [hget x e]; exact h1, h2, h3, h4, h5, fun i v hv => by obtain ⟨c, k1, k2⟩ := h6 i v hv; exact ⟨c, k1, k2.mono hle⟩⟩
  · by_cases e : x = σ.next
    · subst e
      rw [upd_same] at hx
      obtain rfl := Option.some.inj hx
      rw [upd_other _ _ (Ne.symm hn)] at hx'
      exact Or.inr (Or.inl fun B'' hg => hdead x' X' hx' hb.symm B'' (by rw [hget x' (Ne.symm hn)] at hg; exact hg))
    · rw [upd_other _ _ e] at hx
      by_cases e' : x' = σ.next
      · subst e'
        rw [upd_same] at hx'
        obtain rfl := Option.some.inj hx'
        exact Or.inl fun B'' hg => hdead x X hx hb B'' (by rw [hget x e] at hg; exact hg)
      · rw [upd_other _ _ e'] at hx'
        rw [hget x e, hget x' e']
        exact hk.mr.inj x x' X X' hx hx' hb hn
  · by_cases e : x = σ.next
    · subst e; exact Nat.lt_succ_self _
    · rw [upd_other _ _ e] at hx; exact Nat.lt_succ_of_lt (h.dom x X hx)
  · by_cases e : x = σ.next
    · subst e
      rw [upd_same] at hx
      obtain rfl := Option.some.inj hx
      exact hown
    · rw [upd_other _ _ e] at hx
      rw [hget x e] at hg
      exact hk.own x X B' hx hg hr'
  · obtain ⟨L', h1, h2, h3⟩ := h.glob g hg
    exact ⟨L', hle _ _ h1, h2, h3⟩
/-- A new block of the run and of the world. -/
theorem SR.fresh (h : SR gl w0 ρ σ w) {B : Blk} (hro : B.ro = false ∧ B.ob = none) (cs : Array Value) (t : TypeId) (hlen : B.cells.length ≤ cs.size) (hcs : ∀ (i : Nat) (v : Value), B.cells[i]? = some v → ∃ c, cs[i]? = some c ∧ VR ρ v c) :
    SR gl w0 (upd ρ σ.next ⟨w.heap.size, 0, cs.size, B.es⟩) (σ.new B) (w.alloc (.cells cs t)) := by
  have hnone : ρ σ.next = none := by
    cases hq : ρ σ.next with
    | none => rfl
    | some X => exact absurd (h.dom _ _ hq) (Nat.lt_irrefl _)
  exact (h.phantom B).made hnone (Nat.lt_succ_self _) (Tr.get_put_same _ _ _) hro cs t hlen hcs
omit [Syms] in
theorem Ext.fresh (L : Loc) (B : Blk) : Ext ρ σ (upd ρ σ.next L) (σ.new B) :=
  ⟨fun _ hl => upd_other _ _ (Nat.ne_of_lt hl), Nat.le_succ _, fun _ hl _ => Tr.get_put_other _ _ (Nat.ne_of_lt hl)⟩
omit [Syms] in
theorem Ext.freshPut {l : Nat} {L0 : Loc} (hl0 : ρ l = some L0) (x : Option Blk) (L : Loc) (B : Blk) : Ext ρ σ (upd ρ σ.next L) (St.new ⟨σ.mem.put l x, σ.next⟩ B) :=
  ⟨fun _ hl => upd_other _ _ (Nat.ne_of_lt hl), Nat.le_succ _, fun y hl hy => (Tr.get_put_other _ _ (Nat.ne_of_lt hl)).trans (Tr.get_put_other _ _ (fun e => by rw [e, hl0] at hy; cases hy))⟩
/-- What is handed on to a step that follows. -/
def After (gl : Nat) (w0 : Bs) (ρ : Ren) (σ : St) (v : Value) (σ' : St) (K : Value → World → Prop) : Prop := ∀ ρ' cv w', Ext ρ σ ρ' σ' → VR ρ' v cv → SR gl w0 ρ' σ' w' → K cv w'

theorem store_sim (hs : SR gl w0 ρ σ w) {t : TypeId} {l o : Nat} {v cv : Value} {L : Loc} (hl : ρ l = some L) (hv : VR ρ v cv) (h : storeV P σ t l o v = some σ') :
    ∃ w', (storeVar t ⟨L.b, L.d + o, none⟩ cv).run P w = .ok () w' ∧ Ext ρ σ ρ σ' ∧ SR gl w0 ρ σ' w' := by
  unfold storeV at h
  split at h
  · rename_i i B hi hB
    obtain ⟨h1, h2⟩ := bif_some h
    obtain rfl := Option.some.inj h2
    rw [Bool.and_eq_true, Bool.and_eq_true, Bool.and_eq_true] at h1
    obtain ⟨⟨⟨k1, k2⟩, k3⟩, k4⟩ := h1
    have k1 := Nat.eq_of_beq_eq_true k1
    have k2 := Nat.le_of_ble_eq_true k2
    have k3 : B.ro = false := by simpa using k3
    have hc := hv.cells
    obtain ⟨B', hB', _, hlen, _, hth, _⟩ := hs.mr.blk l L hl
    obtain rfl : B = B' := Option.some.inj (hB.symm.trans hB')
    have hth := hth k3
    have hsz : cv.cells.toList.length = i.size := by rw [← hc.length]; exact k1
    have hone := hc.allOne k4
    have hst := run_storeCells_cells (P := P) L.b (L.d + o) cv.cells.toList 0 w (fun j hj => by rw [Nat.add_zero, Nat.add_assoc]; exact (hth (o + j) (by omega)).1) (fun j hj => by rw [Nat.add_zero, Nat.add_assoc]; exact (hth (o + j) (by omega)).2) (fun u hu => List.all_eq_true.1 hone u hu)
    simp only [Nat.add_zero] at hst
    refine ⟨_, ?_, Ext.put hl _, hs.stored hl hB k3 hc (by rw [k1]; exact k2)⟩
    have hsz' : cv.cells.size = i.size := by simpa using hsz
    simp [storeVar, sizeOf, typeInfo, hi, hsz', hst]
  · cases h

omit [Syms] in
theorem Src.of {size : Nat} {tx : TypeId} {x : Value} {n : Nat} {news : List Value} (hk : (∃ e', P.underlying tx = some (.slice e')) ∨ P.underlying tx = some .string) (hlen : ∀ w' : World, (Builtin.lenOf x).run P w' = .ok n w')
    (h1 : ∀ w' : World, (∀ a, w'.cell? a = w.cell? a) → (Builtin.firstCells size n x).run P w' = .ok news.toArray w') (hl : news.length = n * size) (ho : ∀ u ∈ news, u.oneCell' = true) : Src P size tx x n news w :=
  ⟨hk, hlen, h1 w (fun _ => rfl), h1 w.drew (fun _ => rfl), hl, ho⟩
theorem src_sim (hm : MR ρ σ.mem w) {k : Nat} {x cx : Value} (hx : VR ρ x cx) {m : Nat} {new : List Value} (h : srcOf σ k x = some (m, new)) {tx : TypeId} (hk : (∃ e', P.underlying tx = some (.slice e')) ∨ P.underlying tx = some .string) :
    ∃ us, Src P k tx cx m us w ∧ VRs ρ new us := by
  unfold srcOf at h
  split at h
  · rename_i n c
    obtain ⟨h1, h2⟩ := bif_some h
    obtain rfl := Nat.eq_of_beq_eq_true h1
    simp only [Option.some.injEq, Prod.mk.injEq] at h2
    obtain ⟨rfl, rfl⟩ := h2
    obtain rfl := hx.groundEq rfl
    exact ⟨[], Src.of hk (fun _ => rfl) (fun w' _ => run_firstCells_none w' k 0 0 c) (by simp) (fun _ h => by cases h), .nil⟩
  · rename_i l o n c
    cases hc : cellsAt σ l o (Nat.mul n k) with
    | none => rw [hc] at h; cases h
    | some cs =>
      rw [hc] at h
      obtain ⟨h1, h2⟩ := bif_some h
      simp only [Option.some.injEq, Prod.mk.injEq] at h2
      obtain ⟨rfl, rfl⟩ := h2
      obtain ⟨L, hL, hcs⟩ := hx.slice_inv
      obtain ⟨ds, k1, k2, k3⟩ := cells_sim hm rfl hc hL
      have hdl : ds.length = n * k := by rw [← k1.length]; exact k3
      have hone := k1.allOne h1
      have key : ∀ (a : Addr) (c' : Nat), (n = 0 ∨ a = ⟨L.b, L.d + o, none⟩) → Src P k tx (.slice (some a) n c') n ds w := fun a c' hac => by
        refine Src.of hk (fun _ => rfl) (fun w' hw' => ?_) hdl (fun u hu => List.all_eq_true.1 hone u hu)
        refine run_firstCells_some w' k n a n c' ds hdl (fun j u hj => ?_)
        rcases hac with rfl | rfl
        · have : ds = [] := List.length_eq_zero_iff.1 (by rw [hdl]; simp)
          rw [this] at hj; simp at hj
        · rw [Addr.add_mid, hw']; exact k2 j u hj
      rcases hcs with ⟨_, rfl⟩ | ⟨_, c', _, _, rfl⟩ | ⟨_, rfl, a, rfl⟩
      · exact ⟨ds, key _ _ (Or.inr rfl), k1⟩
      · exact ⟨ds, key _ _ (Or.inr rfl), k1⟩
      · exact ⟨ds, key _ _ (Or.inl rfl), k1⟩
  · rename_i s
    obtain ⟨h1, h2⟩ := bif_some h
    obtain rfl := Nat.eq_of_beq_eq_true h1
    simp only [Option.some.injEq, Prod.mk.injEq] at h2
    obtain ⟨rfl, rfl⟩ := h2
    obtain rfl := hx.groundEq rfl
    refine ⟨byteCells s, Src.of hk (fun _ => rfl) (fun w' _ => firstCells_string s w') (by rw [byteCells_length, Nat.mul_one]) (fun u hu => ?_), ?_⟩
    · obtain ⟨_, _, rfl⟩ := List.mem_map.1 hu
      rfl
    · refine VRs.refl ?_
      rw [List.all_eq_true]
      intro u hu
      obtain ⟨_, _, rfl⟩ := List.mem_map.1 hu
      rfl
  · cases h
end
end Go.Proofs.YtcjolamfjgdgjaaGreatDoor.Ev
