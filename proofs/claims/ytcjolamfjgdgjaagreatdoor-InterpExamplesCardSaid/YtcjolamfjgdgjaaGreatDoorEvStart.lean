/-
  Where a law's run begins: the tables that the program's text lays; and how a run's answer becomes a law's.
-/
import Derived.Test.YtcjolamfjgdgjaaGreatDoorEvCode
import Derived.FnData
import GoSem.ClaimJoined
namespace Go.Proofs.YtcjolamfjgdgjaaGreatDoor.Ev
open Go.RowKit
variable [Syms]

abbrev Data0 := DataW Unit
def flatF (P : Program) (rec_ : TypeId → Data0 → Option (List Value)) : List (Nat × TypeId) → List Data0 → Nat → Option (List Value)
  | [], [], _ => some []
  | (o, t) :: fs, d :: ds, off => if o = off then
      match rec_ t d with
      | some a => if a.length = P.cellsOf t then (flatF P rec_ fs ds (off + a.length)).map fun b => a ++ b else none
      | none => none
    else none
  | _, _, _ => none
/-- The cells of plain data. -/
def flatT (P : Program) : Nat → TypeId → Data0 → Option (List Value)
  | 0, _, _ => none
  | f + 1, t, d => match P.underlying t, d with
    | some .bool, .lit (.bool b) => some [.bool b]
    | some (.int _), .lit (.int k n) => some [.int k n]
    | some .string, .lit (.string bs) => some [.string ⟨bs.toArray⟩]
    | some (.struct fs), .agg ds => match flatF P (flatT P f) (fs.toList.map fun f => (f.offset, f.type)) ds 0 with
      | some vs => if vs.length = P.cellsOf t then some vs else none
      | none => none
    | some (.array n e), .agg ds => match flatF P (flatT P f) ((List.range n).map fun i => (i * P.cellsOf e, e)) ds 0 with
      | some vs => if vs.length = P.cellsOf t then some vs else none
      | none => none
    | _, _ => none
omit [Syms] in
theorem flatF_cells {P : Program} {rec_ : TypeId → Data0 → Option (List Value)} {tr : TypeId → List Value → Option (Data0 × List MemPlace)} (hrec : ∀ t cs d p vs, tr t cs = some (d, p) → rec_ t d = some vs → cs = vs) {cs : List Value} :
    ∀ {fs : List (Nat × TypeId)} {xs : List (Data0 × List MemPlace)} {off : Nat} {vs : List Value}, fs.mapM (fun q => tr q.2 ((cs.drop q.1).take (P.cellsOf q.2))) = some xs → flatF P rec_ fs (xs.map (·.1)) off = some vs → (cs.drop off).take vs.length = vs
  | [], xs, off, vs, h, hf => by
    simp at h
    subst h
    obtain rfl := Option.some.inj hf
    simp
  | (o, t) :: fs, xs, off, vs, h, hf => by
    rw [List.mapM_cons] at h
    simp only [Option.bind_eq_bind, Option.pure_def, Option.bind_eq_some_iff, Option.some.injEq] at h
    obtain ⟨⟨d, p⟩, h1, ys, h2, rfl⟩ := h
    simp only [List.map_cons, flatF] at hf
    split at hf
    · rename_i ho
      subst ho
      split at hf
      · rename_i a ha
        split at hf
        · rename_i hl
          simp only [Option.map_eq_some_iff] at hf
          obtain ⟨b, hb, rfl⟩ := hf
          have e1 := hrec t _ d p a h1 ha
          have e2 := flatF_cells hrec h2 hb
          rw [List.length_append, List.take_add, ← hl] at *
          rw [e1, List.drop_drop, e2]
        · cases hf
      · cases hf
    · cases hf
omit [Syms] in
theorem flatT_cells {P : Program} {w : World} {sp : Nat → Bool} {enc : TypeId × Value → Unit} : ∀ (f : Nat) (fuel : Nat) (t : TypeId) (cs : List Value) (d : Data0) (p : List MemPlace) (vs : List Value), DataW.trod enc P w 0 sp false fuel t cs = some (d, p) → flatT P f t d = some vs → cs = vs
  | 0, _, _, _, _, _, _, _, h => by cases h
  | f + 1, 0, _, _, _, _, _, h, _ => by simp [DataW.trod] at h
  | f + 1, fuel + 1, t, cs, d, p, vs, h, hf => by
    have ih := flatT_cells (P := P) (w := w) (sp := sp) (enc := enc) f fuel
    simp only [flatT] at hf
    split at hf
    · rename_i b hu
      obtain rfl := Option.some.inj hf
      simp only [DataW.trod, hu] at h
      split at h <;> simp_all
    · rename_i k k' n hu
      obtain rfl := Option.some.inj hf
      simp only [DataW.trod, hu] at h
      split at h <;> simp_all
    · rename_i bs hu
      obtain rfl := Option.some.inj hf
      simp only [DataW.trod, hu] at h
      have key : ∀ s : ByteArray, cs = [.string s] → bs = s.data.toList → cs = [.string ⟨bs.toArray⟩] := fun s h1 h2 => by
        subst h1 h2
        obtain ⟨⟨l⟩⟩ := s
        rfl
      split at h
      all_goals (try (simp_all; done))
      rename_i s _
      split at h
      · simp only [Option.some.injEq, Prod.mk.injEq, DataW.lit.injEq, Lit.string.injEq] at h
        exact key s rfl h.1.symm
      · cases h
    · rename_i fs ds hu
      split at hf
      · rename_i us hus
        split at hf
        · rename_i hl
          obtain rfl := Option.some.inj hf
          simp only [DataW.trod, hu] at h
          split at h
          · rename_i hcl
            obtain ⟨xs, hm, hx⟩ := Option.map_eq_some_iff.1 h
            have hd : ds = xs.map (·.1) := by
              have := congrArg Prod.fst hx
              simpa using this.symm
            subst hd
            have hm' : (fs.toList.map fun f => (f.offset, f.type)).mapM (fun q => DataW.trod enc P w 0 sp false fuel q.2 ((cs.drop q.1).take (P.cellsOf q.2))) = some xs := by
              rw [List.mapM_map]
              exact hm
            have := flatF_cells (P := P) (tr := fun t cs => DataW.trod enc P w 0 sp false fuel t cs) (fun t cs d p vs h1 h2 => ih t cs d p vs h1 h2) hm' hus
            rw [List.drop_zero, hl, ← hcl, List.take_length] at this
            exact this
          · cases h
        · cases hf
      · cases hf
    · rename_i n e ds hu
      split at hf
      · rename_i us hus
        split at hf
        · rename_i hl
          obtain rfl := Option.some.inj hf
          simp only [DataW.trod, hu] at h
          split at h
          · rename_i hcl
            obtain ⟨xs, hm, hx⟩ := Option.map_eq_some_iff.1 h
            have hd : ds = xs.map (·.1) := by
              have := congrArg Prod.fst hx
              simpa using this.symm
            subst hd
            have hm' : ((List.range n).map fun i => (i * P.cellsOf e, e)).mapM (fun q => DataW.trod enc P w 0 sp false fuel q.2 ((cs.drop q.1).take (P.cellsOf q.2))) = some xs := by
              rw [List.mapM_map]
              exact hm
            have := flatF_cells (P := P) (tr := fun t cs => DataW.trod enc P w 0 sp false fuel t cs) (fun t cs d p vs h1 h2 => ih t cs d p vs h1 h2) hm' hus
            rw [List.drop_zero, hl, ← hcl, List.take_length] at this
            exact this
          · cases h
        · cases hf
      · cases hf
    · cases hf
/-- The tables: number, cells. -/
def GlobIs (gs : List (Nat × List Value)) (w : World) : Prop := ∀ g cs, (g, cs) ∈ gs → ∀ (i : Nat) (v : Value), cs[i]? = some v → w.cell? ⟨g, i, none⟩ = some v
def laidCells (P : Program) (laid : List (String × Data0)) : Option (List (Nat × List Value)) :=
  laid.mapM fun x => match P.globalNamed x.1 with
    | some g => match P.globals[g]? with
      | some gv => (flatT P 20 gv.type x.2).map fun cs => (g, cs)
      | none => none
    | none => none
omit [Syms] in
theorem glob_of_vars {P : Program} {w : World} : ∀ {laid : List (String × Data0)} {ps : List MemPlace} {gs : List (Nat × List Value)}, DataW.LaidVars P w laid ps → laidCells P laid = some gs → GlobIs gs w
  | [], _, gs, _, h => by
    simp [laidCells] at h
    subst h
    intro g cs hm
    simp at hm
  | (nm, d) :: laid, ps, gs, hl, h => by
    obtain ⟨g, t, cs, fuel, p, q, hg, ht, hv, hd, hr, _⟩ := hl
    unfold laidCells at h
    rw [List.mapM_cons] at h
    simp only [Option.bind_eq_bind, Option.pure_def, Option.bind_eq_some_iff, Option.some.injEq] at h
    obtain ⟨⟨g', us⟩, h1, gs', h2, rfl⟩ := h
    rw [hg] at h1
    simp only at h1
    cases hgv : P.globals[g]? with
    | none => rw [hgv] at h1; cases h1
    | some gv =>
      rw [hgv] at h1 ht
      simp only [Option.map_some, Option.some.injEq] at ht
      subst ht
      simp only [Option.map_eq_some_iff, Prod.mk.injEq] at h1
      obtain ⟨vs, hf, rfl, rfl⟩ := h1
      have hcs := flatT_cells 20 fuel _ _ _ _ _ hd hf
      have ih := glob_of_vars hr (by unfold laidCells; exact h2)
      intro g2 cs2 hm i v hi
      rcases List.mem_cons.1 hm with e | hm
      · cases e
        rw [World.var?_cell hg hv i, ← Array.getElem?_toList, hcs]
        exact hi
      · exact ih g2 cs2 hm i v hi
omit [Syms] in
theorem glob_of_laid {P : Program} {w : World} {laid : List (String × Data0)} {gs : List (Nat × List Value)} (h : laidMetH P laid w) (hn : (laid.filter fun x => x.2.handleName?.isSome) = []) (hc : laidCells P laid = some gs) : GlobIs gs w := by
  unfold laidMetH at h
  rw [hn] at h
  obtain ⟨ps, h1, _⟩ := h
  exact glob_of_vars h1 hc

noncomputable def startMem : List (Nat × List Value) → Tr Blk
  | [] => .nil
  | (g, cs) :: gs => (startMem gs).put g (some ⟨cs, true, 0, none⟩)
def startRen (gs : List (Nat × List Value)) : Ren := fun l => (gs.find? fun x => Nat.beq x.1 l).map fun x => ⟨x.1, 0, x.2.length, 0⟩
omit [Syms] in
theorem start_mem : ∀ (gs : List (Nat × List Value)) (l : Nat), (startMem gs).get l = (gs.find? fun x => Nat.beq x.1 l).map fun x => ⟨x.2, true, 0, none⟩
  | [], l => rfl
  | (g, cs) :: gs, l => by
    rw [startMem, Tr.get_put, List.find?_cons]
    by_cases e : l = g
    · subst e
      simp
    · have : Nat.beq g l = false := by
        cases hb : Nat.beq g l with
        | false => rfl
        | true => exact absurd (Nat.eq_of_beq_eq_true hb).symm e
      simp only [this, if_neg e]
      exact start_mem gs l
/-- What is checked of the tables. -/
def startOk (gs : List (Nat × List Value)) (gl next : Nat) : Bool :=
  gs.all (fun x => Nat.ble (x.1 + 1) next && !x.2.isEmpty && x.2.all cellGround) && decide (∀ g, g < next → bitOf gl g = true → (gs.find? fun x => Nat.beq x.1 g).isSome = true) && Nat.ble (gl + 1) (2 ^ next)
theorem start_sr {gs : List (Nat × List Value)} {gl next : Nat} {w : World} (hg : GlobIs gs w) (hok : startOk gs gl next = true) : SR gl ⟨w, fun _ => False⟩ (startRen gs) ⟨startMem gs, next⟩ w := by
  unfold startOk at hok
  rw [Bool.and_eq_true, Bool.and_eq_true] at hok
  obtain ⟨⟨h1, h2⟩, h3⟩ := hok
  have find : ∀ l L, startRen gs l = some L → ∃ cs, (l, cs) ∈ gs ∧ (gs.find? fun x => Nat.beq x.1 l) = some (l, cs) ∧ L = ⟨l, 0, cs.length, 0⟩ := fun l L hL => by
    unfold startRen at hL
    obtain ⟨⟨g, cs⟩, hf, rfl⟩ := Option.map_eq_some_iff.1 hL
    have hb := List.find?_some hf
    have hm := List.mem_of_find?_eq_some hf
    simp only at hb
    obtain rfl := Nat.eq_of_beq_eq_true hb
    exact ⟨cs, hm, hf, rfl⟩
  have each : ∀ g cs, (g, cs) ∈ gs → g < next ∧ cs ≠ [] ∧ cs.all cellGround = true := fun g cs hm => by
    have := List.all_eq_true.1 h1 _ hm
    rw [Bool.and_eq_true, Bool.and_eq_true] at this
    obtain ⟨⟨k1, k2⟩, k3⟩ := this
    exact ⟨Nat.le_of_ble_eq_true k1, by simpa using k2, k3⟩
  refine ⟨⟨fun l L hL => ?_, fun l l' L L' hL hL' hb hne => ?_, fun l L B o hL hB ho => ?_⟩, fun l L hL => ?_, fun l L B hL hB hr => ?_, fun g hgb => ?_, Below.refl _ _, fun D h => h.elim⟩
  rotate_left 2
  · obtain ⟨cs, hm, hf, rfl⟩ := find l L hL
    rw [start_mem, hf] at hB
    obtain rfl := Option.some.inj hB
    cases ho
  rotate_right 2
  · obtain ⟨cs, hm, hf, rfl⟩ := find l L hL
    obtain ⟨_, hne, hall⟩ := each l cs hm
    refine ⟨⟨cs, true, 0, none⟩, by rw [start_mem, hf]; rfl, rfl, Nat.le_refl _, ?_, (fun h => by cases h), fun i v hv => ?_⟩
    · cases cs with
      | nil => exact absurd rfl hne
      | cons x cs => exact lt_of_cell (hg l _ hm 0 x rfl)
    · refine ⟨v, by rw [Nat.zero_add]; exact hg l cs hm i v hv, .refl (cellGround_ground ?_)⟩
      exact List.all_eq_true.1 hall v (List.mem_of_getElem? hv)
  · obtain ⟨_, _, _, rfl⟩ := find l L hL
    obtain ⟨_, _, _, rfl⟩ := find l' L' hL'
    exact absurd hb hne
  · obtain ⟨cs, hm, _, rfl⟩ := find l L hL
    exact (each l cs hm).1
  · obtain ⟨cs, hm, hf, rfl⟩ := find l L hL
    simp only at hB
    rw [start_mem, hf] at hB
    obtain rfl := Option.some.inj hB
    rcases hr with hr | hr <;> cases hr
  · have hlt : g < next := by
      rw [bitOf_eq] at hgb
      have h4 := Nat.le_of_ble_eq_true h3
      rcases Nat.lt_or_ge g next with h | h
      · exact h
      · have : gl < 2 ^ g := Nat.lt_of_lt_of_le (by omega) (Nat.pow_le_pow_right (by omega) h)
        rw [Nat.testBit_lt_two_pow this] at hgb
        cases hgb
    have := of_decide_eq_true h2 g hlt hgb
    obtain ⟨⟨g', cs⟩, hf⟩ := Option.isSome_iff_exists.1 this
    have hb := List.find?_some hf
    simp only at hb
    obtain rfl := Nat.eq_of_beq_eq_true hb
    exact ⟨⟨g', 0, cs.length, 0⟩, by unfold startRen; rw [hf]; rfl, rfl, rfl⟩
def noOracle : Oracle := fun _ _ _ => none
def saysYes : Option (Value × St) → Bool
  | some (.bool b, _) => b
  | _ => false
/-- A LAW BY A RUN. -/
theorem law_of_run {P : Program} (hm : P.follows .mixedOrders = true) (hng : NoCount P) {gl rounds n f : Nat} {gs : List (Nat × List Value)} {next : Nat} (hok : startOk gs gl next = true) {args : List Value} (hga : args.all ground = true)
    (h : saysYes (evCall P gl noOracle rounds n f args ⟨startMem gs, next⟩) = true) {w : World} (hg : GlobIs gs w) : Calls P f args.toArray w fun e w' => e = .returned (.bool true) ∧ Below w.heap.size w w' := by
  cases hr : evCall P gl noOracle rounds n f args ⟨startMem gs, next⟩ with
  | none => rw [hr] at h; cases h
  | some r =>
    obtain ⟨v, σ'⟩ := r
    rw [hr] at h
    have hv : v = .bool true := by
      cases v with
      | bool b => cases b with
        | true => rfl
        | false => cases h
      | _ => cases h
    subst hv
    have hrefl : ∀ {ρ : Ren} {l : List Value}, l.all ground = true → VRs ρ l l := by
      intro ρ l
      induction l with
      | nil => intro _; exact .nil
      | cons x l ih => intro hl; rw [List.all_cons, Bool.and_eq_true] at hl; exact .cons (.refl hl.1) (ih hl.2)
    refine (call_ok hm hng (w0 := w) (orc := noOracle) (fun f args σ v σ' h => by cases h) n f args _ _ σ' hr (fun _ => False) (startRen gs) w args.toArray (start_sr hg hok) (hrefl hga)).mono ?_
    rintro e w' ⟨ρ', cv, rfl, _, h2, h3⟩
    obtain rfl := h2.bool_inv
    exact ⟨rfl, h3.old⟩
/-- A block of the caller's, that the run reads. -/
theorem SR.extra {gl : Nat} {B0 : Bs} {ρ : Ren} {σ : St} {w : World} (h : SR gl B0 ρ σ w) (hall : ∀ l L B, ρ l = some L → σ.mem.get l = some B → B.ro = true) {b off es : Nat} {cs : List Value} (hlt : b < w.heap.size) (hlt0 : b < B0.w.heap.size)
    (hcs : ∀ (i : Nat) (v : Value), cs[i]? = some v → w.cell? ⟨b, off + i, none⟩ = some v ∧ ground v = true) :
    SR gl B0 (upd ρ σ.next ⟨b, off, cs.length, es⟩) (σ.new ⟨cs, true, es, none⟩) w ∧ (∀ l L B, upd ρ σ.next ⟨b, off, cs.length, es⟩ l = some L → (σ.new ⟨cs, true, es, none⟩).mem.get l = some B → B.ro = true) ∧ Le ρ (upd ρ σ.next ⟨b, off, cs.length, es⟩) := by
  have hnone : ρ σ.next = none := by
    cases hq : ρ σ.next with
    | none => rfl
    | some X => exact absurd (h.dom _ _ hq) (Nat.lt_irrefl _)
  have hle := Le.upd ⟨b, off, cs.length, es⟩ hnone
  have hq := h.phantom ⟨cs, true, es, none⟩
  have hB : (σ.new ⟨cs, true, es, none⟩).mem.get σ.next = some ⟨cs, true, es, none⟩ := Tr.get_put_same _ _ _
  have hall' : ∀ l L B, upd ρ σ.next ⟨b, off, cs.length, es⟩ l = some L → (σ.new ⟨cs, true, es, none⟩).mem.get l = some B → B.ro = true := fun l L B hl hg => by
    by_cases e : l = σ.next
    · subst e
      obtain rfl := Option.some.inj (hB.symm.trans hg)
      rfl
    · rw [upd_other _ _ e] at hl
      refine hall l L B hl ?_
      rw [← hg]
      exact (Tr.get_put_other _ _ e).symm
  refine ⟨⟨⟨fun x X hx => ?_, fun x x' X X' hx hx' _ _ => .inr (.inr ⟨fun B hg => hall' x X B hx hg, fun B hg => hall' x' X' B hx' hg⟩), fun x X B' o hx hg' ho => ?_⟩, fun x X hx => ?_, fun x X B' hx hg' hr => ?_, fun y hy => ?_, hq.old, hq.opn⟩, hall', hle⟩
  · by_cases e : x = σ.next
    · subst e
      rw [upd_same] at hx
      obtain rfl := Option.some.inj hx
      refine ⟨_, hB, rfl, Nat.le_refl _, hlt, fun e => (by cases e), fun i v hv => ?_⟩
      obtain ⟨k1, k2⟩ := hcs i v hv
      exact ⟨v, k1, .refl k2⟩
    · rw [upd_other _ _ e] at hx
      obtain ⟨B', h1, h2, h3, h4, h5, h6⟩ := hq.mr.blk x X hx
      exact ⟨B', h1, h2, h3, h4, h5, fun i v hv => by obtain ⟨c, k1, k2⟩ := h6 i v hv; exact ⟨c, k1, k2.mono hle⟩⟩
  · by_cases e : x = σ.next
    · subst e
      obtain rfl := Option.some.inj (hB.symm.trans hg')
      cases ho
    · rw [upd_other _ _ e] at hx
      obtain ⟨k1, k2, k3⟩ := hq.mr.obj x X B' o hx hg' ho
      refine ⟨k1, k2.mono hle, fun y Y hy hb => ?_⟩
      by_cases e' : y = σ.next
      · subst e'
        rw [upd_same] at hy
        obtain rfl := Option.some.inj hy
        have := hq.own x X B' hx hg' (.inr (by rw [ho]; rfl))
        simp only at hb
        omega
      · rw [upd_other _ _ e'] at hy
        exact k3 y Y hy hb
  · by_cases e : x = σ.next
    · rw [e]; exact Nat.lt_succ_self _
    · rw [upd_other _ _ e] at hx
      exact hq.dom x X hx
  · by_cases e : x = σ.next
    · subst e
      obtain rfl := Option.some.inj (hB.symm.trans hg')
      rcases hr with hr | hr <;> cases hr
    · rw [upd_other _ _ e] at hx
      exact hq.own x X B' hx hg' hr
  · obtain ⟨L', h1, h2, h3⟩ := h.glob y hy
    exact ⟨L', hle _ _ h1, h2, h3⟩
end Go.Proofs.YtcjolamfjgdgjaaGreatDoor.Ev
