/-
  Values that are built, comparisons, bytes as a text; and all operations together.
-/
import Derived.Test.YtcjolamfjgdgjaaGreatDoorEvOps2
import Derived.MapKept
namespace Go.Proofs.YtcjolamfjgdgjaaGreatDoor.Ev
open Go.RowKit
variable [Syms]

omit [Syms] in
theorem setCells_length : ∀ (cs : List Value) (o : Nat) (vs : List Value), (setCells cs o vs).length = cs.length
  | [], o, vs => by cases vs <;> rfl
  | c :: cs, o, [] => rfl
  | c :: cs, 0, v :: vs => by simp [setCells, setCells_length cs 0 vs]
  | c :: cs, o + 1, v :: vs => by simp [setCells, setCells_length cs o (v :: vs)]
omit [Syms] in
theorem setCells_get : ∀ (cs : List Value) (o : Nat) (vs : List Value) (i : Nat), (setCells cs o vs)[i]? = if o ≤ i ∧ i < o + vs.length ∧ i < cs.length then vs[i - o]? else cs[i]?
  | [], o, vs, i => by cases vs <;> simp [setCells]
  | c :: cs, o, [], i => by
    rw [if_neg (by simp; omega)]
    cases o <;> rfl
  | c :: cs, 0, v :: vs, 0 => by simp [setCells]
  | c :: cs, 0, v :: vs, i + 1 => by
    rw [show setCells (c :: cs) 0 (v :: vs) = v :: setCells cs 0 vs from rfl, List.getElem?_cons_succ, setCells_get cs 0 vs i]
    by_cases h : 0 ≤ i ∧ i < 0 + vs.length ∧ i < cs.length
    · rw [if_pos h, if_pos (by simp; omega)]
      simp
    · rw [if_neg h, if_neg (by simp; simp at h; omega)]
      simp
  | c :: cs, o + 1, v :: vs, 0 => by
    rw [if_neg (by omega)]
    rfl
  | c :: cs, o + 1, v :: vs, i + 1 => by
    rw [show setCells (c :: cs) (o + 1) (v :: vs) = c :: setCells cs o (v :: vs) from rfl, List.getElem?_cons_succ, setCells_get cs o (v :: vs) i]
    by_cases h : o ≤ i ∧ i < o + (v :: vs).length ∧ i < cs.length
    · rw [if_pos h, if_pos (by simp at h ⊢; omega)]
      congr 1
      omega
    · rw [if_neg h, if_neg (by simp at h ⊢; omega)]
      simp
omit [Syms] in
theorem fold_get (off : Nat) : ∀ (l : List Value) (k : Nat) (cells : Array Value) (i : Nat), ((l.zipIdx k).foldl (fun cs (p : Value × Nat) => cs.setIfInBounds (off + p.2) p.1) cells)[i]? = if off + k ≤ i ∧ i < off + k + l.length ∧ i < cells.size then l[i - (off + k)]? else cells[i]?
  | [], k, cells, i => by
    rw [if_neg (by simp; omega)]
    rfl
  | v :: l, k, cells, i => by
    rw [List.zipIdx_cons, List.foldl_cons, fold_get off l (k + 1)]
    simp only [Array.size_setIfInBounds, List.length_cons]
    by_cases h : off + (k + 1) ≤ i ∧ i < off + (k + 1) + l.length ∧ i < cells.size
    · rw [if_pos h, if_pos (by omega)]
      rw [show i - (off + k) = (i - (off + (k + 1))) + 1 by omega, List.getElem?_cons_succ]
    · rw [if_neg h]
      by_cases h2 : off + k = i
      · by_cases h3 : i < cells.size
        · rw [if_pos (by omega)]
          subst h2
          simp [h3]
        · rw [if_neg (by omega)]
          simp [h3]
      · rw [if_neg (by omega)]
        rw [Array.getElem?_setIfInBounds_ne (by omega)]
omit [Syms] in
theorem fold_size (off : Nat) : ∀ (l : List (Value × Nat)) (cells : Array Value), (l.foldl (fun cs (p : Value × Nat) => cs.setIfInBounds (off + p.2) p.1) cells).size = cells.size
  | [], _ => rfl
  | p :: l, cells => by rw [List.foldl_cons, fold_size off l]; simp
section
variable {P : Program} {ρ : Ren} {e : Env} {ev : Operand → Value} {nx : Nat} {w : World} {mem : Tr Blk}

theorem setCells_rel {cs ds : List Value} (h : VRs ρ cs ds) (o : Nat) {vs us : List Value} (k : VRs ρ vs us) : VRs ρ (setCells cs o vs) (setCells ds o us) := by
  refine VRs.of (by rw [setCells_length, setCells_length, h.length]) fun i x hx => ?_
  rw [setCells_get] at hx ⊢
  rw [← k.length, ← h.length]
  split at hx
  · rename_i hc; rw [if_pos hc]; exact k.at _ _ hx
  · rename_i hc; rw [if_neg hc]; exact h.at _ _ hx
theorem fill_sim {places : List (Nat × Nat)} {place : Nat → Option (Nat × Nat)} (hp : ∀ i x, places[i]? = some x → place i = some x) : ∀ {ps : List (Nat × Value)} {qs : List (Nat × Value)} {cs : List Value} {ds : Array Value} {r : List Value},
    VRs ρ cs ds.toList → ps.length = qs.length → (∀ (j : Nat) (p : Nat × Value), ps[j]? = some p → ∃ c, qs[j]? = some (p.1, c) ∧ VR ρ p.2 c) → fillParts places cs ps = some r → ∃ r', Instr.fill place ds qs = some r' ∧ VRs ρ r r'.toList
  | [], [], cs, ds, r, h, _, _, hf => by
    obtain rfl := Option.some.inj hf
    exact ⟨ds, rfl, h⟩
  | [], _ :: _, _, _, _, _, hl, _, _ => by simp at hl
  | _ :: _, [], _, _, _, _, hl, _, _ => by simp at hl
  | (i, v) :: ps, q :: qs, cs, ds, r, h, hl, hq, hf => by
    obtain ⟨c, h0, hv⟩ := hq 0 (i, v) rfl
    obtain rfl : q = (i, c) := by simpa using h0
    simp only [fillParts] at hf
    split at hf
    · cases hf
    · rename_i off size hpl
      obtain ⟨h1, h2⟩ := bif_some hf
      rw [Bool.and_eq_true] at h1
      have e1 := Nat.eq_of_beq_eq_true h1.1
      have e2 := Nat.le_of_ble_eq_true h1.2
      have hvc := hv.cells
      have hsz : c.cells.size = size := by have := hvc.length; simp only [Array.length_toList] at this; rw [← this, ← e1]; simp
      have hdl : cs.length = ds.size := by have := h.length; simpa using this
      have hrel : VRs ρ (setCells cs off v.cells.toList) (c.cells.zipIdx.foldl (fun cs (p : Value × Nat) => cs.setIfInBounds (off + p.2) p.1) ds).toList := by
        have hfold : c.cells.zipIdx.foldl (fun cs (p : Value × Nat) => cs.setIfInBounds (off + p.2) p.1) ds = (c.cells.toList.zipIdx 0).foldl (fun cs (p : Value × Nat) => cs.setIfInBounds (off + p.2) p.1) ds := by
          rw [← Array.foldl_toList]; simp
        rw [hfold]
        refine VRs.of ?_ fun j x hx => ?_
        · rw [setCells_length, hdl, Array.length_toList, fold_size]
        · rw [Array.getElem?_toList, fold_get]
          rw [setCells_get] at hx
          rw [Nat.add_zero, ← hvc.length, ← hdl]
          split at hx
          · rename_i hc; rw [if_pos hc]; exact hvc.at _ _ hx
          · rename_i hc; rw [if_neg hc]; obtain ⟨y, hy, hr⟩ := h.at _ _ hx; exact ⟨y, by simpa using hy, hr⟩
      obtain ⟨r', hr', hrr⟩ := fill_sim hp (qs := qs) hrel (by simpa using hl) (fun j p hj => by
        obtain ⟨c', k1, k2⟩ := hq (j + 1) p (by simpa using hj)
        exact ⟨c', by simpa using k1, k2⟩) h2
      refine ⟨r', ?_, hrr⟩
      simp only [Instr.fill, hp i _ hpl]
      rw [if_neg (by simp [hsz]; omega)]
      exact hr'
theorem parts_sim (he : Env.rel ρ e ev) : ∀ {ps : List (Nat × Operand)} {vs : List (Nat × Value)}, evalParts e ps = some vs → vs.length = ps.length ∧ ∀ (j : Nat) (p : Nat × Value), vs[j]? = some p → ∃ c, (ps.map fun q => (q.1, ev q.2))[j]? = some (p.1, c) ∧ VR ρ p.2 c
  | [], vs, h => by
    obtain rfl := Option.some.inj h
    exact ⟨rfl, fun j p hj => by simp at hj⟩
  | (i, x) :: ps, vs, h => by
    simp only [evalParts] at h
    split at h
    · rename_i v l hv hl
      obtain rfl := Option.some.inj h
      obtain ⟨h1, h2⟩ := parts_sim he hl
      refine ⟨by simp [h1], fun j p hj => ?_⟩
      cases j with
      | zero =>
        obtain rfl : (i, v) = p := by simpa using hj
        exact ⟨ev x, rfl, he x v hv⟩
      | succ j =>
        obtain ⟨c, k1, k2⟩ := h2 j p (by simpa using hj)
        exact ⟨c, by simpa using k1, k2⟩
    · cases h
omit [Syms] in
theorem places_sim : ∀ {fs : List Field} {pl : List (Nat × Nat)}, placesOf P fs = some pl → fs.mapM (fun f => (P.info? f.type).map fun i => (f.offset, i.size)) = some pl
  | [], pl, h => by
    obtain rfl := Option.some.inj h
    rfl
  | f :: fs, pl, h => by
    simp only [placesOf] at h
    split at h
    · rename_i i l hi hl
      obtain rfl := Option.some.inj h
      simp [List.mapM_cons, hi, places_sim hl]
    · cases h
omit [Syms] in
theorem range_places {n sz i : Nat} {x : Nat × Nat} (h : ((List.range n).map fun i => (i * sz, sz))[i]? = some x) : some (i * sz, sz) = some x := by
  rw [List.getElem?_map] at h
  cases hr : (List.range n)[i]? with
  | none => rw [hr] at h; cases h
  | some j =>
    rw [hr] at h
    obtain ⟨hlt, hj⟩ := List.getElem?_eq_some_iff.1 hr
    rw [List.getElem_range] at hj
    subst hj
    exact h
theorem build_sim (he : Env.rel ρ e ev) {o : Oper} {t : TypeId} {parts : Array (Nat × Operand)} (ho : o.op = .build t parts) {v : Value} {ob : Option Blk} (h : neBuild P (P.underlying t) (P.info? t) (zeroCells P t) (evalParts e parts.toList) = some (v, ob)) : NEok P ρ nx (execOp ev o) w v ob := by
  have fin : ∀ cells : Array Value, P.built t (parts.map fun q => (q.1, ev q.2)).toList = some cells → (execOp ev o).run P w = .ok (.value (.agg cells)) w := fun cells hb => by
    simp only [execOp, ho]
    exact run_val (run_build (P := P) w t _ cells hb)
  unfold neBuild at h
  split at h
  · rename_i fs it z ps hu hi hz hps
    obtain ⟨i', zv, hi', hzv, hg, rfl⟩ := zero_inv hz
    obtain ⟨hlen, hpr⟩ := parts_sim he hps
    unfold neBuild2 at h
    split at h
    · rename_i pl hpl
      cases hf : fillParts pl zv.cells.toList ps with
      | none => rw [hf] at h; cases h
      | some cs =>
        rw [hf] at h
        simp only [aggOf, Option.some.injEq, Prod.mk.injEq] at h
        obtain ⟨rfl, rfl⟩ := h
        obtain ⟨r', h1, h2⟩ := fill_sim (place := (pl.toArray[·]?)) (fun i x hx => by simpa using hx) (ds := zv.cells) (VR.refl (ρ := ρ) hg).cells (qs := (parts.map fun q => (q.1, ev q.2)).toList) (by simpa using hlen) (fun j p hj => by simpa using hpr j p hj) hf
        refine ⟨.agg r', fin r' ?_, .agg h2⟩
        simp only [Program.built, hi', hu, hzv, places_sim hpl]
        exact h1
    · cases h
  · rename_i n el it z ps hu hi hz hps
    obtain ⟨i', zv, hi', hzv, hg, rfl⟩ := zero_inv hz
    obtain ⟨hlen, hpr⟩ := parts_sim he hps
    unfold neBuild3 at h
    split at h
    · rename_i inf hinf
      cases hf : fillParts ((List.range n).map fun i => (i * inf.size, inf.size)) zv.cells.toList ps with
      | none => rw [hf] at h; cases h
      | some cs =>
        rw [hf] at h
        simp only [aggOf, Option.some.injEq, Prod.mk.injEq] at h
        obtain ⟨rfl, rfl⟩ := h
        obtain ⟨r', h1, h2⟩ := fill_sim (place := fun i => some (i * inf.size, inf.size)) (fun i x hx => range_places hx) (ds := zv.cells) (VR.refl (ρ := ρ) hg).cells (qs := (parts.map fun q => (q.1, ev q.2)).toList) (by simpa using hlen) (fun j p hj => by simpa using hpr j p hj) hf
        refine ⟨.agg r', fin r' ?_, .agg h2⟩
        simp only [Program.built, hi', hu, hzv, hinf]
        exact h1
    · cases h
  · cases h
omit [Syms] in
theorem repeat_length {α : Type} (l : List α) : ∀ n, (repeatN n l).length = n * l.length
  | 0 => by simp [repeatN]
  | n + 1 => by simp [repeatN, repeat_length l n, Nat.add_mul, Nat.add_comm]
omit [Syms] in
theorem repeat_get {α : Type} (l : List α) : ∀ n j, j < n * l.length → (repeatN n l)[j]? = l[j % l.length]?
  | 0, j, h => by simp at h
  | n + 1, j, h => by
    simp only [repeatN]
    by_cases hj : j < l.length
    · rw [List.getElem?_append_left hj, Nat.mod_eq_of_lt hj]
    · rw [List.getElem?_append_right (by omega), repeat_get l n (j - l.length) (by rw [Nat.add_mul, Nat.one_mul] at h; omega)]
      congr 1
      rw [← Nat.mod_eq_sub_mod (by omega)]
theorem rep_rel {zv : Value} {len size : Nat} (hg : ground zv = true) (k4 : zv.cells.toList.length = size) : VRs ρ (repeatN len zv.cells.toList) ((Array.range (len * size)).map (zv.cells[· % zv.cells.size]!)).toList := by
  have hzs : zv.cells.size = size := by simpa using k4
  have hall := (VR.refl (ρ := ρ) hg).cells
  refine VRs.of (by rw [repeat_length]; simp [hzs]) fun i x hx => ?_
  have hi : i < len * zv.cells.toList.length := by
    have := (List.getElem?_eq_some_iff.1 hx).1
    rwa [repeat_length] at this
  rw [repeat_get _ _ _ hi] at hx
  obtain ⟨y, hy, hr⟩ := hall.at _ _ hx
  refine ⟨y, ?_, hr⟩
  have hi' : i < len * size := by rw [k4] at hi; exact hi
  rw [Array.toList_map, List.getElem?_map]
  simp only [Array.toList_range, List.getElem?_range hi', Option.map_some, Option.some.injEq]
  have hsz : zv.cells.toList.length = zv.cells.size := by simp
  rw [hsz] at hy
  rw [Array.getElem?_toList] at hy
  rw [getElem!_def, hy]
omit [Syms] in
theorem make_run {t el : TypeId} {inf : TypeInfo} {zv : Value} (ht : P.underlying t = some (.slice el)) (hi : P.info? el = some inf) (hz : inf.zero = some zv) {kl kc : IntKind} {l c : Nat} (h1 : l ≤ c) (h2 : c ≤ 65536) (h3 : inf.bytes ≤ 4096) (h4 : 1 ≤ inf.size) :
    (Instr.makeSlice t (.int kl (l : Int)) (.int kc (c : Int))).run P w = .ok (.slice (some ⟨w.heap.size, 0, none⟩) l c) (w.alloc (.cells ((Array.range (c * inf.size)).map (zv.cells[· % zv.cells.size]!)) el)) := by
  have e1 : IntKind.i64.wrap (l : Int) = (l : Int) := by rw [IntKind.wrap_i64]; omega
  have e2 : IntKind.i64.wrap (c : Int) = (c : Int) := by rw [IntKind.wrap_i64]; omega
  have hb : inf.bytes * c ≤ 4096 * 65536 := Nat.mul_le_mul h3 h2
  have e3 : ¬ (281474976710656 < (inf.bytes : Int) * (c : Int)) := by
    rw [← Int.natCast_mul]
    omega
  have e4 : ¬ (c : Int) < 0 := by omega
  have e5 : ¬ (l : Int) < 0 := by omega
  have e6 : ¬ (c : Int) < (l : Int) := by omega
  by_cases hc : c = 0
  · subst hc
    obtain rfl : l = 0 := by omega
    simp [Instr.makeSlice, run_underlying ht, asInt, asIntOf, typeInfo, hi, sizeOf, newRow, Array.range_zero', IntKind.wrap_i64]
  · have e8 : ¬ (c = 0 ∨ inf.size = 0) := by omega
    have e9 : ¬ c * inf.size = 0 := by rw [Nat.mul_eq_zero]; exact e8
    simp [Instr.makeSlice, run_underlying ht, asInt, asIntOf, typeInfo, hi, sizeOf, zeroValue, hz, newRow, e1, e2, e3, e4, e5, e6, e9]
theorem make_sim (he : Env.rel ρ e ev) {o : Oper} {t : TypeId} {x y : Operand} (ho : o.op = .makeSlice t x y) {v : Value} {ob : Option Blk} (h : neMake P nx (P.underlying t) (e x) (e y) = some (v, ob)) : NEok P ρ nx (execOp ev o) w v ob := by
  unfold neMake at h
  split at h
  · rename_i el kl l kc c hu hl hc
    unfold neMake1 at h
    split at h
    · rename_i inf z hinf hz
      obtain ⟨i', zv, hi', hzv, hg, rfl⟩ := zero_inv hz
      obtain rfl : inf = i' := by rw [hinf] at hi'; exact Option.some.inj hi'
      obtain ⟨h1, h2⟩ := bif_some h
      simp only [Bool.and_eq_true] at h1
      obtain ⟨⟨⟨k1, k2⟩, k3, k5⟩, k6, k4⟩ := h1
      have k1 := Nat.le_of_ble_eq_true k1
      have k2 := Nat.le_of_ble_eq_true k2
      have k3 := Nat.le_of_ble_eq_true k3
      have k5 := Nat.le_of_ble_eq_true k5
      have k6 := Nat.le_of_ble_eq_true k6
      have k4 := Nat.eq_of_beq_eq_true k4
      simp only [Option.some.injEq, Prod.mk.injEq] at h2
      obtain ⟨rfl, rfl⟩ := h2
      have hlv := (he x _ hl).int_inv
      have hcv := (he y _ hc).int_inv
      have hrel := rep_rel (ρ := ρ) (len := c) hg k4
      have hr := make_run (P := P) (w := w) (kl := kl) (kc := kc) hu hinf hzv k2 k3 k6 k1
      refine ⟨(Array.range (c * inf.size)).map (zv.cells[· % zv.cells.size]!), el, .slice (some ⟨w.heap.size, 0, none⟩) l c, ?_, ⟨rfl, rfl⟩, ?_, fun i x hx => ?_, fun ρ' _ hl' => ?_⟩
      · simp only [execOp, ho, hlv, hcv]
        exact run_val hr
      · have := hrel.length
        simp only [Array.length_toList] at this
        exact Nat.le_of_eq this
      · obtain ⟨a, ha, hr⟩ := hrel.at i x hx
        exact ⟨a, by rw [← Array.getElem?_toList]; exact ha, hr⟩
      · have := VR.slice (ρ := ρ') (o := 0) (n := l) (c := c) hl' (by unfold ucap; omega)
        simpa using this
    · cases h
  · cases h
theorem row_sim (he : Env.rel ρ e ev) {o : Oper} {t : TypeId} {len : Nat} {parts : Array (Nat × Operand)} (ho : o.op = .buildSlice t len parts) {v : Value} {ob : Option Blk} (h : neRow P nx len (P.underlying t) (evalParts e parts.toList) = some (v, ob)) : NEok P ρ nx (execOp ev o) w v ob := by
  unfold neRow at h
  split at h
  · rename_i el ps hu hps
    obtain ⟨hlen, hpr⟩ := parts_sim he hps
    unfold neRow1 at h
    split at h
    · rename_i inf z hinf hz
      obtain ⟨i', zv, hi', hzv, hg, rfl⟩ := zero_inv hz
      obtain rfl : inf = i' := by rw [hinf] at hi'; exact Option.some.inj hi'
      obtain ⟨h1, h2⟩ := bif_some h
      rw [Bool.and_eq_true, Bool.and_eq_true, Bool.and_eq_true] at h1
      obtain ⟨⟨⟨k1, k2⟩, k3⟩, k4⟩ := h1
      have k1 := Nat.le_of_ble_eq_true k1
      have k2 := Nat.le_of_ble_eq_true k2
      have k3 := Nat.le_of_ble_eq_true k3
      have k4 := Nat.eq_of_beq_eq_true k4
      have hzs : zv.cells.size = inf.size := by simpa using k4
      have hprod : len * inf.size ≤ 65536 * 256 := Nat.mul_le_mul k2 k3
      cases hf : fillParts ((List.range len).map fun i => (i * inf.size, inf.size)) (repeatN len zv.cells.toList) ps with
      | none => rw [hf] at h2; cases h2
      | some cs =>
        rw [hf] at h2
        simp only [neRow2, Option.some.injEq, Prod.mk.injEq] at h2
        obtain ⟨rfl, rfl⟩ := h2
        have hstart : VRs ρ (repeatN len zv.cells.toList) ((Array.range (len * inf.size)).map (zv.cells[· % zv.cells.size]!)).toList := by
          have hall := (VR.refl (ρ := ρ) hg).cells
          refine VRs.of (by rw [repeat_length]; simp [hzs]) fun i x hx => ?_
          have hi : i < len * zv.cells.toList.length := by
            have := (List.getElem?_eq_some_iff.1 hx).1
            rwa [repeat_length] at this
          rw [repeat_get _ _ _ hi] at hx
          obtain ⟨y, hy, hr⟩ := hall.at _ _ hx
          refine ⟨y, ?_, hr⟩
          have hi' : i < len * inf.size := by rw [k4] at hi; exact hi
          rw [Array.toList_map, List.getElem?_map]
          simp only [Array.toList_range, List.getElem?_range hi', Option.map_some, Option.some.injEq]
          have hsz : zv.cells.toList.length = zv.cells.size := by simp
          rw [hsz] at hy
          rw [Array.getElem?_toList] at hy
          rw [getElem!_def, hy]
        obtain ⟨r', g1, g2⟩ := fill_sim (place := fun i => some (i * inf.size, inf.size)) (fun i x hx => range_places hx) hstart (qs := (parts.map fun q => (q.1, ev q.2)).toList) (by simpa using hlen) (fun j p hj => by simpa using hpr j p hj) hf
        refine ⟨r', el, .slice (some ⟨w.heap.size, 0, none⟩) len len, ?_, ⟨rfl, rfl⟩, ?_, g2.cells, fun ρ' _ hl => ?_⟩
        · have hn24 : ¬ (16777216 < len * inf.size) := by omega
          simp only [execOp, ho]
          refine run_val ?_
          have hg1 : Instr.fill (fun i => some (i * inf.size, inf.size)) ((Array.range (len * inf.size)).map (zv.cells[· % zv.cells.size]!)) (parts.toList.map fun q => (q.1, ev q.2)) = some r' := by simpa using g1
          by_cases hz0 : len = 0
          · subst hz0
            have hg2 : Instr.fill (fun i => some (i * inf.size, inf.size)) #[] (parts.toList.map fun q => (q.1, ev q.2)) = some r' := by
              rw [Nat.zero_mul, Array.range_zero', Array.map_empty] at hg1
              exact hg1
            simp [Instr.buildSlice, run_underlying hu, sizeOf, typeInfo, hinf, Array.range_zero', hg2, newRow]
          · simp [Instr.buildSlice, run_underlying hu, sizeOf, typeInfo, zeroValue, hinf, hzv, hn24, hg1, newRow]
            intro h0
            rcases Nat.mul_eq_zero.1 h0 with h | h <;> omega
        · have := g2.length
          simp only [Array.length_toList] at this
          simp [this]
        · have := VR.slice (ρ := ρ') (o := 0) (n := len) (c := len) hl (by unfold ucap; omega)
          simpa using this
    · cases h
  · cases h
omit [Syms] in
theorem eqGuard_quiet {op : BinOp} {t : TypeId} {x y : Operand} {a b : Value} (h : (∃ k n, a = .int k n) ∨ (∃ s, a = .string s) ∨ (∃ p n c, a = .slice p n c) ∨ (∃ p, a = .pointer p)) : eqGuard op t x y a b = pure () := by
  rcases h with ⟨k, n, rfl⟩ | ⟨s, rfl⟩ | ⟨p, n, c, rfl⟩ | ⟨p, rfl⟩ <;> cases op <;> rfl
omit [Syms] in
omit [Syms] in
theorem lEq_eq : ∀ (a b : List UInt8), lEq a b = decide (a = b)
  | [], [] => rfl
  | [], _ :: _ => rfl
  | _ :: _, [] => rfl
  | x :: a, y :: b => by
    show Bool.rec (motive := fun _ => Bool) false (lEq a b) (Nat.beq x.toNat y.toNat) = _
    cases h : Nat.beq x.toNat y.toNat with
    | true =>
      have : x = y := UInt8.toNat_inj.1 (Nat.eq_of_beq_eq_true h)
      subst this
      show lEq a b = _
      rw [lEq_eq a b]
      simp
    | false =>
      have : x ≠ y := fun e => by subst e; simp at h
      show false = _
      simp [this]
omit [Syms] in
theorem fastBin_sim {op : BinOp} {t : TypeId} {a b v : Value} (h : fastBin op a b = some v) : (binOp op t a b).run P w = .ok v w ∧ ground v = true ∧ ((∃ k n, a = .int k n) ∨ (∃ s, a = .string s)) ∧ ground a = true ∧ ground b = true := by
  unfold fastBin at h
  split at h
  · rename_i j m k n
    refine (fun (x : (binOp op t (.int j m) (.int k n)).run P w = .ok v w ∧ ground v = true) => ⟨x.1, x.2, Or.inl ⟨_, _, rfl⟩, rfl, rfl⟩) ?_
    cases hsh : isShift op with
    | true =>
      rw [hsh, cond_true] at h
      cases op <;> first | (cases hsh; done) | skip
      all_goals
        simp only [fastSh] at h
        obtain ⟨h1, h2⟩ := bif_none h
        obtain rfl := Option.some.inj h2
        have h1 : ¬ n < 0 := of_decide_eq_false h1
        refine ⟨?_, rfl⟩
        simp [binOp, Op.shift, h1]
    | false =>
      rw [hsh, cond_false] at h
      obtain ⟨h1, h2⟩ := bif_some h
      have hjk : j = k := of_decide_eq_true h1
      subst hjk
      cases op <;> first | (cases hsh; done) | (cases h2; done) | skip
      case quo =>
        simp only [fastInt] at h2
        obtain ⟨h3, h2⟩ := bif_none h2
        obtain rfl := Option.some.inj h2
        have h3 : ¬ n = 0 := of_decide_eq_false h3
        exact ⟨by simp [binOp, Op.intDiv, h3], rfl⟩
      case rem =>
        simp only [fastInt] at h2
        obtain ⟨h3, h2⟩ := bif_none h2
        obtain rfl := Option.some.inj h2
        have h3 : ¬ n = 0 := of_decide_eq_false h3
        exact ⟨by simp [binOp, Op.intDiv, h3], rfl⟩
      all_goals
        obtain rfl := Option.some.inj h2
        refine ⟨?_, rfl⟩
        simp [binOp, Op.intArith, Op.intCmp, Op.intBits, BEq.beq, bne]
  · rename_i x y
    refine (fun (z : (binOp op t (.string x) (.string y)).run P w = .ok v w ∧ ground v = true) => ⟨z.1, z.2, Or.inr ⟨_, rfl⟩, rfl, rfl⟩) ?_
    have e0 : ∀ z : ByteArray, z.toList = z.data.toList := fun z => ByteArray.toList_eq z
    have e1 : (x.toList == y.toList) = lEq x.data.toList y.data.toList := by rw [lEq_eq, e0, e0, Bool.eq_iff_iff, beq_iff_eq, decide_eq_true_eq]
    cases op <;> first | (cases h; done) | skip
    case add =>
      simp only [fastStr] at h
      obtain ⟨h1, h2⟩ := bif_some h
      obtain rfl := Option.some.inj h2
      have h1 := of_decide_eq_true h1
      refine ⟨?_, rfl⟩
      have hx : x.data.toList.length = x.size := rfl
      have hy : y.data.toList.length = y.size := rfl
      rw [hx, hy] at h1
      have hm : ¬ (((x.size + y.size : Nat) : Int) > IntKind.i64.max) := by
        have : IntKind.i64.max = 9223372036854775807 := by decide
        rw [this]
        omega
      have ha : x ++ y = ⟨(x.data.toList ++ y.data.toList).toArray⟩ := by
        apply ByteArray.ext
        simp
      simp only [binOp, Op.stringOp, if_neg hm, ha]
      rfl
    all_goals
      obtain rfl := Option.some.inj h
      refine ⟨?_, rfl⟩
      simp only [binOp, Op.stringOp, e1]
      try simp only [e0]
      rfl
  · cases h
theorem nilCmp_sim {t : TypeId} {a b ca cb : Value} (h : nilCmp (P.underlying t) a b = true) (ha : VR ρ a ca) (hb : VR ρ b cb) : (binOp .eql t ca cb).run P w = .ok (.bool false) w ∧ (binOp .neq t ca cb).run P w = .ok (.bool true) w ∧ ((∃ p n c, ca = .slice p n c) ∨ (∃ p, ca = .pointer p)) := by
  have sl : ∀ {p : Addr} {n c : Nat} {cv : Value}, VR ρ (.slice (some p) n c) cv → ∃ q c', cv = .slice (some q) n c' := fun hr => by
    cases hr with
    | refl hg => simp [ground, cellGround] at hg
    | slice _ _ => exact ⟨_, _, rfl⟩
    | own _ _ _ => exact ⟨_, _, rfl⟩
    | emp _ => exact ⟨_, _, rfl⟩
  have pt : ∀ {p : Addr} {cv : Value}, VR ρ (.pointer (some p)) cv → ∃ q, cv = .pointer (some q) := fun hr => by
    cases hr with
    | refl hg => simp [ground, cellGround] at hg
    | ptr _ => exact ⟨_, rfl⟩
  unfold nilCmp at h
  split at h
  · rename_i el n c p n' c' hu
    obtain rfl := ha.groundEq rfl
    obtain ⟨q, c2, rfl⟩ := sl hb
    exact ⟨Go.run_eql_nil_slice w t el (some q) n' c2 n c hu, Go.run_neq_nil_slice w t el (some q) n' c2 n c hu, Or.inl ⟨_, _, _, rfl⟩⟩
  · rename_i el p n c n' c' hu
    obtain rfl := hb.groundEq rfl
    obtain ⟨q, c2, rfl⟩ := sl ha
    exact ⟨Lib.run_eql_slice_nil w t el (some q) n c2 n' c' hu, Go.run_neq_slice_nil_any w t el (some q) n c2 n' c' hu, Or.inl ⟨_, _, _, rfl⟩⟩
  · rename_i el p hu
    obtain rfl := hb.groundEq rfl
    obtain ⟨q, rfl⟩ := pt ha
    have hu' : P.underlying t = some (.pointer (P.pointee t)) := by
      have : P.pointee t = el := by unfold Program.pointee; rw [hu]
      rw [this]; exact hu
    exact ⟨run_eql_pointer_nil w t (some q) hu', run_neq_pointer_nil w t (some q) hu', Or.inr ⟨_, rfl⟩⟩
  · cases h
omit [Syms] in
theorem scalar_cases {a : Value} (h : scalar a = true) : (∃ k n, a = .int k n) ∨ (∃ s, a = .string s) ∨ (∃ p n c, a = .slice p n c) ∨ (∃ p, a = .pointer p) := by
  unfold scalar at h
  split at h
  · exact .inl ⟨_, _, rfl⟩
  · exact .inr (.inl ⟨_, rfl⟩)
  · cases h
theorem chan_at {i : Nat} {c : Value} (h : VR ρ (.chan (some i)) c) : At Syms.val (.chan (some i)) c := h.at rfl
theorem un_sim (he : Env.rel ρ e ev) {o : Oper} {op : UnOp} {t : TypeId} {x : Operand} (ho : o.op = .unOp op t x) {v : Value} {ob : Option Blk} (h : neUn P e o op (e x) = some (v, ob)) : NEok P ρ nx (execOp ev o) w v ob := by
  unfold neUn at h
  split at h
  · rename_i i hx
    obtain ⟨rfl, h6⟩ := asVal_some h
    obtain ⟨cv, hcv, hf⟩ := Syms.un_ok _ _ _ h6 _ (chan_at (he x _ hx))
    refine ⟨cv, ?_, VR.ofAt hcv⟩
    simp only [execOp, ho]
    exact run_val (hf P w)
  · rename_i b hx
    unfold neUn1 at h
    split at h
    · rename_i r hr
      simp only [Option.some.injEq, Prod.mk.injEq] at h
      obtain ⟨rfl, rfl⟩ := h
      have hb := (he x _ hx).groundEq rfl
      unfold fastUn at hr
      cases op <;> first | (cases hr; done) | skip
      obtain rfl := Option.some.inj hr
      refine ⟨_, ?_, .refl rfl⟩
      simp [execOp, ho, hb, Op.unary]
    · exact asGround_sim he h
  · rename_i k n hx
    unfold neUn1 at h
    split at h
    · rename_i r hr
      simp only [Option.some.injEq, Prod.mk.injEq] at h
      obtain ⟨rfl, rfl⟩ := h
      have hb := (he x _ hx).groundEq rfl
      unfold fastUn at hr
      cases op <;> first | (cases hr; done) | skip
      all_goals
        obtain rfl := Option.some.inj hr
        refine ⟨_, ?_, .refl rfl⟩
        simp [execOp, ho, hb, Op.unary, Op.intArith, Op.intBits]
    · exact asGround_sim he h
  · exact asGround_sim he h
omit [Syms] in
theorem boolEq_sim {t : TypeId} {a b : Value} {r : Bool} (h : boolEq (P.underlying t) a b = some r) : (binOp .eql t a b).run P w = .ok (.bool r) w ∧ (binOp .neq t a b).run P w = .ok (.bool (!r)) w ∧ ground a = true ∧ ground b = true ∧ ∀ op x y, eqGuard op t x y a b = pure () := by
  unfold boolEq at h
  split at h
  · rename_i x y ht
    obtain rfl := Option.some.inj h
    have he : (Op.equal t (.bool x) (.bool y)).run P w = .ok (x == y) w := by
      show (Op.equalIn (9999 + 1) t (.bool x) (.bool y)).run P w = .ok (x == y) w
      unfold Op.equalIn
      simp [run_underlying ht]
    refine ⟨?_, ?_, rfl, rfl, fun op _ _ => by cases op <;> rfl⟩
    · simp [binOp, he]
    · simp [binOp, he]
  · cases h
theorem bin_sim (he : Env.rel ρ e ev) {o : Oper} {op : BinOp} {t u : TypeId} {x y : Operand} (ho : o.op = .binOp op t x y u) {v : Value} {ob : Option Blk} (h : neBin P e o op t (e x) (e y) = some (v, ob)) : NEok P ρ nx (execOp ev o) w v ob := by
  unfold neBin at h
  split at h
  · rename_i a b hx hy
    have hra := he x _ hx
    have hrb := he y _ hy
    cases hsy : (isSym a || isSym b) && (atOk a && atOk b) with
    | true =>
      rw [hsy, cond_true] at h
      obtain ⟨rfl, h6⟩ := asVal_some h
      rw [Bool.and_eq_true, Bool.and_eq_true] at hsy
      obtain ⟨cv, hcv, hf⟩ := Syms.bin_ok _ _ _ _ h6 _ _ (hra.at hsy.2.1) (hrb.at hsy.2.2)
      obtain ⟨h3, h1⟩ := hf
      have h1 := h1 P w t
      refine ⟨cv, ?_, VR.ofAt hcv⟩
      simp only [execOp, ho]
      rw [eqGuard_quiet (scalar_cases h3)]
      exact run_val (by simpa using h1)
    | false =>
    rw [hsy, cond_false] at h
    unfold neBin1 at h
    split at h
    · rename_i r hr
      simp only [Option.some.injEq, Prod.mk.injEq] at h
      obtain ⟨rfl, rfl⟩ := h
      obtain ⟨h1, h2, h3, h4, h5⟩ := fastBin_sim (P := P) (w := w) (t := t) hr
      have ha := hra.groundEq h4
      have hb := hrb.groundEq h5
      refine ⟨r, ?_, .refl h2⟩
      simp only [execOp, ho]
      rw [ha, hb, eqGuard_quiet (by rcases h3 with h | h <;> simp_all)]
      exact run_val (by simpa using h1)
    · unfold neBin2 at h
      split at h
      · cases hn : nilCmp (P.underlying t) a b with
        | true =>
          rw [hn] at h
          simp only [cond_true, Option.some.injEq, Prod.mk.injEq] at h
          obtain ⟨rfl, rfl⟩ := h
          obtain ⟨h1, _, h3⟩ := nilCmp_sim (w := w) hn hra hrb
          refine ⟨.bool false, ?_, .refl rfl⟩
          simp only [execOp, ho]
          rw [eqGuard_quiet (by rcases h3 with h | h <;> simp_all)]
          exact run_val (by simpa using h1)
        | false =>
          rw [hn] at h
          simp only [cond_false, neEq] at h
          split at h
          · rename_i r hr
            simp only [Option.some.injEq, Prod.mk.injEq] at h
            obtain ⟨rfl, rfl⟩ := h
            obtain ⟨h1, h2, h3, h4, h5⟩ := boolEq_sim (w := w) hr
            refine ⟨_, ?_, .refl rfl⟩
            simp only [execOp, ho]
            rw [hra.groundEq h3, hrb.groundEq h4, h5]
            exact run_val (by simpa using by first | exact h1 | exact h2)
          · exact asGround_sim he h
      · cases hn : nilCmp (P.underlying t) a b with
        | true =>
          rw [hn] at h
          simp only [cond_true, Option.some.injEq, Prod.mk.injEq] at h
          obtain ⟨rfl, rfl⟩ := h
          obtain ⟨_, h1, h3⟩ := nilCmp_sim (w := w) hn hra hrb
          refine ⟨.bool true, ?_, .refl rfl⟩
          simp only [execOp, ho]
          rw [eqGuard_quiet (by rcases h3 with h | h <;> simp_all)]
          exact run_val (by simpa using h1)
        | false =>
          rw [hn] at h
          simp only [cond_false, neEq] at h
          split at h
          · rename_i r hr
            simp only [Option.some.injEq, Prod.mk.injEq] at h
            obtain ⟨rfl, rfl⟩ := h
            obtain ⟨h1, h2, h3, h4, h5⟩ := boolEq_sim (w := w) hr
            refine ⟨_, ?_, .refl rfl⟩
            simp only [execOp, ho]
            rw [hra.groundEq h3, hrb.groundEq h4, h5]
            exact run_val (by simpa using by first | exact h1 | exact h2)
          · exact asGround_sim he h
      · exact asGround_sim he h
  · cases h
omit [Syms] in
theorem bytes_inv : ∀ {cs : List Value} {bs : List UInt8}, cs.mapM byteOfV = some bs → ∃ ns : List Int, cs = ns.map (Value.int .u8) ∧ bs = ns.map (fun n => UInt8.ofNat n.toNat)
  | [], bs, h => by
    simp at h
    exact ⟨[], rfl, h⟩
  | c :: cs, bs, h => by
    rw [List.mapM_cons] at h
    simp only [Option.bind_eq_bind, Option.pure_def, Option.bind_eq_some_iff, Option.some.injEq] at h
    obtain ⟨y, hy, ys, hys, rfl⟩ := h
    obtain ⟨ns, rfl, rfl⟩ := bytes_inv hys
    unfold byteOfV at hy
    split at hy
    · rename_i k
      obtain rfl := Option.some.inj hy
      exact ⟨k :: ns, rfl, rfl⟩
    · cases hy
omit [Syms] in
theorem push_fold : ∀ (ns : List Int) (l : List UInt8), ns.foldl (fun r n => r.push (UInt8.ofNat n.toNat)) (⟨l.toArray⟩ : ByteArray) = ⟨(l ++ ns.map fun n => UInt8.ofNat n.toNat).toArray⟩
  | [], l => by simp
  | n :: ns, l => by
    rw [List.foldl_cons, show (⟨l.toArray⟩ : ByteArray).push (UInt8.ofNat n.toNat) = ⟨(l ++ [UInt8.ofNat n.toNat]).toArray⟩ from by simp [ByteArray.push], push_fold ns]
    simp
theorem conv_sim (hm : MR ρ mem w) {σ : St} (hσ : σ.mem = mem) (he : Env.rel ρ e ev) {o : Oper} {s d : TypeId} {x : Operand} (ho : o.op = .convert s d x) {v : Value} {ob : Option Blk}
    (h : neConv P e σ o (e x) (P.underlying s) (P.underlying d) = some (v, ob)) : NEok P ρ nx (execOp ev o) w v ob := by
  unfold neConv at h
  split at h
  · rename_i l off n c b hx hs hd
    unfold neConv1 at h
    split at h
    · rename_i cs hb hc
      cases hq : cs.mapM byteOfV with
      | none => rw [hq] at h; cases h
      | some bs =>
        rw [hq] at h
        simp only [neConv2, Option.some.injEq, Prod.mk.injEq] at h
        obtain ⟨rfl, rfl⟩ := h
        obtain ⟨L, hL, hcs⟩ := (he x _ hx).slice_inv
        obtain ⟨ds, h1, h2, h3⟩ := cells_sim hm hσ hc hL
        obtain ⟨ns, rfl, rfl⟩ := bytes_inv hq
        have hds : ds = ns.map (Value.int .u8) := h1.cellsEq (by simp [cellGround])
        subst hds
        have key : ∀ (a : Addr) (c' : Nat), (n = 0 ∨ a = ⟨L.b, L.d + off, none⟩) → (Conv.bytesToString (.slice (some a) n c')).run P w = .ok (.string ⟨(ns.map fun n => UInt8.ofNat n.toNat).toArray⟩) w := fun a c' hac => by
          rw [run_bytesToString w a n c' ns]
          · have := push_fold ns []
            simp only [List.nil_append] at this
            rw [← this]
            rfl
          · rcases hac with rfl | rfl
            · have : ns = [] := by
                have h9 := h3
                simp at h9
                exact h9
              subst this
              rfl
            · rw [← h3, h1.length]
              exact run_loadCells_list (P := P) w _ _ (fun j v hv => by rw [Addr.add_mid]; exact h2 j v hv)
        refine ⟨.string ⟨(ns.map fun n => UInt8.ofNat n.toNat).toArray⟩, ?_, .refl rfl⟩
        have hxv : ∃ a c', ev x = .slice (some a) n c' ∧ (n = 0 ∨ a = ⟨L.b, L.d + off, none⟩) := by
          rcases hcs with ⟨_, h⟩ | ⟨_, c', _, _, h⟩ | ⟨_, h0, a, h⟩
          · exact ⟨_, _, h, Or.inr rfl⟩
          · exact ⟨_, _, h, Or.inr rfl⟩
          · exact ⟨_, _, by rw [h, h0], Or.inl h0⟩
        obtain ⟨a, c', hcv, hac⟩ := hxv
        have := key a c' hac
        simp [execOp, ho, hcv, Go.convert, run_underlying hs, run_underlying hd, run_underlying hb, this]
    · cases h
  · rename_i i j k hx hs hd
    obtain ⟨rfl, h6⟩ := asVal_some h
    obtain ⟨cv, hcv, a, n, hca, rfl⟩ := Syms.conv_ok _ _ _ h6 _ (chan_at (he x _ hx))
    refine ⟨.int k (k.wrap n), ?_, VR.ofAt hcv⟩
    simp [execOp, ho, hca, Go.convert, run_underlying hs, run_underlying hd, Conv.intToInt]
  · rename_i i j n k hx hs hd
    simp only [Option.some.injEq, Prod.mk.injEq] at h
    obtain ⟨rfl, rfl⟩ := h
    have hca := (he x _ hx).groundEq rfl
    refine ⟨_, ?_, .refl rfl⟩
    simp [execOp, ho, hca, Go.convert, run_underlying hs, run_underlying hd, Conv.intToInt]
  · exact asGround_sim he h
omit [Syms] in
theorem keyEq_now {d : TypeDesc} {k x : Value} {b : Bool} (hk : keyKind d k = true) (h : keyEq k x = some b) : Instr.sameNow d k x = some b := by
  unfold keyEq at h
  split at h
  · rename_i j a k b'
    cases hjk : decide (j = k) with
    | false => rw [hjk] at h; cases h
    | true =>
      rw [hjk] at h
      simp only [cond_true, Option.some.injEq] at h
      subst h
      have := of_decide_eq_true hjk
      subst this
      cases d <;> first | (cases hk; done) | skip
      simp [Instr.sameNow, BEq.beq]
  · rename_i a b'
    rw [lEq_eq] at h
    simp only [Option.some.injEq] at h
    subst h
    cases d <;> first | (cases hk; done) | skip
    have hb : (a == b') = decide (a.data.toList = b'.data.toList) := by
      rw [Bool.eq_iff_iff, MapKept.bytes_beq, decide_eq_true_eq]
      constructor
      · intro e; rw [e]
      · intro e
        obtain ⟨⟨a⟩⟩ := a
        obtain ⟨⟨b'⟩⟩ := b'
        simp only at e
        rw [e]
    simp only [Instr.sameNow, hb]
  · cases h
theorem mapFind_now {d : TypeDesc} {k : Value} (hk : keyKind d k = true) : ∀ {es : List (Value × Value)} {l : List MapEntry} {r : Option Value} (i : Nat), MapR ρ es l → mapFind k es = some r →
    (r = none ∧ Instr.findNow d k l i = some none) ∨ ∃ v cv j, r = some v ∧ VR ρ v cv ∧ Instr.findNow d k l i = some (some (j, cv))
  | [], l, r, i, hr, h => by
    obtain ⟨h1, _, _⟩ := hr
    cases l with
    | nil => exact .inl ⟨(Option.some.inj h).symm, rfl⟩
    | cons => cases h1
  | (x, v) :: es, l, r, i, hr, h => by
    obtain ⟨h1, h2, h3⟩ := hr
    cases l with
    | nil => cases h1
    | cons m l =>
      cases h1 with
      | cons h1 h1' =>
        cases h2 with
        | cons h2 h2' =>
          simp only [List.all_cons, Bool.and_eq_true] at h3
          have hx : m.key = x := h1.cellEq h3.1
          simp only [mapFind] at h
          split at h
          · rename_i hq
            obtain rfl := Option.some.inj h
            refine .inr ⟨v, m.val, i, rfl, h2, ?_⟩
            simp only [Instr.findNow, hx, keyEq_now hk hq]
          · rename_i hq
            have := mapFind_now hk (i + 1) ⟨h1', h2', h3.2⟩ h
            simp only [Instr.findNow, hx, keyEq_now hk hq]
            exact this
          · cases h
omit [Syms] in
theorem key_check {d : TypeDesc} {key : TypeId} {k : Value} (hk : keyKind d k = true) (hu : P.underlying key = some d) (b : Bool) : (Instr.checkKey b 10000 key k).run P w = .ok () w := by
  show (Instr.checkKey b (9999 + 1) key k).run P w = .ok () w
  unfold Instr.checkKey
  simp only [Sem.run_bind, run_underlying hu, Result.andThen]
  cases d <;> first | (cases hk; done) | skip
  all_goals
    cases k <;> first | (cases hk; done) | skip
    simp
omit [Syms] in
theorem keyKind_cell {d : TypeDesc} {k : Value} (hk : keyKind d k = true) : cellGround k = true := by
  cases d <;> first | (cases hk; done) | skip
  all_goals cases k <;> first | (cases hk; done) | rfl
theorem lookup_sim (hm : MR ρ mem w) {σ : St} (hσ : σ.mem = mem) (he : Env.rel ρ e ev) {o : Oper} {t : TypeId} {x ix : Operand} {c : Bool} (ho : o.op = .lookup t x ix c) {v : Value} {ob : Option Blk} (h : neLookup P σ c (e x) (e ix) (P.underlying t) = some (v, ob)) : NEok P ρ nx (execOp ev o) w v ob := by
  unfold neLookup at h
  split at h
  · rename_i m k key el hx hk ht
    unfold loKind at h
    split at h
    · rename_i d hu
      obtain ⟨h1, h2⟩ := bif_some h
      have hkc := (he ix _ hk).cellEq (keyKind_cell h1)
      cases hl : loMap σ m with
      | none => rw [hl] at h2; cases h2
      | some es =>
        rw [hl] at h2
        simp only [loFind] at h2
        have hes : ∃ l : List MapEntry, MapR ρ es l ∧ ((ev x = .map none ∧ l = []) ∨ ∃ b arr clock, ev x = .map (some b) ∧ w.heap[b]? = some (.map arr clock) ∧ arr.toList = l) := by
          unfold loMap at hl
          split at hl
          · obtain rfl := Option.some.inj hl
            exact ⟨[], ⟨.nil, .nil, rfl⟩, .inl ⟨(he x _ hx).groundEq rfl, rfl⟩⟩
          · rename_i l
            have hr := he x _ hx
            generalize ev x = cv at hr
            cases hr with
            | refl hg => simp [ground, cellGround] at hg
            | map hL =>
              rename_i L
              unfold loEs at hl
              split at hl
              · rename_i B hB
                split at hl
                · rename_i es' hob
                  obtain rfl := Option.some.inj hl
                  rw [hσ] at hB
                  obtain ⟨_, ⟨arr, clock, k1, k2⟩, _⟩ := hm.obj _ _ _ _ hL hB hob
                  exact ⟨arr.toList, k2, .inr ⟨_, arr, clock, rfl, k1, rfl⟩⟩
                · cases hl
              · cases hl
          · cases hl
        obtain ⟨l, hml, hcase⟩ := hes
        cases hf : mapFind k es with
        | none => rw [hf] at h2; cases h2
        | some r =>
          rw [hf] at h2
          have hnow := mapFind_now h1 0 hml hf
          have hgo : ∀ (a : Option (Nat × Value)) (rv : Value), (Instr.findKey key k l).run P w = .ok a w → (match a with | some (_, v) => (pure (v, true) : Sem (Value × Bool)) | none => do pure (← zeroValue el, false)).run P w = .ok (rv, a.isSome) w →
              (execOp ev o).run P w = .ok (.value (loRes rv a.isSome c)) w := fun a rv ha hr => by
            rcases hcase with ⟨q1, rfl⟩ | ⟨bb, arr, clock, q1, q2, rfl⟩
            · have ha' : (Instr.findKey key k #[].toList).run P w = .ok a w := ha
              simp only [execOp, ho, Instr.lookup, q1, hkc, Sem.run_bind, run_underlying ht, Result.andThen_ok, Sem.run_pure, key_check h1 hu, ha']
              cases a with
              | none =>
                simp only [Sem.run_bind] at hr
                cases hz : (zeroValue el).run P w with
                | halt _ _ => rw [hz] at hr; cases hr
                | ok z w' =>
                  rw [hz] at hr
                  simp only [Result.andThen_ok, Sem.run_pure, Result.ok.injEq, Prod.mk.injEq] at hr
                  obtain ⟨⟨rfl, _⟩, rfl⟩ := hr
                  simp [hz, loRes]
              | some x =>
                simp only [Sem.run_pure, Result.ok.injEq, Prod.mk.injEq] at hr
                obtain ⟨⟨rfl, _⟩, _⟩ := hr
                simp [loRes]
            · have hg : (getObj bb).run P w = .ok (.map arr clock) w := by simp [getObj, Sem.run, q2]
              simp only [execOp, ho, Instr.lookup, q1, hkc, Sem.run_bind, run_underlying ht, Result.andThen_ok, Sem.run_pure, key_check h1 hu, hg, ha]
              cases a with
              | none =>
                simp only [Sem.run_bind] at hr
                cases hz : (zeroValue el).run P w with
                | halt _ _ => rw [hz] at hr; cases hr
                | ok z w' =>
                  rw [hz] at hr
                  simp only [Result.andThen_ok, Sem.run_pure, Result.ok.injEq, Prod.mk.injEq] at hr
                  obtain ⟨⟨rfl, _⟩, rfl⟩ := hr
                  simp [hz, loRes]
              | some x =>
                simp only [Sem.run_pure, Result.ok.injEq, Prod.mk.injEq] at hr
                obtain ⟨⟨rfl, _⟩, _⟩ := hr
                simp [loRes]
          rcases hnow with ⟨rfl, hn⟩ | ⟨v', cv, j, rfl, hv', hn⟩
          · simp only [loVal] at h2
            split at h2
            · rename_i i hi
              split at h2
              · rename_i z hz
                obtain ⟨k1, k2⟩ := bif_some h2
                simp only [Option.some.injEq, Prod.mk.injEq] at k2
                obtain ⟨rfl, rfl⟩ := k2
                refine ⟨loRes z false c, hgo none z (MapKept.run_findKey hu hn) ?_, ?_⟩
                · simp [zeroValue, typeInfo, hi, hz]
                · cases c with
                  | false => exact .refl (cellGround_ground k1)
                  | true => exact .tuple (.cons (.refl (cellGround_ground k1)) (.cons (.refl rfl) .nil))
              · cases h2
            · cases h2
          · simp only [loVal, Option.some.injEq, Prod.mk.injEq] at h2
            obtain ⟨rfl, rfl⟩ := h2
            refine ⟨loRes cv true c, hgo (some (j, cv)) cv (MapKept.run_findKey hu hn) rfl, ?_⟩
            cases c with
            | false => exact hv'
            | true => exact .tuple (.cons hv' (.cons (.refl rfl) .nil))
    · cases h
  · cases h
/-- ALL OF THEM. -/
theorem ne_sim (hm : MR ρ mem w) {σ : St} (hσ : σ.mem = mem) (hnx : σ.next = nx) (he : Env.rel ρ e ev) {o : Oper} {v : Value} {ob : Option Blk} (h : evNE P e σ o = some (v, ob)) : NEok P ρ nx (execOp ev o) w v ob := by
  unfold evNE at h
  split at h
  · rename_i x ho
    obtain ⟨rfl, h1⟩ := asVal_some h
    exact ⟨ev x, by simp [execOp, ho], he x v h1⟩
  · rename_i x ho
    obtain ⟨rfl, h1⟩ := asVal_some h
    exact ⟨ev x, by simp [execOp, ho], he x v h1⟩
  · rename_i ho; exact pick_sim he ho h
  · rename_i ho; exact nil_sim he ho h
  · rename_i ho; exact fieldAddr_sim he ho h
  · rename_i ho; exact indexAddr_sim he ho h
  · rename_i ho; exact idx_sim he ho h
  · rename_i ho; exact slice_sim hm hσ he ho h
  · rename_i ho; exact field_sim he ho h
  · rename_i ho; exact extract_sim he ho h
  · rename_i ho; exact build_sim he ho h
  · rename_i ho; exact row_sim he ho (by rw [← hnx]; exact h)
  · rename_i ho; exact make_sim he ho (by rw [← hnx]; exact h)
  · rename_i ho; exact alloc_sim ho (by rw [← hnx]; exact h)
  · rename_i ho; exact box_sim he ho (by rw [← hnx]; exact h)
  · rename_i ho; exact load_sim hm hσ he ho h
  · rename_i ho; exact func_sim he ho h
  · rename_i ho; exact bin_sim he ho h
  · rename_i ho; exact un_sim he ho h
  · rename_i ho; exact conv_sim hm hσ he ho h
  · rename_i ho; exact len_sim he ho h
  · rename_i ho; exact lookup_sim hm hσ he ho h
  · exact asGround_sim he h
end
end Go.Proofs.YtcjolamfjgdgjaaGreatDoor.Ev
