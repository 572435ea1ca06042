/-
  Runs in pieces: what a call has left, cut to what is named; a call whose answer is known of blocks that lie there.
-/
import Derived.Test.YtcjolamfjgdgjaaGreatDoorEvLaw
namespace Go.Proofs.YtcjolamfjgdgjaaGreatDoor.Ev
open Go.RowKit

/-- Blocks by number. -/
noncomputable def mkTr : List (Nat × Blk) → Tr Blk
  | [] => .nil
  | (l, B) :: bs => (mkTr bs).put l (some B)
def findB (l : Nat) : List (Nat × Blk) → Option Blk
  | [] => none
  | (k, B) :: bs => bif Nat.beq k l then some B else findB l bs
theorem mkTr_get : ∀ (bs : List (Nat × Blk)) (l : Nat), (mkTr bs).get l = findB l bs
  | [], _ => rfl
  | (k, B) :: bs, l => by
    rw [mkTr, Tr.get_put, findB]
    by_cases e : l = k
    · subst e
      have : Nat.beq l l = true := Nat.beq_refl l
      rw [this, if_pos rfl]
      rfl
    · have : Nat.beq k l = false := by
        cases hb : Nat.beq k l with
        | false => rfl
        | true => exact absurd (Nat.eq_of_beq_eq_true hb).symm e
      rw [this, if_neg e]
      exact mkTr_get bs l
theorem findB_mem : ∀ {bs : List (Nat × Blk)} {l : Nat} {B : Blk}, findB l bs = some B → (l, B) ∈ bs
  | (k, C) :: bs, l, B, h => by
    rw [findB] at h
    cases hb : Nat.beq k l with
    | true =>
      rw [hb] at h
      obtain rfl := Nat.eq_of_beq_eq_true hb
      obtain rfl := Option.some.inj h
      exact List.mem_cons_self
    | false =>
      rw [hb] at h
      exact List.mem_cons_of_mem _ (findB_mem h)
theorem findB_append {l : Nat} {cs : List (Nat × Blk)} : ∀ {bs : List (Nat × Blk)}, (findB l cs).isSome = true → (findB l (bs ++ cs)).isSome = true
  | [], h => h
  | (k, C) :: bs, h => by
    rw [List.cons_append, findB]
    cases hb : Nat.beq k l with
    | true => rfl
    | false => exact findB_append (bs := bs) h
/-- The tables' blocks. -/
def tabsB (gs : List (Nat × List Value)) : List (Nat × Blk) := gs.map fun x => (x.1, ⟨x.2, true, 0, none⟩)
theorem tabsB_mem : ∀ (gs : List (Nat × List Value)), startMem gs = mkTr (tabsB gs)
  | [] => rfl
  | (g, cs) :: gs => by rw [startMem, tabsB_mem gs]; rfl
theorem tabsB_find : ∀ {gs : List (Nat × List Value)} {g : Nat}, (gs.find? fun x => Nat.beq x.1 g).isSome = true → (findB g (tabsB gs)).isSome = true
  | [], _, h => h
  | (k, cs) :: gs, g, h => by
    show (bif Nat.beq k g then some _ else findB g (tabsB gs)).isSome = true
    rw [List.find?_cons] at h
    cases hb : Nat.beq k g with
    | true => rfl
    | false =>
      simp only [hb] at h
      exact tabsB_find h
/-- What a cell names is there. -/
def blkIn (bs : List (Nat × Blk)) (l : Nat) : Bool := (findB l bs).isSome
def cellOk (bs : List (Nat × Blk)) : Value → Bool
  | .pointer (some ⟨l, _, none⟩) => blkIn bs l
  | .slice (some ⟨l, _, none⟩) _ _ => blkIn bs l
  | .map (some l) => blkIn bs l
  | .chan (some _) => true
  | v => cellGround v
def valOk1 (bs : List (Nat × Blk)) : Value → Bool
  | .agg cs => cs.toList.all (cellOk bs)
  | v => cellOk bs v
def valOk (bs : List (Nat × Blk)) : Value → Bool
  | .tuple vs => vs.toList.all (valOk1 bs)
  | v => valOk1 bs v
def blkOk (bs : List (Nat × Blk)) (x : Nat × Blk) : Bool := x.2.ob.isNone && x.2.cells.all (cellOk bs)
def restr (bs : List (Nat × Blk)) (ρ : Ren) : Ren := fun l => bif blkIn bs l then ρ l else none
theorem restr_in {bs : List (Nat × Blk)} {ρ : Ren} {l : Nat} (h : blkIn bs l = true) : restr bs ρ l = ρ l := by simp [restr, h]
theorem restr_some {bs : List (Nat × Blk)} {ρ : Ren} {l : Nat} {L : Loc} (h : restr bs ρ l = some L) : ρ l = some L ∧ ∃ B, findB l bs = some B := by
  unfold restr at h
  cases hb : blkIn bs l with
  | true =>
    rw [hb] at h
    exact ⟨h, Option.isSome_iff_exists.1 hb⟩
  | false => rw [hb] at h; cases h
section
variable [Syms] {gl : Nat} {ρ : Ren} {bs : List (Nat × Blk)}
theorem VR.restr1 {v c : Value} (h : VR ρ v c) (k : cellOk bs v = true) : VR (restr bs ρ) v c := by
  cases h with
  | refl hg => exact .refl hg
  | ptr hl => exact .ptr ((restr_in k).trans hl)
  | slice hl hc => exact .slice ((restr_in k).trans hl) hc
  | own hl hn hm => exact .own ((restr_in k).trans hl) hn hm
  | emp hl => exact .emp ((restr_in k).trans hl)
  | sym hs hc => exact .sym hs hc
  | map hl => exact .map ((restr_in k).trans hl)
  | func h1 h2 =>
    rename_i f a b a' b'
    have k' : cellGround (.func (.func f) ⟨a⟩ ⟨b⟩) = true := k
    rw [VR.cellEq (.func h1 h2) k']
    exact .refl (cellGround_ground k')
  | agg _ => cases k
  | tuple _ => cases k
  | yld _ => cases k
theorem VRs.restr1 : ∀ {v c : List Value}, VRs ρ v c → v.all (cellOk bs) = true → VRs (restr bs ρ) v c
  | _, _, .nil, _ => .nil
  | _, _, .cons h hs, k => by
    rw [List.all_cons, Bool.and_eq_true] at k
    exact .cons (h.restr1 k.1) (VRs.restr1 hs k.2)
theorem VR.restr2 {v c : Value} (h : VR ρ v c) (k : valOk1 bs v = true) : VR (restr bs ρ) v c := by
  unfold valOk1 at k
  split at k
  · cases h with
    | refl hg => exact .refl hg
    | agg hs => exact .agg (hs.restr1 k)
  · exact h.restr1 k
theorem VRs.restr2 : ∀ {v c : List Value}, VRs ρ v c → v.all (valOk1 bs) = true → VRs (restr bs ρ) v c
  | _, _, .nil, _ => .nil
  | _, _, .cons h hs, k => by
    rw [List.all_cons, Bool.and_eq_true] at k
    exact .cons (h.restr2 k.1) (VRs.restr2 hs k.2)
theorem VR.restr3 {v c : Value} (h : VR ρ v c) (k : valOk bs v = true) : VR (restr bs ρ) v c := by
  unfold valOk at k
  split at k
  · cases h with
    | refl hg => exact .refl hg
    | tuple hs => exact .tuple (hs.restr2 k)
  · exact h.restr2 k
theorem VRs.restr3 : ∀ {v c : List Value}, VRs ρ v c → v.all (valOk bs) = true → VRs (restr bs ρ) v c
  | _, _, .nil, _ => .nil
  | _, _, .cons h hs, k => by
    rw [List.all_cons, Bool.and_eq_true] at k
    exact .cons (h.restr3 k.1) (VRs.restr3 hs k.2)
/-- Memory cut to some blocks. -/
theorem MR.restr {mem : Tr Blk} {w : World} (h : MR ρ mem w) (hok : bs.all (blkOk bs) = true)
    (hsub : ∀ l B, findB l bs = some B → ∃ B', mem.get l = some B' ∧ B.cells = B'.cells ∧ B.es = B'.es ∧ (B.ro = B'.ro ∨ B.ro = true))
    (hro : (∀ l B B', findB l bs = some B → mem.get l = some B' → B.ro = B'.ro) ∨ ∀ l B, findB l bs = some B → B.ro = true) : MR (restr bs ρ) (mkTr bs) w := by
  have hcl : ∀ l B, findB l bs = some B → B.ob = none ∧ B.cells.all (cellOk bs) = true := fun l B hl => by
    have := List.all_eq_true.1 hok _ (findB_mem hl)
    unfold blkOk at this
    rw [Bool.and_eq_true] at this
    exact ⟨by simpa using this.1, this.2⟩
  refine ⟨fun l L hl => ?_, fun l l' L L' hl hl' hb hn => ?_, fun l L B o hl hg ho => ?_⟩
  · obtain ⟨hl, B, hB⟩ := restr_some hl
    obtain ⟨B', k1, k2, k3, k4⟩ := hsub l B hB
    obtain ⟨B'', h1, h2, h3, h4, h5, h6⟩ := h.blk l L hl
    obtain rfl := Option.some.inj (k1.symm.trans h1)
    refine ⟨B, by rw [mkTr_get]; exact hB, k3.trans h2, by rw [k2]; exact h3, h4, fun hr => h5 ?_, fun i v hv => ?_⟩
    · rcases k4 with k4 | k4
      · rw [← k4]; exact hr
      · rw [k4] at hr; cases hr
    · have hv' := hv
      rw [k2] at hv'
      obtain ⟨c, c1, c2⟩ := h6 i v hv'
      refine ⟨c, c1, c2.restr1 ?_⟩
      exact List.all_eq_true.1 (hcl l B hB).2 v (List.mem_of_getElem? hv)
  · obtain ⟨hl, B, hB⟩ := restr_some hl
    obtain ⟨hl', C, hC⟩ := restr_some hl'
    have gB : (mkTr bs).get l = some B := by rw [mkTr_get]; exact hB
    have gC : (mkTr bs).get l' = some C := by rw [mkTr_get]; exact hC
    rcases hro with hro | hro
    · obtain ⟨B', b1, b2, _, _⟩ := hsub l B hB
      obtain ⟨C', c1, c2, _, _⟩ := hsub l' C hC
      have rB := hro l B B' hB b1
      have rC := hro l' C C' hC c1
      rcases h.inj l l' L L' hl hl' hb hn with k | k | ⟨k, k'⟩
      · refine .inl fun D hD => ?_
        obtain rfl := Option.some.inj (gB.symm.trans hD)
        rw [rB, b2]; exact k _ b1
      · refine .inr (.inl fun D hD => ?_)
        obtain rfl := Option.some.inj (gC.symm.trans hD)
        rw [rC, c2]; exact k _ c1
      · refine .inr (.inr ⟨fun D hD => ?_, fun D hD => ?_⟩)
        · obtain rfl := Option.some.inj (gB.symm.trans hD)
          rw [rB]; exact k _ b1
        · obtain rfl := Option.some.inj (gC.symm.trans hD)
          rw [rC]; exact k' _ c1
    · refine .inr (.inr ⟨fun D hD => ?_, fun D hD => ?_⟩)
      · obtain rfl := Option.some.inj (gB.symm.trans hD)
        exact hro l _ hB
      · obtain rfl := Option.some.inj (gC.symm.trans hD)
        exact hro l' _ hC
  · obtain ⟨hl, B', hB⟩ := restr_some hl
    rw [mkTr_get, hB] at hg
    obtain rfl := Option.some.inj hg
    rw [(hcl l _ hB).1] at ho
    cases ho
end
/-- Is the block there, as it was? -/
noncomputable def asWas (mem : Tr Blk) (x : Nat × Blk) : Bool := match mem.get x.1 with
  | some B => sameCells x.2.cells B.cells && Nat.beq x.2.es B.es && (x.2.ro == B.ro)
  | none => false
noncomputable def asRead (mem : Tr Blk) (x : Nat × Blk) : Bool := match mem.get x.1 with
  | some B => sameCells x.2.cells B.cells && Nat.beq x.2.es B.es
  | none => false
theorem asWas_sub {mem : Tr Blk} {bs : List (Nat × Blk)} (h : bs.all (asWas mem) = true) : ∀ l B, findB l bs = some B → ∃ B', mem.get l = some B' ∧ B.cells = B'.cells ∧ B.es = B'.es ∧ B.ro = B'.ro := by
  intro l B hl
  have := List.all_eq_true.1 h _ (findB_mem hl)
  unfold asWas at this
  split at this
  · rename_i B' hB
    simp only [Bool.and_eq_true, beq_iff_eq] at this
    exact ⟨B', hB, sameCells_eq this.1.1, Nat.eq_of_beq_eq_true this.1.2, this.2⟩
  · cases this
theorem asRead_sub {mem : Tr Blk} {bs : List (Nat × Blk)} (h : bs.all (asRead mem) = true) : ∀ l B, findB l bs = some B → ∃ B', mem.get l = some B' ∧ B.cells = B'.cells ∧ B.es = B'.es := by
  intro l B hl
  have := List.all_eq_true.1 h _ (findB_mem hl)
  unfold asRead at this
  split at this
  · rename_i B' hB
    simp only [Bool.and_eq_true] at this
    exact ⟨B', hB, sameCells_eq this.1, Nat.eq_of_beq_eq_true this.2⟩
  · cases this
def sameVs : List Value → List Value → Bool
  | [], [] => true
  | a :: l, b :: m => sameV a b && sameVs l m
  | _, _ => false
def sameT : Value → Value → Bool
  | .tuple a, .tuple b => sameVs a.toList b.toList
  | a, b => sameV a b
theorem sameVs_eq : ∀ {a b : List Value}, sameVs a b = true → a = b
  | [], [], _ => rfl
  | [], _ :: _, h => by cases h
  | _ :: _, [], h => by cases h
  | a :: l, b :: m, h => by
    rw [sameVs, Bool.and_eq_true] at h
    rw [sameV_eq h.1, sameVs_eq h.2]
theorem sameT_eq {a b : Value} (h : sameT a b = true) : a = b := by
  unfold sameT at h
  split at h
  · rename_i a b
    have := sameVs_eq h
    obtain ⟨a⟩ := a
    obtain ⟨b⟩ := b
    simp only at this
    rw [this]
  · exact sameV_eq h
/-- What a call from the start has left, cut to some blocks. -/
noncomputable def litRun (nw : List (Nat × Blk)) (gs : List (Nat × List Value)) (v : Value) (N : Nat) : Option (Value × St) → Bool
  | some (v', σ') => sameT v v' && Nat.beq N σ'.next && ((nw ++ tabsB gs).all (asWas σ'.mem) && (nw ++ tabsB gs).all (blkOk (nw ++ tabsB gs))) && valOk (nw ++ tabsB gs) v
  | none => false
noncomputable def litSt (nw : List (Nat × Blk)) (gs : List (Nat × List Value)) (N : Nat) : St := ⟨mkTr (nw ++ tabsB gs), N⟩
theorem lit_ok [Syms] {P : Program} {gl : Nat} {w0 : World} {call : CallF} (hc : CallOK P gl w0 call) {F : FuncId} {as : List Value} {gs : List (Nat × List Value)} {next N : Nat} {nw : List (Nat × Blk)} {v : Value}
    (h : litRun nw gs v N (call F as ⟨startMem gs, next⟩) = true) : CallOK P gl w0 (memo F as ⟨startMem gs, next⟩ (v, litSt nw gs N)) := by
  intro f args σ u σ' hq opn ρ w cargs hs ha
  unfold memo at hq
  obtain ⟨h1, h2⟩ := bif_some hq
  simp only [Bool.and_eq_true] at h1
  obtain rfl := Nat.eq_of_beq_eq_true h1.1.1
  obtain rfl := sameCells_eq h1.1.2
  obtain rfl := sameSt_eq h1.2
  simp only [Option.some.injEq, Prod.mk.injEq] at h2
  obtain ⟨rfl, rfl⟩ := h2
  cases hr : call f args ⟨startMem gs, next⟩ with
  | none => rw [hr] at h; cases h
  | some r =>
    obtain ⟨v', σ''⟩ := r
    rw [hr] at h
    simp only [litRun, Bool.and_eq_true] at h
    obtain ⟨⟨⟨e1, e2⟩, e3, e4⟩, e5⟩ := h
    obtain rfl := sameT_eq e1
    obtain rfl := Nat.eq_of_beq_eq_true e2
    have hsub := asWas_sub e3
    refine (hc f args _ _ σ'' hr opn ρ w cargs hs ha).mono ?_
    rintro e w' ⟨ρ', cv, rfl, hx, hv, hs'⟩
    have hdom : ∀ l L, ρ l = some L → blkIn (nw ++ tabsB gs) l = true := fun l L hl => by
      obtain ⟨B, hB, _⟩ := hs.mr.blk l L hl
      simp only at hB
      rw [tabsB_mem, mkTr_get] at hB
      exact findB_append (by rw [hB]; rfl)
    refine ⟨restr (nw ++ tabsB gs) ρ', cv, rfl, ⟨fun l hl => ?_, hx.next, fun l hl hn => ?_⟩, hv.restr3 e5, ⟨hs'.mr.restr e4 (fun l B hB => ?_) (.inl fun l B B' hB hB' => ?_), fun l L hl => hs'.dom l L (restr_some hl).1, fun l L B hl hB hr => ?_, fun g hg => ?_, hs'.old, hs'.opn⟩⟩
    · cases hρ : ρ l with
      | some L => rw [restr_in (hdom l L hρ), hx.same l hl, hρ]
      | none =>
        have := hx.same l hl
        rw [hρ] at this
        unfold restr
        rw [this]
        cases blkIn (nw ++ tabsB gs) l <;> rfl
    · have hm := hx.mem l hl hn
      show (mkTr (nw ++ tabsB gs)).get l = (startMem gs).get l
      rw [mkTr_get]
      have hm' : σ''.mem.get l = (startMem gs).get l := hm
      cases hq : (startMem gs).get l with
      | none =>
        rw [hq] at hm'
        cases hf : findB l (nw ++ tabsB gs) with
        | none => rfl
        | some B =>
          obtain ⟨B', k1, _⟩ := hsub l B hf
          rw [k1] at hm'; cases hm'
      | some C =>
        rw [hq] at hm'
        have hin : (findB l (nw ++ tabsB gs)).isSome = true := findB_append (by rw [← mkTr_get, ← tabsB_mem, hq]; rfl)
        obtain ⟨B, hB⟩ := Option.isSome_iff_exists.1 hin
        obtain ⟨B', k1, k2, k3, k4⟩ := hsub l B hB
        obtain rfl := Option.some.inj (k1.symm.trans hm')
        have hob := (List.all_eq_true.1 e4 _ (findB_mem hB))
        unfold blkOk at hob
        rw [Bool.and_eq_true] at hob
        have o1 : B.ob = none := by simpa using hob.1
        have o2 : B'.ob = none := by
          rw [start_mem] at hq
          obtain ⟨y, _, rfl⟩ := Option.map_eq_some_iff.1 hq
          rfl
        rw [hB]
        obtain ⟨a, b, c, d⟩ := B
        obtain ⟨a', b', c', d'⟩ := B'
        simp only at k2 k3 k4 o1 o2
        subst k2 k3 k4 o1 o2
        rfl
    · obtain ⟨B', k1, k2, k3, k4⟩ := hsub l B hB
      exact ⟨B', k1, k2, k3, .inl k4⟩
    · obtain ⟨B'', k1, _, _, k4⟩ := hsub l B hB
      obtain rfl := Option.some.inj (k1.symm.trans hB')
      exact k4
    · obtain ⟨hl, C, hC⟩ := restr_some hl
      have hB' : (mkTr (nw ++ tabsB gs)).get l = some B := hB
      rw [mkTr_get, hC] at hB'
      obtain rfl := Option.some.inj hB'
      obtain ⟨B', k1, k2, k3, k4⟩ := hsub l C hC
      refine hs'.own l L B' hl k1 ?_
      rcases hr with hr | hr
      · exact .inl (k4 ▸ hr)
      · have hob := (List.all_eq_true.1 e4 _ (findB_mem hC))
        unfold blkOk at hob
        rw [Bool.and_eq_true] at hob
        have o1 : C.ob = none := by simpa using hob.1
        rw [o1] at hr; cases hr
    · obtain ⟨L, k1, k2, k3⟩ := hs'.glob g hg
      obtain ⟨L0, k4, _⟩ := hs.glob g hg
      exact ⟨L, (restr_in (hdom g L0 k4)).trans k1, k2, k3⟩
/-- A call whose answer hangs on blocks that lie there, and that leaves them. -/
noncomputable def quietLit (F : FuncId) (as : List Value) (bs : List (Nat × Blk)) (v : Value) : Oracle := fun f args σ =>
  bif Nat.beq f F && sameVs args as && bs.all (asRead σ.mem) then some (v, σ) else none
def answers (v : Value) : Option (Value × St) → Bool
  | some (v', _) => sameV v v' && ground v
  | none => false
def litOk (bs : List (Nat × Blk)) (N : Nat) (as : List Value) : Bool := bs.all (fun x => x.2.ro && Nat.ble (x.1 + 1) N && blkOk bs x) && as.all (valOk bs)
theorem quietLit_ok [Syms] {P : Program} {gl : Nat} {w0 : World} {call : CallF} {gs : List (Nat × List Value)} (hg : GlobIs gs w0) (hc : ∀ w, GlobIs gs w → CallOK P gl w call) {F : FuncId} {as : List Value} {next N : Nat} (hst : startOk gs gl next = true) {nw : List (Nat × Blk)} {v : Value}
    (hok : litOk (nw ++ tabsB gs) N as = true) (h : answers v (call F as (litSt nw gs N)) = true) : CallOK P gl w0 (quietLit F as (nw ++ tabsB gs) v) := by
  intro f args σ u σ' hq opn ρ w cargs hs ha
  unfold quietLit at hq
  obtain ⟨h1, h2⟩ := bif_some hq
  simp only [Bool.and_eq_true] at h1
  obtain rfl := Nat.eq_of_beq_eq_true h1.1.1
  obtain rfl := sameVs_eq h1.1.2
  have hsub := asRead_sub h1.2
  simp only [Option.some.injEq, Prod.mk.injEq] at h2
  obtain ⟨rfl, rfl⟩ := h2
  unfold litOk at hok
  rw [Bool.and_eq_true] at hok
  have each : ∀ x ∈ nw ++ tabsB gs, x.2.ro = true ∧ x.1 < N ∧ blkOk (nw ++ tabsB gs) x = true := fun x hx => by
    have := List.all_eq_true.1 hok.1 x hx
    simp only [Bool.and_eq_true] at this
    exact ⟨this.1.1, Nat.le_of_ble_eq_true this.1.2, this.2⟩
  have hro : ∀ l B, findB l (nw ++ tabsB gs) = some B → B.ro = true := fun l B hB => (each _ (findB_mem hB)).1
  have hsr : SR gl ⟨w, fun _ => False⟩ (restr (nw ++ tabsB gs) ρ) (litSt nw gs N) w := by
    refine ⟨hs.mr.restr (List.all_eq_true.2 fun x hx => (each x hx).2.2) (fun l B hB => ?_) (.inr hro), fun l L hl => ?_, fun l L B hl hB hr => ?_, fun g hgb => ?_, Below.refl _ _, fun D hD => hD.elim⟩
    · obtain ⟨B', k1, k2, k3⟩ := hsub l B hB
      exact ⟨B', k1, k2, k3, .inr (hro l B hB)⟩
    · obtain ⟨_, B, hB⟩ := restr_some hl
      exact (each _ (findB_mem hB)).2.1
    · have hB' : (mkTr (nw ++ tabsB gs)).get l = some B := hB
      rw [mkTr_get] at hB'
      rcases hr with hr | hr
      · rw [hro l B hB'] at hr; cases hr
      · have hob := (each _ (findB_mem hB')).2.2
        unfold blkOk at hob
        rw [Bool.and_eq_true] at hob
        have o1 : B.ob = none := by simpa using hob.1
        rw [o1] at hr; cases hr
    · obtain ⟨L, k1, k2, k3⟩ := hs.glob g hgb
      refine ⟨L, (restr_in ?_).trans k1, k2, k3⟩
      unfold startOk at hst
      rw [Bool.and_eq_true, Bool.and_eq_true] at hst
      obtain ⟨⟨_, s2⟩, s3⟩ := hst
      have hlt : g < next := by
        have hgb' := hgb
        rw [bitOf_eq] at hgb'
        have h4 := Nat.le_of_ble_eq_true s3
        rcases Nat.lt_or_ge g next with h | h
        · exact h
        · have : gl < 2 ^ g := Nat.lt_of_lt_of_le (by omega) (Nat.pow_le_pow_right (by omega) h)
          rw [Nat.testBit_lt_two_pow this] at hgb'
          cases hgb'
      exact findB_append (tabsB_find (of_decide_eq_true s2 g hlt hgb))
  cases hr : call f args (litSt nw gs N) with
  | none => rw [hr] at h; cases h
  | some r =>
    obtain ⟨v', σ''⟩ := r
    rw [hr] at h
    simp only [answers, Bool.and_eq_true] at h
    obtain rfl := sameV_eq h.1
    refine (hc w (hg.keep hs.old) f args _ _ σ'' hr (fun _ => False) _ w cargs hsr (ha.restr3 hok.2)).mono ?_
    rintro e w' ⟨ρ', cv, rfl, _, hv, hs'⟩
    obtain rfl := hv.groundEq h.2
    exact ⟨ρ, _, rfl, Ext.refl _ _, .refl h.2, hs.quiet hs'.old⟩
/-- Calls of a string or two with a known answer. -/
noncomputable def strOrc (F : FuncId) (names : List (List UInt8)) : FuncId → List Value → Option Value := fun f args => match args with
  | [.string s] => bif Nat.beq f F && names.any (lEq s.data.toList) then some (.bool true) else none
  | _ => none
end Go.Proofs.YtcjolamfjgdgjaaGreatDoor.Ev
