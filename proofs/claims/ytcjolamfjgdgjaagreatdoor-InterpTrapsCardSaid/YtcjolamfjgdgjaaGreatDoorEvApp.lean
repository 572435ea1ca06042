/-
  append.
-/
import Derived.Test.YtcjolamfjgdgjaaGreatDoorEvEff
import Derived.Deep.Upon
namespace Go.Proofs.YtcjolamfjgdgjaaGreatDoor.Ev
open Go.RowKit
variable [Syms]
section
variable {P : Program} {gl : Nat} {w0 : Bs} {ρ : Ren} {e : Env} {σ σ' : St} {w : World}

theorem grow_sim (hs : SR gl w0 ρ σ w) {t tx ty el : TypeId} {inf : TypeInfo} {z : Value} (ht : P.underlying t = some (.slice el)) (hi : P.info? el = some inf) (hz : inf.zero = some z) (hzs : z.cells.size = inf.size) (hby : inf.bytes ≤ 4096)
    {base : Option Addr} {n c m : Nat} {old new olds us : List Value} {cx : Value} (hold : ∀ w' : World, (∀ a, w'.cell? a = w.cell? a) → (Builtin.firstCells inf.size n (.slice base n c)).run P w' = .ok olds.toArray w') (holds : VRs ρ old olds) (hol : old.length = n * inf.size)
    (hsrc : Src P inf.size tx cx m us w) (hus : VRs ρ new us) (hc : c < n + m) (hb : n + m ≤ 1000000) :
    ∃ ρ' cv w', (Builtin.append_ #[t, tx] ty #[.slice base n c, cx]).run P w = .ok cv w' ∧ (∃ L, ρ' = upd ρ σ.next L) ∧ VR ρ' (.slice (some ⟨σ.next, 0, none⟩) (n + m) ucap) cv ∧ SR gl w0 ρ' (σ.new ⟨old ++ new, false, inf.size, none⟩) w' := by
  have hmul : (n + m) * inf.bytes ≤ 1000000 * 4096 := Nat.mul_le_mul hb hby
  have hr := run_append_grow_src (P := P) w t tx ty el inf z ht hi hz base n c olds (hold w.drew (fun _ => rfl)) cx m us hsrc hc (by omega) (growslice_fits hc (by omega))
  have hlen : (olds ++ us).length = (n + m) * inf.size := by
    rw [List.length_append, ← holds.length, hol, hsrc.newsLen, Nat.add_mul]
  have hcap : n + m ≤ grownCap w (n + m) c el := Nat.le_add_right _ _
  have hzc : (Builtin.zeroCells z.cells (grownCap w (n + m) c el - (n + m))).size = (grownCap w (n + m) c el - (n + m)) * inf.size := by simp [Builtin.zeroCells, hzs]
  have hrel := holds.append hus
  have hsz : ((olds ++ us).toArray ++ Builtin.zeroCells z.cells (grownCap w (n + m) c el - (n + m))).size = grownCap w (n + m) c el * inf.size := by
    rw [Array.size_append, hzc, List.size_toArray, hlen, ← Nat.add_mul]
    congr 1
    omega
  have hf := hs.drew.fresh (B := ⟨old ++ new, false, inf.size, none⟩) ⟨rfl, rfl⟩ ((olds ++ us).toArray ++ Builtin.zeroCells z.cells (grownCap w (n + m) c el - (n + m))) el (by
    simp only
    rw [hrel.length, Array.size_append, List.size_toArray]
    omega) (fun i v hv => by
    obtain ⟨y, hy, hyr⟩ := hrel.at i v hv
    refine ⟨y, ?_, hyr⟩
    have hlt := (List.getElem?_eq_some_iff.1 hy).1
    rw [Array.getElem?_append_left (by simpa using hlt)]
    simpa using hy)
  refine ⟨_, _, _, hr, ⟨_, rfl⟩, ?_, hf⟩
  rw [hsz]
  have := VR.own (ρ := upd ρ σ.next ⟨w.drew.heap.size, 0, grownCap w (n + m) c el * inf.size, inf.size⟩) (o := 0) (n := n + m) (c := grownCap w (n + m) c el) (upd_same _ _ _) hcap (by simp)
  simpa using this
theorem append_sim (hs : SR gl w0 ρ σ w) {t tx ty : TypeId} {s cs x cx v : Value} (hk : (∃ e', P.underlying tx = some (.slice e')) ∨ P.underlying tx = some .string) (hsv : VR ρ s cs) (hxv : VR ρ x cx) (h : appendV P σ s x (P.underlying t) = some (v, σ')) :
    ∃ ρ' cv w', (Builtin.append_ #[t, tx] ty #[cs, cx]).run P w = .ok cv w' ∧ Ext ρ σ ρ' σ' ∧ VR ρ' v cv ∧ SR gl w0 ρ' σ' w' := by
  unfold appendV at h
  split at h
  · rename_i el ht
    unfold apInf at h
    split at h
    · rename_i inf hi
      split at h
      · rename_i z hz
        obtain ⟨h1, h2⟩ := bif_some h
        rw [Bool.and_eq_true, Bool.and_eq_true, Bool.and_eq_true] at h1
        obtain ⟨⟨⟨k1, k2⟩, k3⟩, k4⟩ := h1
        have k1 := Nat.le_of_ble_eq_true k1
        have k3 := Nat.le_of_ble_eq_true k3
        have k4 := Nat.eq_of_beq_eq_true k4
        cases hsrc : srcOf σ inf.size x with
        | none => rw [hsrc] at h2; cases h2
        | some mn =>
          obtain ⟨m, new⟩ := mn
          rw [hsrc] at h2
          obtain ⟨us, hsr, hus⟩ := src_sim (P := P) hs.mr hxv hsrc hk
          simp only [apSrc] at h2
          unfold apGo at h2
          split at h2
          · rename_i n c
            obtain ⟨g1, g2⟩ := bif_some h2
            rw [Bool.and_eq_true, Bool.and_eq_true] at g1
            obtain ⟨⟨e1, e2⟩, e3⟩ := g1
            obtain rfl := Nat.eq_of_beq_eq_true e1
            obtain rfl := Nat.eq_of_beq_eq_true e2
            have e3 := Nat.le_of_ble_eq_true e3
            obtain rfl := hsv.groundEq rfl
            cases hm0 : Nat.beq m 0 with
            | true =>
              rw [hm0] at g2
              obtain rfl := Nat.eq_of_beq_eq_true hm0
              simp only [cond_true, Option.some.injEq, Prod.mk.injEq] at g2
              obtain ⟨rfl, rfl⟩ := g2
              have hnil : us = [] := List.length_eq_zero_iff.1 (by rw [hsr.newsLen]; simp)
              subst hnil
              exact ⟨ρ, _, w, run_append_nothing w t tx ty el inf ht hi none 0 0 (Nat.le_refl _) cx hsr, Ext.refl _ _, .refl rfl, hs⟩
            | false =>
              rw [hm0] at g2
              simp only [cond_false, Option.some.injEq, Prod.mk.injEq] at g2
              obtain ⟨rfl, rfl⟩ := g2
              have hm1 : 0 < m := by
                rcases Nat.eq_zero_or_pos m with h | h
                · subst h; cases hm0
                · exact h
              obtain ⟨ρ', cv, w', r1, ⟨L, rfl⟩, r3, r4⟩ := grow_sim (ty := ty) hs ht hi hz k4 k3 (base := none) (n := 0) (c := 0) (old := []) (olds := []) (fun w' _ => run_firstCells_none w' _ _ _ _) .nil (by simp) hsr hus (by omega) (by omega)
              rw [Nat.zero_add] at r3
              exact ⟨_, cv, w', r1, Ext.fresh _ _, r3, r4⟩
          · rename_i l o n c
            cases hcs : cellsAt σ l o (Nat.mul n inf.size) with
            | none => rw [hcs] at h2; cases h2
            | some old =>
              cases hB : σ.mem.get l with
              | none => rw [hcs, hB] at h2; cases h2
              | some B =>
                rw [hcs, hB] at h2
                obtain ⟨g1, g2⟩ := bif_some h2
                rw [Bool.and_eq_true, Bool.and_eq_true, Bool.and_eq_true] at g1
                obtain ⟨⟨⟨e1, e2⟩, e3⟩, e4⟩ := g1
                have e1 := Nat.eq_of_beq_eq_true e1
                have e2 : B.ro = false := by simpa using e2
                have e3 : n + m ≤ 1000000 := Nat.le_of_ble_eq_true e3
                have e4 : c ≤ ucap := Nat.le_of_ble_eq_true e4
                obtain ⟨L, hL, hcv⟩ := hsv.slice_inv
                obtain ⟨olds, q1, q2, q3⟩ := cells_sim hs.mr rfl hcs hL
                have q3 : old.length = n * inf.size := q3
                obtain ⟨B', hB', hes, hlen, hlt, hth, _⟩ := hs.mr.blk l L hL
                obtain rfl : B = B' := Option.some.inj (hB.symm.trans hB')
                have hth := hth e2
                have hfirst : ∀ (a : Addr) (c' : Nat), (n = 0 ∨ a = ⟨L.b, L.d + o, none⟩) → ∀ w' : World, (∀ a, w'.cell? a = w.cell? a) → (Builtin.firstCells inf.size n (.slice (some a) n c')).run P w' = .ok olds.toArray w' := fun a c' hac w' hw' => by
                  refine run_firstCells_some w' inf.size n a n c' olds (by rw [← q1.length]; exact q3) (fun j u hj => ?_)
                  rcases hac with rfl | rfl
                  · have : olds = [] := List.length_eq_zero_iff.1 (by rw [← q1.length, q3]; simp)
                    rw [this] at hj; simp at hj
                  · rw [Addr.add_mid, hw']; exact q2 j u hj
                cases hcu : Nat.beq c ucap with
                | true =>
                  rw [hcu] at g2
                  obtain rfl := Nat.eq_of_beq_eq_true hcu
                  cases hmz : Nat.beq m 0 with
                  | true =>
                    simp only [apCap, hmz, cond_true, Option.some.injEq, Prod.mk.injEq] at g2
                    obtain ⟨rfl, rfl⟩ := g2
                    obtain rfl := Nat.eq_of_beq_eq_true hmz
                    have hnil : us = [] := List.length_eq_zero_iff.1 (by rw [hsr.newsLen]; simp)
                    subst hnil
                    rcases hcv with ⟨hlt', _⟩ | ⟨_, c', hn, hmm, rfl⟩ | ⟨_, rfl, a, rfl⟩
                    · exact absurd hlt' (Nat.lt_irrefl _)
                    · exact ⟨ρ, _, w, run_append_nothing w t tx ty el inf ht hi (some ⟨L.b, L.d + o, none⟩) n c' hn cx hsr, Ext.refl _ _, .own hL hn hmm, hs⟩
                    · exact ⟨ρ, _, w, run_append_nothing w t tx ty el inf ht hi (some a) 0 0 (Nat.le_refl _) cx hsr, Ext.refl _ _, .emp hL, hs⟩
                  | false =>
                  simp only [apCap, hmz, cond_false, Option.some.injEq, Prod.mk.injEq] at g2
                  obtain ⟨rfl, rfl⟩ := g2
                  have hkill := hs.killed hL hB
                  rcases hcv with ⟨hlt', _⟩ | ⟨_, c', hn, hmm, rfl⟩ | ⟨_, rfl, a, rfl⟩
                  · exact absurd hlt' (Nat.lt_irrefl _)
                  · by_cases hroom : n + m ≤ c'
                    · have hes' : inf.size = L.es := by rw [← e1, hes]
                      have hmuls : (n + m) * inf.size ≤ c' * inf.size := Nat.mul_le_mul_right _ hroom
                      have hadd := Nat.add_mul n m inf.size
                      rw [← hes'] at hmm
                      have hspace : ∀ j, j < us.length → (w.cell? ⟨L.b, L.d + o + n * inf.size + j, none⟩).isSome = true ∧ w.frozen? ⟨L.b, L.d + o + n * inf.size + j, none⟩ = false := fun j hj => by
                        rw [hsr.newsLen] at hj
                        rw [show L.d + o + n * inf.size + j = L.d + (o + n * inf.size + j) by omega]
                        exact hth _ (by omega)
                      have hr := run_append_room_src (P := P) w t tx ty el inf ht hi L.b (L.d + o) n c' cx m us hsr hroom (fun j hj => (hspace j hj).1) (fun j hj => (hspace j hj).2)
                      -- the cells are stored, then the block goes on under its new name
                      have hown := hs.own l L B hL hB (.inl e2)
                      have hsome : ∀ j, j < us.length → (w.cell? ⟨L.b, L.d + o + n * inf.size + j, none⟩).isSome = true := fun j hj => (hspace j hj).1
                      have hdead : ∀ y Y, ρ y = some Y → Y.b = L.b → y ≠ l → ∀ B'', σ.mem.get y = some B'' → B''.ro = true ∧ B''.cells = [] := fun y Y hy hb hne B'' hg => by
                        rcases hs.mr.inj y l Y L hy hL hb hne with hd | hd | hd
                        · exact hd B'' hg
                        · rw [(hd B hB).1] at e2; cases e2
                        · rw [hd.2 B hB] at e2; cases e2
                      have hst : SR gl w0 ρ ⟨σ.mem.put l (some ⟨[], false, B.es, none⟩), σ.next⟩ (w.setCells L.b (L.d + o + n * inf.size) us) := by
                        refine ⟨⟨fun y Y hy => ?_, fun y y' Y Y' hy hy' hb hn => ?_, fun y Y B' o' hy hg ho' => ?_⟩, hs.dom, fun y Y B' hy hg hr' => ?_, hs.glob, Below.setCells hown us _ hs.old, hs.opn_setCells _ _ _⟩
                        rotate_left 2
                        · by_cases ey : y = l
                          · subst ey
                            simp only at hg
                            rw [Tr.get_put_same] at hg
                            obtain rfl := Option.some.inj hg
                            cases ho'
                          · simp only at hg
                            rw [Tr.get_put_other _ _ ey] at hg
                            obtain ⟨k1, k2, k3⟩ := hs.mr.obj y Y B' o' hy hg ho'
                            exact ⟨k1, k2.world (setCells_noCells _ _ _ _ _ k2.noCells), k3⟩
                        rotate_right 2
                        · by_cases ey : y = l
                          · subst ey
                            obtain rfl := Option.some.inj (hL.symm.trans hy)
                            refine ⟨_, Tr.get_put_same _ _ _, hes, Nat.zero_le _, by rw [setCells_heap]; exact hlt, (fun _ j hj => ⟨setCells_isSome hsome rfl (hth j hj).1, by rw [World.frozen?_setCells]; exact (hth j hj).2⟩), (fun i v hi => by simp at hi)⟩
                          · obtain ⟨B', b1, b2, b3, b4, b5, b6⟩ := hs.mr.blk y Y hy
                            refine ⟨B', by rw [Tr.get_put_other _ _ ey]; exact b1, b2, b3, by rw [setCells_heap]; exact b4, (fun hr' j hj => ⟨setCells_isSome hsome rfl (b5 hr' j hj).1, by rw [World.frozen?_setCells]; exact (b5 hr' j hj).2⟩), (fun i v hi => ?_)⟩
                            obtain ⟨y', hy', hyr⟩ := b6 i v hi
                            refine ⟨y', ?_, hyr⟩
                            by_cases hbb : Y.b = L.b
                            · rw [(hdead y Y hy hbb ey B' b1).2] at hi; simp at hi
                            · rw [World.cell?_setCells_out L.b us _ w _ (fun hq _ => absurd hq hbb)]
                              exact hy'
                        · have key : ∀ y, (∀ B, σ.mem.get y = some B → B.ro = true ∧ B.cells = []) → ∀ B'', (σ.mem.put l (some ⟨[], false, B.es, none⟩)).get y = some B'' → B''.ro = true ∧ B''.cells = [] := fun y hd B'' hg => by
                            by_cases ey : y = l
                            · subst ey
                              rw [(hd B hB).1] at e2; cases e2
                            · rw [Tr.get_put_other _ _ ey] at hg
                              exact hd B'' hg
                          have keyR : ∀ y, (∀ B, σ.mem.get y = some B → B.ro = true) → ∀ B'', (σ.mem.put l (some ⟨[], false, B.es, none⟩)).get y = some B'' → B''.ro = true := fun y hd B'' hg => by
                            by_cases ey : y = l
                            · subst ey
                              rw [hd B hB] at e2; cases e2
                            · rw [Tr.get_put_other _ _ ey] at hg
                              exact hd B'' hg
                          rcases hs.mr.inj y y' Y Y' hy hy' hb hn with hd | hd | hd
                          · exact Or.inl (key y hd)
                          · exact Or.inr (Or.inl (key y' hd))
                          · exact Or.inr (Or.inr ⟨keyR y hd.1, keyR y' hd.2⟩)
                        · by_cases ey : y = l
                          · subst ey
                            obtain rfl := Option.some.inj (hL.symm.trans hy)
                            exact hown
                          · simp only at hg
                            rw [Tr.get_put_other _ _ ey] at hg
                            exact hs.own y Y B' hy hg hr'
                      have hren := hst.renamed (l := l) hL (B := ⟨[], false, B.es, none⟩) (Tr.get_put_same _ _ _) rfl (N := ⟨old ++ new, false, inf.size, none⟩) ⟨rfl, rfl⟩ (d := o) (m := c' * inf.size) hmm hes' (by
                        simp only [List.length_append]
                        rw [q3, hus.length, hsr.newsLen]
                        omega) (fun i v hv => by
                        simp only at hv
                        have holdl := q1.length
                        by_cases hio : i < old.length
                        · rw [List.getElem?_append_left hio] at hv
                          obtain ⟨y, hy, hyr⟩ := q1.at i v hv
                          refine ⟨y, ?_, hyr⟩
                          rw [World.cell?_setCells_out L.b us _ w _ (fun _ _ => Or.inl (by simp only; omega))]
                          exact q2 i y hy
                        · rw [List.getElem?_append_right (by omega)] at hv
                          obtain ⟨y, hy, hyr⟩ := hus.at _ v hv
                          refine ⟨y, ?_, hyr⟩
                          have hlt2 := (List.getElem?_eq_some_iff.1 hy).1
                          have hin := World.cell?_setCells_in L.b us _ w hsome (i - old.length) hlt2
                          rw [show L.d + o + i = L.d + o + n * inf.size + (i - old.length) by omega, hin]
                          exact (List.getElem?_eq_getElem hlt2).symm.trans hy)
                      refine ⟨upd ρ σ.next ⟨L.b, L.d + o, c' * inf.size, inf.size⟩, _, _, hr, Ext.freshPut hL _ _ _, ?_, ?_⟩
                      · have := VR.own (ρ := upd ρ σ.next ⟨L.b, L.d + o, c' * inf.size, inf.size⟩) (o := 0) (n := n + m) (c := c') (upd_same _ _ _) hroom (by simp)
                        simpa using this
                      · refine ⟨⟨fun y Y hy => ?_, fun y y' Y Y' hy hy' hb hn => ?_, fun y Y B' o' hy hg ho' => ?_⟩, hren.dom, fun y Y B' hy hg hr' => ?_, hren.glob, hren.old, hren.opn⟩
                        all_goals
                          have hgg : ∀ y, (St.new ⟨σ.mem.put l (some ⟨[], true, B.es, none⟩), σ.next⟩ ⟨old ++ new, false, inf.size, none⟩).mem.get y = (St.new ⟨(σ.mem.put l (some ⟨[], false, B.es, none⟩)).put l (some ⟨[], true, B.es, none⟩), σ.next⟩ ⟨old ++ new, false, inf.size, none⟩).mem.get y := fun y => by
                            show ((σ.mem.put l _).put σ.next _).get y = (((σ.mem.put l _).put l _).put σ.next _).get y
                            rw [Tr.get_put, Tr.get_put, Tr.get_put, Tr.get_put, Tr.get_put]
                            by_cases h1 : y = σ.next <;> by_cases h2 : y = l <;> simp [h1, h2]
                        · rw [hgg]; exact hren.mr.blk y Y hy
                        · rw [hgg, hgg]; exact hren.mr.inj y y' Y Y' hy hy' hb hn
                        · rw [hgg] at hg; exact hren.mr.obj y Y B' o' hy hg ho'
                        · rw [hgg] at hg; exact hren.own y Y B' hy hg hr'
                    · obtain ⟨ρ', cv, w', r1, ⟨L', rfl⟩, r3, r4⟩ := grow_sim (ty := ty) hkill ht hi hz k4 k3 (base := some ⟨L.b, L.d + o, none⟩) (c := c') (hfirst _ c' (Or.inr rfl)) q1 q3 hsr hus (by omega) e3
                      exact ⟨_, cv, w', r1, Ext.freshPut hL _ _ _, r3, r4⟩
                  · by_cases hm0 : m = 0
                    · subst hm0
                      have hnil : us = [] := List.length_eq_zero_iff.1 (by rw [hsr.newsLen]; simp)
                      subst hnil
                      have hnew : new = [] := List.length_eq_zero_iff.1 (by rw [hus.length]; rfl)
                      have hold0 : old = [] := List.length_eq_zero_iff.1 (by rw [q3]; simp)
                      subst hnew hold0
                      have hren := hs.renamed hL hB e2 (N := ⟨[], false, inf.size, none⟩) ⟨rfl, rfl⟩ (d := 0) (m := 0) (by omega) (by rw [← e1, hes]) (by simp) (fun i v hv => by simp at hv)
                      refine ⟨_, _, _, run_append_nothing w t tx ty el inf ht hi (some a) 0 0 (Nat.le_refl _) cx hsr, Ext.freshPut hL _ _ _, ?_, hren⟩
                      exact VR.emp (upd_same _ _ _)
                    · obtain ⟨ρ', cv, w', r1, ⟨L', rfl⟩, r3, r4⟩ := grow_sim (ty := ty) hkill ht hi hz k4 k3 (base := some a) (c := 0) (hfirst a 0 (Or.inl rfl)) q1 q3 hsr hus (by omega) e3
                      exact ⟨_, cv, w', r1, Ext.freshPut hL _ _ _, r3, r4⟩
                | false =>
                  rw [hcu] at g2
                  have hcne : c ≠ ucap := fun h => by rw [h] at hcu; simp at hcu
                  have hcv : cs = .slice (some ⟨L.b, L.d + o, none⟩) n c := by
                    rcases hcv with ⟨_, h⟩ | ⟨h, _⟩ | ⟨h, _⟩
                    · exact h
                    · exact absurd h hcne
                    · exact absurd h hcne
                  subst hcv
                  simp only [apCap] at g2
                  cases hroom : Nat.ble (Nat.add n m) c with
                  | true =>
                    rw [hroom] at g2
                    have hroom : n + m ≤ c := Nat.le_of_ble_eq_true hroom
                    obtain ⟨f1, f2⟩ := bif_some g2
                    have f1 : o + (n + m) * inf.size ≤ B.cells.length := Nat.le_of_ble_eq_true f1
                    simp only [Option.some.injEq, Prod.mk.injEq] at f2
                    obtain ⟨rfl, rfl⟩ := f2
                    have hadd := Nat.add_mul n m inf.size
                    have hspace : ∀ j, j < us.length → (w.cell? ⟨L.b, L.d + o + n * inf.size + j, none⟩).isSome = true ∧ w.frozen? ⟨L.b, L.d + o + n * inf.size + j, none⟩ = false := fun j hj => by
                      rw [hsr.newsLen] at hj
                      rw [show L.d + o + n * inf.size + j = L.d + (o + n * inf.size + j) by omega]
                      exact hth _ (by omega)
                    have hr := run_append_room_src (P := P) w t tx ty el inf ht hi L.b (L.d + o) n c cx m us hsr hroom (fun j hj => (hspace j hj).1) (fun j hj => (hspace j hj).2)
                    have hst := hs.stored hL hB e2 (o := o + n * inf.size) hus (by rw [hus.length, hsr.newsLen]; omega)
                    rw [← Nat.add_assoc] at hst
                    exact ⟨ρ, _, _, hr, Ext.put hL _, .slice hL (by omega), hst⟩
                  | false =>
                    rw [hroom] at g2
                    have hroom : ¬ (n + m ≤ c) := fun h => by
                      have : Nat.ble (Nat.add n m) c = true := Nat.ble_eq_true_of_le h
                      rw [this] at hroom
                      cases hroom
                    simp only [cond_false, Option.some.injEq, Prod.mk.injEq] at g2
                    obtain ⟨rfl, rfl⟩ := g2
                    obtain ⟨ρ', cv, w', r1, ⟨L', rfl⟩, r3, r4⟩ := grow_sim (ty := ty) hs ht hi hz k4 k3 (base := some ⟨L.b, L.d + o, none⟩) (c := c) (hfirst _ c (Or.inr rfl)) q1 q3 hsr hus (by omega) e3
                    exact ⟨_, cv, w', r1, Ext.fresh _ _, r3, r4⟩
          · cases h2
      · cases h
    · cases h
  · cases h
omit [Syms] in
theorem run_append_zeros (t tx ty e : TypeId) (i : TypeInfo) (z : Value) {k : IntKind} (ht : P.underlying t = some (.slice e)) (hk : P.underlying tx = some (.int k)) (hi : P.info? e = some i) (hz : i.zero = some z) (n : Nat) (h1 : 1 ≤ n) (hs : 1 ≤ i.size) (hn : n ≤ 1000000) (hb : i.bytes ≤ 4096) :
    (Builtin.append_ #[t, tx] ty #[.slice none 0 0, .int .i64 n]).run P w =
      .ok (.slice (some ⟨w.heap.size, 0, none⟩) n (grownCap w n 0 e)) (w.drew.alloc (.cells (Builtin.zeroCells z.cells n ++ Builtin.zeroCells z.cells (grownCap w n 0 e - n)) e)) := by
  have hw : IntKind.i64.wrap (n : Int) = n := by
    have e : (n : Int) % 2 ^ 64 = n := by omega
    have hd : ¬ ((n : Int) ≥ 2 ^ (64 - 1)) := by omega
    simp only [IntKind.wrap, IntKind.bits, IntKind.signed, e, decide_eq_false hd, Bool.and_false]
    rfl
  have hmul : n * i.bytes ≤ 1000000 * 4096 := Nat.mul_le_mul hn hb
  have hfit := growslice_fits (need := n) (old := 0) (bytes := i.bytes) (by omega) (by omega)
  have a1 : ¬ ((n : Int) < 0) := by omega
  have a3 : ¬ (281474976710656 < Builtin.nextslicecap n 0 * i.bytes) := by omega
  have a4 : ¬ (n * i.size = 0) := by
    intro h0
    rcases Nat.mul_eq_zero.1 h0 with h | h <;> omega
  have a6 : ¬ (9223372036854775807 < (n : Int)) := by omega
  have a7 : ¬ (281474976710656 < (n : Int) * (i.bytes : Int)) := by
    rw [← Int.natCast_mul]
    omega
  have a8 : n ≠ 0 := by omega
  simp [Builtin.append_, run_underlying ht, run_underlying hk, sizeOf, typeInfo, zeroValue, hi, hz, hw, asInt, asIntOf, a1, a3, a6, a7, a8, Question.forced, Builtin.firstCells, newRow, grownCap]
  exact fun h => absurd h a4
theorem zeros_sim (hs : SR gl w0 ρ σ w) {t tx ty : TypeId} {s cs x cx v : Value} {k : IntKind} (hk : P.underlying tx = some (.int k)) (hsv : VR ρ s cs) (hxv : VR ρ x cx) (h : apZero P σ s x (P.underlying t) = some (v, σ')) :
    ∃ ρ' cv w', (Builtin.append_ #[t, tx] ty #[cs, cx]).run P w = .ok cv w' ∧ Ext ρ σ ρ' σ' ∧ VR ρ' v cv ∧ SR gl w0 ρ' σ' w' := by
  unfold apZero at h
  split at h
  · rename_i el ht
    split at h
    · rename_i m inf z hi hz
      obtain ⟨g1, g2⟩ := bif_some h
      simp only [Bool.and_eq_true] at g1
      obtain ⟨⟨⟨k1, k2⟩, k3, k4⟩, k5, k6⟩ := g1
      have k1 := Nat.le_of_ble_eq_true k1
      have k2 := Nat.le_of_ble_eq_true k2
      have k3 := Nat.le_of_ble_eq_true k3
      have k5 := Nat.le_of_ble_eq_true k5
      have k6 := Nat.eq_of_beq_eq_true k6
      simp only [Option.some.injEq, Prod.mk.injEq] at g2
      obtain ⟨rfl, rfl⟩ := g2
      obtain ⟨i', zv, hi', hzv, hg, rfl⟩ := zero_inv hz
      obtain rfl := Option.some.inj (hi.symm.trans hi')
      obtain rfl := hsv.groundEq rfl
      obtain rfl := hxv.groundEq rfl
      have hzs : zv.cells.size = inf.size := by simpa using k6
      have hr := run_append_zeros (P := P) (w := w) t tx ty el inf zv ht hk hi hzv m k1 k3 k2 k5
      have hcap : m ≤ grownCap w m 0 el := Nat.le_add_right _ _
      have hrel := rep_rel (ρ := ρ) (len := m) hg k6
      have hlen : (repeatN m zv.cells.toList).length = m * inf.size := by rw [repeat_length, k6]
      have hmulc : m * inf.size ≤ grownCap w m 0 el * inf.size := Nat.mul_le_mul_right _ hcap
      have hsz : (Builtin.zeroCells zv.cells m ++ Builtin.zeroCells zv.cells (grownCap w m 0 el - m)).size = grownCap w m 0 el * inf.size := by
        simp only [Builtin.zeroCells, Array.size_append, Array.size_map, Array.size_range, hzs]
        rw [← Nat.add_mul]
        congr 1
        omega
      have hf := hs.drew.fresh (B := ⟨repeatN m zv.cells.toList, false, inf.size, none⟩) ⟨rfl, rfl⟩ (Builtin.zeroCells zv.cells m ++ Builtin.zeroCells zv.cells (grownCap w m 0 el - m)) el (by rw [hsz, hlen]; exact hmulc) (fun i v hv => by
        obtain ⟨y, hy, hyr⟩ := hrel.at i v hv
        refine ⟨y, ?_, hyr⟩
        have hlt := (List.getElem?_eq_some_iff.1 hy).1
        rw [Array.getElem?_append_left (by simpa [Builtin.zeroCells, hzs] using hlt)]
        rw [← Array.getElem?_toList]
        simp only [Builtin.zeroCells, hzs]
        rw [hzs] at hy
        exact hy)
      refine ⟨_, _, _, hr, Ext.fresh _ _, ?_, hf⟩
      rw [hsz]
      have := VR.own (ρ := upd ρ σ.next ⟨w.drew.heap.size, 0, grownCap w m 0 el * inf.size, inf.size⟩) (o := 0) (n := m) (c := grownCap w m 0 el) (upd_same _ _ _) hcap (by simp)
      simpa using this
    · cases h
  · cases h
end
end Go.Proofs.YtcjolamfjgdgjaaGreatDoor.Ev
