/-
  What a run is told of the reference's scanner: its contract.
-/
import Derived.Test.YtcjolamfjgdgjaaGreatDoorRScan
import Derived.Test.YtcjolamfjgdgjaaGreatDoorCkHead
namespace Go.Proofs.YtcjolamfjgdgjaaGreatDoor
open Go.RowKit
noncomputable def scanA (σ : Ev.St) (n : Nat) : Out → Option (Value × Ev.St)
  | .ok (t :: ts) => bif Nat.ble n 1000000 then some (.tuple #[.slice (some ⟨σ.next, 0, none⟩) (Nat.succ ts.length) Ev.ucap, .agg #[.int .i64 0, .int .i64 0]], σ.new ⟨tokCells (t :: ts), false, 3, none⟩) else none
  | _ => none
noncomputable def scanOrc : Ev.Oracle := fun f args σ => match args with
  | [.string s] => bif Nat.beq f 22 then scanA σ s.size (scanL s.data.toList) else none
  | _ => none
theorem tokCells_ground : ∀ ts : List Tok, (tokCells ts).all Ev.cellGround = true
  | [] => rfl
  | t :: ts => by
    show ([Value.int .i64 t.kind, .string ⟨t.text.toArray⟩, .int .i64 t.pos] ++ tokCells ts).all Ev.cellGround = true
    rw [List.all_append, tokCells_ground ts]
    rfl
theorem scan_orc [Ev.Syms] {w0 : World} (_hg : Ev.GlobIs ckTabs w0) : Ev.CallOK Tryz.prog ckBits w0 scanOrc := by
  intro f args σ v σ' hq opn ρ w cargs hs ha
  unfold scanOrc at hq
  split at hq
  · rename_i s
    have hq2 := Ev.bif_some hq
    clear hq
    obtain ⟨h1, h2⟩ := hq2
    obtain rfl := Nat.eq_of_beq_eq_true h1
    unfold scanA at h2
    split at h2
    · rename_i t ts hscan
      have h3 := Ev.bif_some h2
      clear h2
      obtain ⟨hn, h2⟩ := h3
      simp only [Option.some.injEq, Prod.mk.injEq] at h2
      obtain ⟨rfl, rfl⟩ := h2
      have hargs : cargs = #[.string s] := by
        cases cargs with
        | mk l =>
          cases ha with
          | cons h1 h2 =>
            cases h2
            rw [h1.string_inv]
      subst hargs
      have hsz : s.size ≤ maxLen := by
        have := Nat.le_of_ble_eq_true hn
        unfold maxLen
        omega
      have hc := refScan_any s w hsz
      rw [scanPost_ok hscan] at hc
      refine hc.mono ?_
      rintro e w' ⟨v, rfl, hown, hbel⟩
      obtain ⟨hlen, hcase⟩ := hown
      rcases hcase with ⟨_, h0⟩ | ⟨g, cap, cur, rfl, hge, hheap, hn, _, hsize, htake⟩
      · simp at h0
      have hcell : ∀ i, w'.cell? ⟨g, i, none⟩ = cur[i]? := fun i => by simp [World.cell?, hheap]
      have hfz : ∀ i, w'.frozen? ⟨g, i, none⟩ = false := fun i => by simp [World.frozen?, hheap]
      have hrel : Ev.VRs ρ (tokCells (t :: ts)) (tokCells (t :: ts)) := .refl (tokCells_ground _)
      have hlt : (tokCells (t :: ts)).length = (t :: ts).length * 3 := tokCells_len _
      refine ⟨Ev.upd ρ σ.next ⟨g, 0, cap * 3, 3⟩, _, rfl, Ev.Ext.fresh _ _, ?_, ?_⟩
      · refine .tuple (.cons ?_ (.cons (.refl rfl) .nil))
        have := Ev.VR.own (ρ := Ev.upd ρ σ.next ⟨g, 0, cap * 3, 3⟩) (l := σ.next) (o := 0) (n := (t :: ts).length) (c := cap) (L := ⟨g, 0, cap * 3, 3⟩) (Ev.upd_same _ _ _) hn (by simp)
        exact this
      · refine Ev.SR.grown hs hbel (B := ⟨tokCells (t :: ts), false, 3, none⟩) rfl hge ?_ ?_ ?_ ?_
        · exact (Array.getElem?_eq_some_iff.1 hheap).1
        · show (tokCells (t :: ts)).length ≤ cap * 3
          rw [hlt]
          exact Nat.mul_le_mul_right 3 hn
        · intro j hj
          rw [hcell, hfz]
          exact ⟨by simp [hsize, hj], rfl⟩
        · intro i x hx
          obtain ⟨y, hy, hr⟩ := hrel.at i x hx
          refine ⟨y, ?_, hr⟩
          rw [hcell]
          have hi : i < (t :: ts).length * 3 := by rw [← hlt]; exact (List.getElem?_eq_some_iff.1 hx).1
          rw [← htake, List.getElem?_take_of_lt hi] at hy
          simpa using hy
    · cases h2
  · cases hq
end Go.Proofs.YtcjolamfjgdgjaaGreatDoor
