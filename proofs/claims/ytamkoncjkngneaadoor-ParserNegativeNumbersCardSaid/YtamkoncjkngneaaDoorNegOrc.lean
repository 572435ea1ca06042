/-
  'fulling/fullinglaw3.ParserNegativeNumbers': what its runs are told of calls is so, and what follows.
-/
import Derived.Test.YtamkoncjkngneaaDoorNegLaw
import Derived.Test.YtamkoncjkngneaaDoorBel
namespace Go.Proofs.YtamkoncjkngneaaDoor
open Go.RowKit
@[reducible] noncomputable def nS {n m : Int} {u : Nat} {T : List UInt8} {neg : Bool} {L k : Nat} (h : NegIs n m u T neg L k) (mi : Int) : Ev.Syms := nSyms (nVal n m T k mi) neg L k (neg_bin h mi) (neg_un h mi) (neg_len h mi)
section
variable [Ev.Syms] {ρ : Ev.Ren}
theorem sym_inv {i : Nat} {x c : Value} (hx : Ev.Syms.val i = some x) (h : Ev.VR ρ (.chan (some i)) c) : c = x := Ev.at_sym hx (h.at rfl)
theorem one_arg {a x : Value} {cargs : Array Value} (h : Ev.VRs ρ [a] cargs.toList) (hx : ∀ c, Ev.VR ρ a c → c = x) : cargs = #[x] := by
  cases cargs with
  | mk l =>
    cases h with
    | cons h1 h2 =>
      cases h2
      rw [hx _ h1]
end
theorem itoa_nat (u : Nat) : Lib.itoa (u : Int) = Lib.decDigits u := by
  unfold Lib.itoa
  rw [if_neg (by omega)]
  simp
theorem itoa_minus (u : Nat) (h : 0 < u) : Lib.itoa (-(u : Int)) = 45 :: Lib.decDigits u := by
  unfold Lib.itoa
  rw [if_pos (by omega)]
  simp
theorem minus_zero : parV (45 :: Lib.decDigits 0) = 0 ∧ parOk (45 :: Lib.decDigits 0) = false := by
  rw [dec_small (by omega)]
  constructor <;> rfl
theorem tab_of_glob {w : World} (h : Ev.GlobIs parserExamplesTabs w) : Tab w := by
  intro i hi
  have hm : ∃ cs, (0, cs) ∈ parserExamplesTabs ∧ cs = longs.map fun l => Value.string ⟨l.toArray⟩ := ⟨_, List.mem_cons_self, rfl⟩
  obtain ⟨cs, h1, rfl⟩ := hm
  refine h _ _ h1 i _ ?_
  have : i = 0 ∨ i = 1 ∨ i = 2 ∨ i = 3 ∨ i = 4 ∨ i = 5 ∨ i = 6 := by omega
  rcases this with rfl | rfl | rfl | rfl | rfl | rfl | rfl <;> rfl
section
variable {n m : Int} {u : Nat} {T : List UInt8} {neg : Bool} {L k : Nat}
theorem toks_rel (h : NegIs n m u T neg L k) (mi : Int) (ρ : Ev.Ren) : @Ev.VRs (nS h mi) ρ (nToks k) (tokCells (negToks k T)) := by
  letI := nS h mi
  have gi : ∀ x : Int, Ev.VR ρ (.int .i64 x) (.int .i64 x) := fun x => .refl rfl
  have gs : ∀ x : ByteArray, Ev.VR ρ (.string x) (.string x) := fun x => .refl rfl
  have tok : ∀ (kd : Int) {s s' p p' : Value}, Ev.VR ρ s s' → Ev.VR ρ p p' → Ev.VRs ρ (tokC kd s p) [.int .i64 kd, s', p'] := fun kd _ _ _ _ h1 h2 => .cons (gi kd) (.cons h1 (.cons h2 .nil))
  have ds : ∀ (j p : Nat), Ev.VRs ρ (dashToks j p) (tokCells (dashT j p)) := by
    intro j
    induction j with
    | zero => intro p; exact .nil
    | succ j ih => intro p; exact .append (tok 3 (gs _) (gi _)) (ih (p + 2))
  have hcat : ∀ a b : List Tok, tokCells (a ++ b) = tokCells a ++ tokCells b := fun a b => by unfold tokCells; rw [List.flatMap_append]
  have hsplit : tokCells (negToks k T) = tokCells [⟨1, [102, 117, 110, 99], 0⟩] ++ tokCells [⟨1, [102], 5⟩] ++ tokCells [⟨3, [40], 6⟩] ++ tokCells [⟨3, [41], 7⟩] ++ tokCells [⟨3, [123], 9⟩] ++ tokCells [⟨1, [114, 101, 116, 117, 114, 110], 11⟩] ++ tokCells (dashT k 18) ++
      tokCells [⟨2, T, 18 + 2 * k⟩] ++ tokCells [⟨3, [59], 18 + 2 * k + T.length⟩] ++ tokCells [⟨3, [125], 20 + 2 * k + T.length⟩] := by
    rw [← hcat, ← hcat, ← hcat, ← hcat, ← hcat, ← hcat, ← hcat, ← hcat, ← hcat]
    congr 1
    unfold negToks
    simp only [List.cons_append, List.nil_append, List.append_assoc]
  rw [hsplit]
  unfold nToks
  have v3 : Ev.VR ρ (.chan (some 3)) (nStr T) := .sym rfl rfl
  have v7 : Ev.VR ρ (.chan (some 7)) (nInt ((18 + 2 * k + T.length : Nat) : Int)) := .sym rfl rfl
  have v8 : Ev.VR ρ (.chan (some 8)) (nInt ((20 + 2 * k + T.length : Nat) : Int)) := .sym rfl rfl
  exact ((((((((((tok 1 (gs _) (gi _)).append (tok 1 (gs _) (gi _))).append (tok 3 (gs _) (gi _))).append (tok 3 (gs _) (gi _))).append (tok 3 (gs _) (gi _))).append (tok 1 (gs _) (gi _))).append (ds k 18)).append (tok 2 v3 (gi _))).append (tok 3 (gs _) v7))).append (tok 3 (gs _) v8)
theorem negToks_len (k : Nat) (T : List UInt8) : (negToks k T).length = 9 + k := by
  have : ∀ j p, (dashT j p).length = j := by
    intro j
    induction j with
    | zero => intro p; rfl
    | succ j ih => intro p; show (dashT j (p + 2)).length + 1 = _; rw [ih]
  unfold negToks
  simp only [List.length_cons, List.length_append, this, List.length_nil]
  omega
theorem scan_orc (h : NegIs n m u T neg L k) (mi : Int) {w0 : World} (hg : Ev.GlobIs parserExamplesTabs w0) {args : List Value} {σ σ' : Ev.St} {v : Value} (hq : nScanA k σ args = some (v, σ')) {ρ : Ev.Ren} {w : World} {cargs : Array Value}
    (hs : @Ev.SR (nS h mi) parserExamplesBits w0 ρ σ w) (ha : @Ev.VRs (nS h mi) ρ args cargs.toList) :
    Calls Tryd.prog 12 cargs w fun e w' => ∃ ρ' cv, e = .returned cv ∧ Ev.Ext ρ σ ρ' σ' ∧ @Ev.VR (nS h mi) ρ' v cv ∧ @Ev.SR (nS h mi) parserExamplesBits w0 ρ' σ' w' := by
  letI := nS h mi
  obtain ⟨hd, hv, hne, hl⟩ := h.digits
  have hu := h.big
  have hk := h.k5
  unfold nScanA at hq
  split at hq
  · rename_i i
    obtain ⟨h1, h2⟩ := Ev.bif_some hq
    obtain rfl := Nat.eq_of_beq_eq_true h1
    simp only [Option.some.injEq, Prod.mk.injEq] at h2
    obtain ⟨rfl, rfl⟩ := h2
    obtain rfl := one_arg (x := nStr (preK k ++ T ++ postA)) ha (fun c hc => sym_inv rfl hc)
    have hdat : (⟨(preK k ++ T ++ postA).toArray⟩ : ByteArray).data.toList = preK k ++ T ++ postA := by simp
    have hnum : numT T = true := by
      unfold numT
      rw [Bool.and_eq_true]
      refine ⟨?_, decide_eq_true (by rw [hv]; omega)⟩
      rw [h.text]
      exact (dec_ok u (by omega)).1
    have hscan : scanL (⟨(preK k ++ T ++ postA).toArray⟩ : ByteArray).data.toList = .ok (negToks k T) := by
      rw [hdat]
      exact scan_neg k T hd hne hnum hk hl
    have hsz : (⟨(preK k ++ T ++ postA).toArray⟩ : ByteArray).size ≤ maxLen := by
      rw [← size_len, hdat, List.length_append, List.length_append, preK_len]
      simp only [postA, List.length_cons, List.length_nil]
      unfold maxLen
      omega
    have hc := scan_any ⟨(preK k ++ T ++ postA).toArray⟩ w hsz (tab_of_glob (hg.keep hs.old))
    rw [scanPost_ok hscan] at hc
    refine hc.mono ?_
    rintro e w' ⟨v, rfl, hown, hbel⟩
    rw [negToks_len] at hown
    obtain ⟨hlen, hcase⟩ := hown
    rcases hcase with ⟨_, h0⟩ | ⟨g, cap, cur, rfl, hge, hheap, hn, _, hsize, htake⟩
    · omega
    have hcell : ∀ i, w'.cell? ⟨g, i, none⟩ = cur[i]? := fun i => by simp [World.cell?, hheap]
    have hfz : ∀ i, w'.frozen? ⟨g, i, none⟩ = false := fun i => by simp [World.frozen?, hheap]
    have hrel := toks_rel h mi ρ
    have hlt : (nToks k).length = (9 + k) * 3 := by rw [hrel.length, hlen]
    refine ⟨Ev.upd ρ σ.next ⟨g, 0, cap * 3, 3⟩, _, rfl, Ev.Ext.fresh _ _, ?_, ?_⟩
    · refine .tuple (.cons ?_ (.cons (.refl rfl) .nil))
      have := Ev.VR.own (ρ := Ev.upd ρ σ.next ⟨g, 0, cap * 3, 3⟩) (l := σ.next) (o := 0) (n := 9 + k) (c := cap) (L := ⟨g, 0, cap * 3, 3⟩) (Ev.upd_same _ _ _) hn (by simp)
      exact this
    · refine Ev.SR.grown hs hbel (B := ⟨nToks k, false, 3⟩) hge ?_ ?_ ?_ ?_
      · exact (Array.getElem?_eq_some_iff.1 hheap).1
      · show (nToks k).length ≤ cap * 3
        rw [hlt]
        exact Nat.mul_le_mul_right 3 hn
      · intro j hj
        rw [hcell, hfz]
        exact ⟨by simp [hsize, hj], rfl⟩
      · intro i x hx
        obtain ⟨y, hy, hr⟩ := hrel.at i x hx
        refine ⟨y, ?_, hr⟩
        rw [hcell]
        have hi : i < (9 + k) * 3 := by rw [← hlt]; exact (List.getElem?_eq_some_iff.1 hx).1
        rw [← htake, List.getElem?_take_of_lt hi] at hy
        simpa using hy
  · cases hq
theorem neg_orc (h : NegIs n m u T neg L k) {mi : Int} (hmi : mi % 6 = (k : Int)) {b : Bool} (hb : b = decide (u ≠ 0)) {w0 : World} (hg : Ev.GlobIs parserExamplesTabs w0) : @Ev.CallOK (nS h mi) Tryd.prog parserExamplesBits w0 (negOrc L k b) := by
  letI := nS h mi
  intro f args σ v σ' hq ρ w cargs hs ha
  have hu := h.big
  have hm := h.mu
  unfold negOrc nOrc at hq
  cases hf : Nat.beq f 12 with
  | true =>
    rw [hf, cond_true] at hq
    obtain rfl := Nat.eq_of_beq_eq_true hf
    exact scan_orc h mi hg hq hs ha
  | false =>
    rw [hf, cond_false] at hq
    split at hq
    · rename_i x hx
      simp only [Option.some.injEq, Prod.mk.injEq] at hq
      obtain ⟨rfl, rfl⟩ := hq
      have fin : ∀ {cv : Value} {w' : World}, Ev.VR ρ x cv → Bel w w' → ∃ ρ' cv', Ending.returned cv = .returned cv' ∧ Ev.Ext ρ σ ρ' σ ∧ Ev.VR ρ' x cv' ∧ Ev.SR parserExamplesBits w0 ρ' σ w' := fun h1 h2 => ⟨ρ, _, rfl, Ev.Ext.refl _ _, h1, hs.quiet h2⟩
      have htx : Lib.itoa m = T := by rw [hm, itoa_nat, h.text]
      have hwm : W64 m := by unfold W64; omega
      cases h1 : Nat.beq f 20 with
      | true =>
        rw [h1, cond_true] at hx
        obtain rfl := Nat.eq_of_beq_eq_true h1
        unfold nText at hx
        split at hx
        · obtain ⟨k1, k2⟩ := Ev.bif_some hx
          obtain rfl := Nat.eq_of_beq_eq_true k1
          obtain rfl := Option.some.inj k2
          obtain rfl := one_arg (x := nInt m) ha (fun c hc => sym_inv (h.letter mi) hc)
          refine (refText_any m w hwm).mono ?_
          rintro e w' ⟨rfl, hbel⟩
          rw [htx]
          exact fin (cv := nStr T) (.sym rfl rfl) hbel
        · cases hx
      | false =>
        rw [h1, cond_false] at hx
        cases h2 : Nat.beq f 100 with
        | true =>
          rw [h2, cond_true] at hx
          obtain rfl := Nat.eq_of_beq_eq_true h2
          unfold nParse at hx
          split at hx
          · rename_i i
            cases h3 : Nat.beq i 3 with
            | true =>
              rw [h3, cond_true] at hx
              obtain rfl := Nat.eq_of_beq_eq_true h3
              obtain rfl := Option.some.inj hx
              obtain rfl := one_arg (x := nStr T) ha (fun c hc => sym_inv rfl hc)
              have hp := par_any ⟨T.toArray⟩ w (by rw [← size_len]; have := h.digits.2.2.2; simp only; unfold maxLen; omega)
              have hdat : (⟨T.toArray⟩ : ByteArray).data.toList = T := by simp
              have hip := itoa_par m hwm
              rw [htx] at hip
              rw [hdat, hip.1, hip.2] at hp
              refine hp.mono ?_
              rintro e w' ⟨rfl, rfl⟩
              exact fin (cv := .tuple #[nInt m, .bool true]) (.tuple (.cons (.sym (h.letter mi) rfl) (.cons (.refl rfl) .nil))) (Bel.refl _)
            | false =>
              rw [h3, cond_false] at hx
              obtain ⟨h4, h5⟩ := Ev.bif_some hx
              obtain rfl := Nat.eq_of_beq_eq_true h4
              obtain rfl := Option.some.inj h5
              obtain rfl := one_arg (x := nStr (45 :: T)) ha (fun c hc => sym_inv rfl hc)
              have hdat : (⟨(45 :: T).toArray⟩ : ByteArray).data.toList = 45 :: T := by simp
              have hp := par_any ⟨(45 :: T).toArray⟩ w (by rw [← size_len, hdat, List.length_cons]; have := h.digits.2.2.2; unfold maxLen; omega)
              rw [hdat] at hp
              have hval : parV (45 :: T) = -m ∧ parOk (45 :: T) = b := by
                by_cases h0 : u = 0
                · have hz := minus_zero
                  rw [hb, hm, h.text, h0]
                  exact ⟨hz.1, hz.2⟩
                · have hi := itoa_par (-m) (by unfold W64; omega)
                  rw [hm, itoa_minus u (by omega), ← h.text] at hi
                  rw [hb, hm]
                  exact ⟨hi.1, by rw [hi.2]; exact (decide_eq_true h0).symm⟩
              rw [hval.1, hval.2] at hp
              refine hp.mono ?_
              rintro e w' ⟨rfl, rfl⟩
              exact fin (cv := .tuple #[nInt (-m), .bool b]) (.tuple (.cons (.sym rfl rfl) (.cons (.refl rfl) .nil))) (Bel.refl _)
          · cases hx
        | false =>
          rw [h2, cond_false] at hx
          cases h3 : Nat.beq f 17 with
          | true =>
            rw [h3, cond_true] at hx
            obtain rfl := Nat.eq_of_beq_eq_true h3
            unfold nPick at hx
            split at hx
            · obtain ⟨k1, k2⟩ := Ev.bif_some hx
              rw [Bool.and_eq_true] at k1
              obtain rfl := Nat.eq_of_beq_eq_true k1.1
              obtain rfl := of_decide_eq_true k1.2
              obtain rfl := Option.some.inj k2
              have hca : cargs = #[nInt mi, .int .i64 6] := by
                cases cargs with
                | mk l =>
                  cases ha with
                  | cons a1 a2 =>
                    cases a2 with
                    | cons a2 a3 =>
                      cases a3
                      obtain rfl := sym_inv (x := nInt mi) rfl a1
                      obtain rfl := a2.int_inv
                      rfl
              subst hca
              refine (pick_any mi 6 w (by omega) (by omega)).mono ?_
              rintro e w' ⟨rfl, rfl⟩
              rw [hmi]
              exact fin (.refl rfl) (Bel.refl _)
            · cases hx
          | false =>
            rw [h3, cond_false] at hx
            obtain ⟨h4, h5⟩ := Ev.bif_some hx
            obtain rfl := Nat.eq_of_beq_eq_true h4
            unfold nEx at h5
            split at h5
            · obtain rfl := Option.some.inj h5
              have hca : cargs = #[] := by
                cases cargs with
                | mk l => cases ha; rfl
              subst hca
              refine (parserExamples_glob w (hg.keep hs.old)).mono ?_
              rintro e w' ⟨rfl, hbel⟩
              exact fin (.refl rfl) hbel
            · cases h5
    · cases hq
end
end Go.Proofs.YtamkoncjkngneaaDoor
