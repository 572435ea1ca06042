/-
  Value semantics: calls, equations, laws.
-/
import Derived.Test.YtpkchglfgkkcbaaDoorVsB
namespace Go.Proofs.YtpkchglfgkkcbaaDoor.Vs
open Go.Proofs.YtpkchglfgkkcbaaDoor.Ev Go.RowKit
variable [Syms]
section
variable {P : Program} {gl : Nat} {tabs : Tabs} {Rn : Nat → Nat → Run} {fl : Fl} {call2 : Call2}

omit [Syms] in
theorem virts_sim {F : Fz} : ∀ (ac : List (Nat × Nat)) {ρ : List Nat} {τ : St2} {σ : St} {t2 : Tm} {t1 : Tr Value}, R F ρ τ σ → TmR F ρ τ t2 t1 → ∃ ρ', Stp F ρ τ σ F ρ' (virts ac t2 τ).2 σ ∧ TmR F ρ' (virts ac t2 τ).2 (virts ac t2 τ).1 t1
  | [], ρ, τ, σ, t2, t1, hr, hk => ⟨ρ, Stp.refl hr, hk⟩
  | (t, es) :: ac, ρ, τ, σ, t2, t1, hr, hk => by
    simp only [virts]
    split
    · rename_i hl
      obtain ⟨w, h1, h2⟩ := hk t _ hl
      have hw : w = .slice none 0 0 := by
        cases h2 with
        | p hp => cases hp; rfl
      subst hw
      have hle := TLe.push (ρ := ρ) (τ := τ) ⟨[], .virt, es, true⟩ 0 hr.len
      have hold : ∀ {l : Nat} {T' : B2}, (τ ++ [(⟨[], .virt, es, true⟩ : B2)])[l]? = some T' → (τ[l]? = some T' ∧ l < τ.length) ∨ T' = ⟨[], .virt, es, true⟩ := fun {l T'} h => by
        by_cases hl : l < τ.length
        · rw [List.getElem?_append_left hl] at h
          exact .inl ⟨h, hl⟩
        · rw [List.getElem?_append_right (by omega)] at h
          have h0 : l - τ.length = 0 := by
            have := (List.getElem?_eq_some_iff.1 h).1
            simp at this
            omega
          rw [h0] at h
          exact .inr (Option.some.inj h).symm
      have hρ : ∀ {l : Nat}, l < τ.length → (ρ ++ [0])[l]? = ρ[l]? := fun {l} h => List.getElem?_append_left (by rw [hr.len]; exact h)
      have hst : Stp F ρ τ σ F (ρ ++ [0]) (τ ++ [⟨[], .virt, es, true⟩]) σ := by
        refine ⟨⟨by simp [hr.len], hr.fz, fun l T hT hs => ?_, fun l T hT hs => ?_, fun l l' b T T' k1 k2 s1 s2 b1 b2 => ?_⟩, FLe.refl _, hle, Nat.le_refl _, fun l T T' b hT hs hT' hd hb => ?_⟩
        · rcases hold hT with ⟨hT, hl⟩ | rfl
          · obtain ⟨b, B, q1, q2, q3, q4, q5, q6, q7, q8⟩ := hr.live l T hT hs
            exact ⟨b, B, by rw [hρ hl]; exact q1, q2, q3, q4, q5, q6, q7, q8.mono (FLe.refl _) hle⟩
          · cases hs
        · rcases hold hT with ⟨hT, hl⟩ | rfl
          · exact hr.virt l T hT hs
          · rfl
        · rcases hold k1 with ⟨m1, l1⟩ | rfl
          · rcases hold k2 with ⟨m2, l2⟩ | rfl
            · rw [hρ l1] at b1; rw [hρ l2] at b2
              exact hr.inj l l' b T T' m1 m2 s1 s2 b1 b2
            · cases s2
          · cases s1
        · have hl := (List.getElem?_eq_some_iff.1 hT).1
          rw [List.getElem?_append_left hl] at hT'
          exact ⟨Option.some.inj (hT'.symm.trans hT), by rw [hρ hl]; exact hb, rfl⟩
      have hk' : TmR F (ρ ++ [0]) (τ ++ [⟨[], .virt, es, true⟩]) (put t (.ms τ.length 0 0 0 ucap) t2) t1 := by
        intro n c hn
        simp only [put, look] at hn
        cases hq : Nat.beq n t with
        | true =>
          rw [hq, cond_true] at hn
          obtain rfl := Option.some.inj hn
          obtain rfl := Nat.eq_of_beq_eq_true hq
          exact ⟨_, h1, .msv (place_new hr.len (T := ⟨[], .virt, es, true⟩) (b := 0) rfl)⟩
        | false =>
          rw [hq, cond_false] at hn
          obtain ⟨w, p1, p2⟩ := hk n c hn
          exact ⟨w, p1, p2.mono (FLe.refl _) hle⟩
      obtain ⟨ρ', q1, q2⟩ := virts_sim ac hst.r hk'
      exact ⟨ρ', hst.trans q1, q2⟩
    · exact virts_sim ac hr hk
theorem code_sim (hcall : Call2OK P gl tabs call2 Rn) {fi : Option Nat × Nat} : ∀ (c : Code) (an : An) (s : SC), lowC P tabs c an = some s → ∀ {F : Fz} {ρ : List Nat} {τ : St2} {σ : St} {t2 : Tm} {t1 : Tr Value} {out : Out} {t2' : Tm} {τ' : St2},
    evS fl call2 s t2 τ = some (out, t2', τ') → R F ρ τ σ → TabsIn gl tabs F → TmR F ρ τ t2 t1 →
    ∃ N t1' σ' F' ρ', (∀ r m, N ≤ r → N ≤ m → evCode P gl (Rn r m) r fi c t1 σ = some (out, t1', σ')) ∧ Stp F ρ τ σ F' ρ' τ' σ' ∧ TmR F' ρ' τ' t2' t1'
  | .skip, an, s, hl, F, ρ, τ, σ, t2, t1, out, t2', τ', h, hr, ht, hk => by
    obtain rfl := Option.some.inj (show some SC.skip = some s by cases an <;> exact hl)
    simp only [evS, Option.some.injEq, Prod.mk.injEq] at h
    obtain ⟨rfl, rfl, rfl⟩ := h
    exact ⟨0, t1, σ, F, ρ, fun _ _ _ _ => rfl, Stp.refl hr, hk⟩
  | .region id ops draw, an, s, hl, F, ρ, τ, σ, t2, t1, out, t2', τ', h, hr, ht, hk => by
    cases draw with
    | true =>
      cases an <;> first | (cases hl; done) | skip
      rename_i x y
      cases x <;> first | (cases hl; done) | skip
      rename_i kp
      cases y <;> first | (cases hl; done) | skip
      rename_i ks
      simp only [lowC] at hl
      obtain ⟨hb, hl⟩ := bif_some hl
      rw [Bool.and_eq_true] at hb
      split at hl
      · rename_i l hll
        obtain rfl := Option.some.inj hl
        simp only [evS, evL, regS, next2] at h
        cases hev : evL fl call2 l (keep kp t2) τ with
        | none => rw [hev] at h; cases h
        | some q =>
          obtain ⟨t2a, τa⟩ := q
          rw [hev] at h
          simp only [Option.some.injEq, Prod.mk.injEq] at h
          obtain ⟨rfl, rfl, rfl⟩ := h
          have hlt : ∀ {l : List Nat}, (l.all fun k => Nat.blt k dK) = true → ∀ n, n ∈ l → n < dK := fun h n hn => Nat.le_of_ble_eq_true (List.all_eq_true.1 h n hn)
          obtain ⟨N, t1', σ', F', ρ', q1, q2, q3⟩ := draw_sim2 hcall hll hev hr ht (hk.keep kp) (fun n c hc => hlt hb.1 n (look_keep_mem kp t2 n c hc))
          refine ⟨N, t1', σ', F', ρ', fun r m h1 h2 => ?_, q2, fun n c hc => q3 n c (hasN_mem (look_keep_mem ks t2a n c hc)) (hlt hb.2 n (look_keep_mem ks t2a n c hc)) (look_keep ks t2a n c hc)⟩
          show coReg (evRegion P gl (Rn r m) ops true t1 σ) = _
          rw [q1 r m h1 h2]
          rfl
      · cases hl
    | false =>
      cases an <;> first | (cases hl; done) | skip
      rename_i ks
      simp only [lowC] at hl
      split at hl
      · rename_i l hll
        obtain rfl := Option.some.inj hl
        simp only [evS] at h
        cases hev : evL fl call2 l t2 τ with
        | none => rw [hev] at h; cases h
        | some q =>
          obtain ⟨t2a, τa⟩ := q
          rw [hev] at h
          simp only [regS, Option.some.injEq, Prod.mk.injEq] at h
          obtain ⟨rfl, rfl, rfl⟩ := h
          obtain ⟨N, t1', σ', F', ρ', q1, q2, q3⟩ := list_sim2 hcall hll hev hr ht hk
          refine ⟨N, t1', σ', F', ρ', fun r m h1 h2 => ?_, q2, q3.keep ks⟩
          show coReg (evList P gl (Rn r m) ops ops.toList t1 σ) = _
          rw [q1 r m h1 h2]
          rfl
      · cases hl
  | .seq a b, an, s, hl, F, ρ, τ, σ, t2, t1, out, t2', τ', h, hr, ht, hk => by
    cases an <;> first | (cases hl; done) | skip
    rename_i x y
    simp only [lowC] at hl
    split at hl
    · rename_i u v hu hv
      obtain rfl := Option.some.inj hl
      simp only [evS] at h
      cases h1 : evS fl call2 u t2 τ with
      | none => rw [h1] at h; cases h
      | some q =>
        obtain ⟨o1, t2a, τa⟩ := q
        rw [h1] at h
        obtain ⟨N, t1a, σa, Fa, ρa, q1, q2, q3⟩ := code_sim hcall a x u hu h1 hr ht hk
        have hev : ∀ r m, evCode P gl (Rn r m) r fi (.seq a b) t1 σ = loNext (evCode P gl (Rn r m) r fi b) (evCode P gl (Rn r m) r fi a t1 σ) := fun _ _ => rfl
        cases o1 with
        | normal =>
          obtain ⟨N', t1b, σb, Fb, ρb, p1, p2, p3⟩ := code_sim hcall b y v hv (show evS fl call2 v t2a τa = _ from h) q2.r (ht.mono q2.f) q3
          refine ⟨max N N', t1b, σb, Fb, ρb, fun r m h1 h2 => ?_, q2.trans p2, p3⟩
          rw [hev, q1 r m (by omega) (by omega)]
          exact p1 r m (by omega) (by omega)
        | exit id =>
          simp only [next2, Option.some.injEq, Prod.mk.injEq] at h
          obtain ⟨rfl, rfl, rfl⟩ := h
          exact ⟨N, t1a, σa, Fa, ρa, fun r m h1 h2 => by rw [hev, q1 r m h1 h2]; rfl, q2, q3⟩
        | ret =>
          simp only [next2, Option.some.injEq, Prod.mk.injEq] at h
          obtain ⟨rfl, rfl, rfl⟩ := h
          exact ⟨N, t1a, σa, Fa, ρa, fun r m h1 h2 => by rw [hev, q1 r m h1 h2]; rfl, q2, q3⟩
    · cases hl
  | .cond x a b, an, s, hl, F, ρ, τ, σ, t2, t1, out, t2', τ', h, hr, ht, hk => by
    cases an <;> first | (cases hl; done) | skip
    rename_i xa ya
    simp only [lowC] at hl
    split at hl
    · rename_i ca u v hca hu hv
      obtain rfl := Option.some.inj hl
      simp only [evS] at h
      have he := env_sim ht hk
      have hev : ∀ r m, evCode P gl (Rn r m) r fi (.cond x a b) t1 σ = coCond (evCode P gl (Rn r m) r fi a) (evCode P gl (Rn r m) r fi b) t1 σ (envOf gl t1 x) := fun _ _ => rfl
      unfold condS at h
      split at h
      · rename_i hc
        obtain ⟨w, hw, hcr⟩ := he x ca _ hca hc
        have hw' : w = .bool true := by
          cases hcr with
          | p hp => cases hp; rfl
        obtain ⟨N, t1a, σa, Fa, ρa, q1, q2, q3⟩ := code_sim hcall a xa u hu h hr ht hk
        exact ⟨N, t1a, σa, Fa, ρa, fun r m h1 h2 => by rw [hev, hw, hw']; exact q1 r m h1 h2, q2, q3⟩
      · rename_i hc
        obtain ⟨w, hw, hcr⟩ := he x ca _ hca hc
        have hw' : w = .bool false := by
          cases hcr with
          | p hp => cases hp; rfl
        obtain ⟨N, t1a, σa, Fa, ρa, q1, q2, q3⟩ := code_sim hcall b ya v hv h hr ht hk
        exact ⟨N, t1a, σa, Fa, ρa, fun r m h1 h2 => by rw [hev, hw, hw']; exact q1 r m h1 h2, q2, q3⟩
      · cases h
    · cases hl
  | .block id a, an, s, hl, F, ρ, τ, σ, t2, t1, out, t2', τ', h, hr, ht, hk => by
    cases an <;> first | (cases hl; done) | skip
    rename_i x
    simp only [lowC] at hl
    split at hl
    · rename_i u hu
      obtain rfl := Option.some.inj hl
      simp only [evS] at h
      cases h1 : evS fl call2 u t2 τ with
      | none => rw [h1] at h; cases h
      | some q =>
        obtain ⟨o1, t2a, τa⟩ := q
        rw [h1] at h
        obtain ⟨N, t1a, σa, Fa, ρa, q1, q2, q3⟩ := code_sim hcall a x u hu h1 hr ht hk
        have hev : ∀ r m, evCode P gl (Rn r m) r fi (.block id a) t1 σ = coBlock id (evCode P gl (Rn r m) r fi a t1 σ) := fun _ _ => rfl
        cases o1 with
        | normal =>
          simp only [blockS, Option.some.injEq, Prod.mk.injEq] at h
          obtain ⟨rfl, rfl, rfl⟩ := h
          exact ⟨N, t1a, σa, Fa, ρa, fun r m h1 h2 => by rw [hev, q1 r m h1 h2]; rfl, q2, q3⟩
        | ret =>
          simp only [blockS, Option.some.injEq, Prod.mk.injEq] at h
          obtain ⟨rfl, rfl, rfl⟩ := h
          exact ⟨N, t1a, σa, Fa, ρa, fun r m h1 h2 => by rw [hev, q1 r m h1 h2]; rfl, q2, q3⟩
        | exit id' =>
          simp only [blockS] at h
          cases hb : Nat.beq id' id with
          | true =>
            rw [hb] at h
            simp only [cond_true, Option.some.injEq, Prod.mk.injEq] at h
            obtain ⟨rfl, rfl, rfl⟩ := h
            exact ⟨N, t1a, σa, Fa, ρa, fun r m h1 h2 => by rw [hev, q1 r m h1 h2]; simp only [coBlock, hb, cond_true], q2, q3⟩
          | false =>
            rw [hb] at h
            simp only [cond_false, Option.some.injEq, Prod.mk.injEq] at h
            obtain ⟨rfl, rfl, rfl⟩ := h
            exact ⟨N, t1a, σa, Fa, ρa, fun r m h1 h2 => by rw [hev, q1 r m h1 h2]; simp only [coBlock, hb, cond_false], q2, q3⟩
    · cases hl
  | .loop a, an, s, hl, F, ρ, τ, σ, t2, t1, out, t2', τ', h, hr, ht, hk => by
    cases an <;> first | (cases hl; done) | skip
    rename_i ac ks x
    simp only [lowC] at hl
    split at hl
    · rename_i u hu
      obtain rfl := Option.some.inj hl
      simp only [evS] at h
      obtain ⟨n, hn⟩ := Loop_some h
      obtain ⟨ρ0, z1, z2⟩ := virts_sim ac hr hk
      have key : ∀ (n : Nat) {F : Fz} {ρ : List Nat} {τ : St2} {σ : St} {t2 : Tm} {t1 : Tr Value}, iter (round ks (evS fl call2 u)) n t2 τ = some (out, t2', τ') → R F ρ τ σ → TabsIn gl tabs F → TmR F ρ τ t2 t1 →
          ∃ N t1' σ' F' ρ', (∀ r m, N ≤ r → N ≤ m → ∀ k, n ≤ k → evLoop (evCode P gl (Rn r m) r fi a) k t1 σ = some (out, t1', σ')) ∧ Stp F ρ τ σ F' ρ' τ' σ' ∧ TmR F' ρ' τ' t2' t1' := by
        intro n
        induction n with
        | zero => intro F ρ τ σ t2 t1 h; cases h
        | succ n ih =>
          intro F ρ τ σ t2 t1 h hr ht hk
          have h : next2 (iter (round ks (evS fl call2 u)) n) (round ks (evS fl call2 u) t2 τ) = some (out, t2', τ') := h
          cases h1 : evS fl call2 u (keep ks t2) τ with
          | none =>
            unfold round at h
            rw [h1] at h
            cases h
          | some q =>
            obtain ⟨o1, t2a, τa⟩ := q
            obtain ⟨N, t1a, σa, Fa, ρa, q1, q2, q3⟩ := code_sim hcall a x u hu h1 hr ht (hk.keep ks)
            have hev : ∀ r m k, evLoop (evCode P gl (Rn r m) r fi a) (k + 1) t1 σ = loNext (evLoop (evCode P gl (Rn r m) r fi a) k) (evCode P gl (Rn r m) r fi a t1 σ) := fun _ _ _ => rfl
            cases o1 with
            | normal =>
              have hround : round ks (evS fl call2 u) t2 τ = some (.normal, keep ks t2a, trunc (keep ks t2a) τ τa) := by
                unfold round
                rw [h1]
              rw [hround] at h
              obtain ⟨ρ1, y1, y2⟩ := trunc_sim hr q2 (q3.keep ks)
              obtain ⟨N', t1b, σb, Fb, ρb, p1, p2, p3⟩ := ih (show iter (round ks (evS fl call2 u)) n (keep ks t2a) (trunc (keep ks t2a) τ τa) = _ from h) y1.r (ht.mono y1.f) y2
              refine ⟨max N N', t1b, σb, Fb, ρb, fun r m h1 h2 k hk => ?_, y1.trans p2, p3⟩
              cases k with
              | zero => omega
              | succ k =>
                rw [hev, q1 r m (by omega) (by omega)]
                exact p1 r m (by omega) (by omega) k (by omega)
            | exit id =>
              have hround : round ks (evS fl call2 u) t2 τ = some (.exit id, t2a, τa) := by
                unfold round
                rw [h1]
              rw [hround] at h
              simp only [next2, Option.some.injEq, Prod.mk.injEq] at h
              obtain ⟨rfl, rfl, rfl⟩ := h
              refine ⟨N, t1a, σa, Fa, ρa, fun r m h1 h2 k hk => ?_, q2, q3⟩
              cases k with
              | zero => omega
              | succ k => rw [hev, q1 r m h1 h2]; rfl
            | ret =>
              have hround : round ks (evS fl call2 u) t2 τ = some (.ret, t2a, τa) := by
                unfold round
                rw [h1]
              rw [hround] at h
              simp only [next2, Option.some.injEq, Prod.mk.injEq] at h
              obtain ⟨rfl, rfl, rfl⟩ := h
              refine ⟨N, t1a, σa, Fa, ρa, fun r m h1 h2 k hk => ?_, q2, q3⟩
              cases k with
              | zero => omega
              | succ k => rw [hev, q1 r m h1 h2]; rfl
      obtain ⟨N, t1', σ', F', ρ', q1, q2, q3⟩ := key n hn z1.r ht (z2.keep ks)
      refine ⟨max N n, t1', σ', F', ρ', fun r m h1 h2 => ?_, z1.trans q2, q3⟩
      exact q1 r m (by omega) (by omega) r (by omega)
    · cases hl
  | .exit id, an, s, hl, F, ρ, τ, σ, t2, t1, out, t2', τ', h, hr, ht, hk => by
    obtain rfl := Option.some.inj (show some (SC.exit id) = some s by cases an <;> exact hl)
    simp only [evS, Option.some.injEq, Prod.mk.injEq] at h
    obtain ⟨rfl, rfl, rfl⟩ := h
    exact ⟨0, t1, σ, F, ρ, fun _ _ _ _ => rfl, Stp.refl hr, hk⟩
  | .ret, an, s, hl, F, ρ, τ, σ, t2, t1, out, t2', τ', h, hr, ht, hk => by
    obtain rfl := Option.some.inj (show some SC.ret = some s by cases an <;> exact hl)
    simp only [evS, Option.some.injEq, Prod.mk.injEq] at h
    obtain ⟨rfl, rfl, rfl⟩ := h
    exact ⟨0, t1, σ, F, ρ, fun _ _ _ _ => rfl, Stp.refl hr, hk⟩
  | .rangeFunc .., an, s, hl, _, _, _, _, _, _, _, _, _, _, _, _, _ => by cases an <;> cases hl
  | .scope .., an, s, hl, _, _, _, _, _, _, _, _, _, _, _, _, _ => by cases an <;> cases hl
  | .label .., an, s, hl, _, _, _, _, _, _, _, _, _, _, _, _, _ => by cases an <;> cases hl
  | .goto .., an, s, hl, _, _, _, _, _, _, _, _, _, _, _, _, _ => by cases an <;> cases hl
  | .refuse .., an, s, hl, _, _, _, _, _, _, _, _, _, _, _, _, _ => by cases an <;> cases hl
omit [Syms] in
theorem loadC_sim {F : Fz} {ρ : List Nat} {τ : St2} {σ : St} (hr : R F ρ τ σ) {t : TypeId} {n : Nat} {ag : Bool} (hag : agOf P t = some (n, ag)) {cx c : C} {w : Value} (hc : CR F ρ τ cx w) (h3 : loadC τ n ag cx = some c) : ∃ w', reCell P σ t (some w) = some w' ∧ CR F ρ τ c w' := by
  have key : ∀ (b off : Nat) (B : Blk) (cs : List C) (ws : List Value), w = .pointer (some ⟨b, off, none⟩) → σ.mem.get b = some B → off + n ≤ B.cells.length → (B.cells.drop off).take n = ws → CRs F ρ τ cs ws → cs.length = n → one ag cs = some c → ∃ w', reCell P σ t (some w) = some w' ∧ CR F ρ τ c w' := by
    intro b off B cs ws hwe hB hle hws hcs hlen hone
    subst hwe
    have hop : reCell P σ t (some (.pointer (some ⟨b, off, none⟩))) = loadV P σ t b off := rfl
    rw [hop]
    have hrel := one_rel hcs (fun e => by subst e; rw [hlen]; exact ag_one hag) hone
    have hca : cellsAt σ b off n = some ws := by
      unfold cellsAt
      rw [hB]
      simp only [Nat.ble_eq_true_of_le hle, cond_true, hws]
    unfold agOf at hag
    split at hag
    · rename_i d i hu hi
      split at hag
      · rename_i hd
        simp only [Option.some.injEq, Prod.mk.injEq] at hag
        obtain ⟨rfl, rfl⟩ := hag
        refine ⟨.agg ws.toArray, ?_, hrel⟩
        unfold loadV
        rw [hu, hi]
        simp only [hd, hca]
        rfl
      · rename_i hd
        obtain ⟨hs, hag⟩ := bif_some hag
        simp only [Option.some.injEq, Prod.mk.injEq] at hag
        obtain ⟨rfl, rfl⟩ := hag
        obtain ⟨w', hw', hc'⟩ := hrel
        refine ⟨w', ?_, hc'⟩
        unfold loadV
        rw [hu, hi]
        simp only [hd, hB]
        have h5 : ((B.cells.drop off).take 1)[0]? = some w' := by rw [hws, hw']; rfl
        have : B.cells[off]? = some w' := by simpa using h5
        rw [this]
    · cases hag
  unfold loadC at h3
  split at h3
  · rename_i l g off
    split at h3
    · rename_i cs hcs
      unfold cellsAt2 at hcs
      split at hcs
      · rename_i cells es dd hT
        obtain ⟨hq, hcs⟩ := bif_some hcs
        rw [Bool.and_eq_true] at hq
        have hg := Nat.eq_of_beq_eq_true hq.1
        have hle := Nat.le_of_ble_eq_true hq.2
        obtain rfl := Option.some.inj hcs
        obtain ⟨bb, B, r1, r2, r3, r4, r5, r6, r7, r8⟩ := hr.live l _ hT rfl
        cases hc with
        | ptr hp =>
          obtain ⟨T, b', q1, q2, q3, q4⟩ := hp
          obtain rfl := Option.some.inj (hT.symm.trans q1)
          obtain rfl := Option.some.inj (r1.symm.trans q2)
          obtain ⟨_, rfl⟩ := q4 hg
          have hlen := r8.length
          simp only at hlen hg
          exact key _ off B _ _ rfl r4 (by omega) rfl ((r8.drop off).take n) (by rw [List.length_take, List.length_drop]; simp only; omega) h3
      · cases hcs
    · cases h3
  · rename_i row off
    obtain ⟨hle, h3⟩ := bif_some h3
    have hle := Nat.le_of_ble_eq_true hle
    cases hc with
    | fp hF hle2 hcs hrs =>
      rename_i b d B cs
      obtain ⟨hlt, hget⟩ := hr.fz _ _ hF
      refine key b (d + off) B _ ((cs.drop off).take n) rfl hget (by omega) ?_ (CRs.ofP ((hrs.drop off).take n)) (by rw [List.length_map, List.length_take, List.length_drop]; omega) h3
      rw [← hcs, List.drop_take, List.drop_drop, List.take_take]
      congr 1
      omega
  · cases h3
omit [Syms] in
theorem res_sim {F : Fz} {ρ : List Nat} {τ : St2} {σ : St} (hr : R F ρ τ σ) {t2 : Tm} {t1 : Tr Value} (hk : TmR F ρ τ t2 t1) : ∀ {rs : List ResultVar} {sr : List SR} {cs : List C}, lowR P rs = some sr → resS t2 τ sr = some cs → ∃ ws, evResults P t1 σ rs = some ws ∧ CRs F ρ τ cs ws
  | [], sr, cs, hl, h => by
    obtain rfl := Option.some.inj hl
    obtain rfl := Option.some.inj h
    exact ⟨[], rfl, .nil⟩
  | .tmp t :: rs, sr, cs, hl, h => by
    simp only [lowR] at hl
    split at hl
    · rename_i l hl2
      obtain rfl := Option.some.inj hl
      simp only [resS] at h
      split at h
      · rename_i c l2 hc hl3
        obtain rfl := Option.some.inj h
        obtain ⟨ws, q1, q2⟩ := res_sim hr hk hl2 hl3
        obtain ⟨w, q3, q4⟩ := hk t c hc
        exact ⟨w :: ws, by simp only [evResults, q1, q3, reCons], .cons q4 q2⟩
      · cases h
    · cases hl
  | .cell a t :: rs, sr, cs, hl, h => by
    simp only [lowR] at hl
    split at hl
    · rename_i n ag l hag hl2
      obtain rfl := Option.some.inj hl
      simp only [resS] at h
      split at h
      · rename_i x l2 hx hl3
        split at h
        · rename_i c hc
          obtain rfl := Option.some.inj h
          obtain ⟨ws, q1, q2⟩ := res_sim hr hk hl2 hl3
          obtain ⟨w, q3, q4⟩ := hk a x hx
          obtain ⟨w', q5, q6⟩ := loadC_sim hr hag q4 hc
          exact ⟨w' :: ws, by simp only [evResults, q1, q3, q5, reCons], .cons q6 q2⟩
        · cases h
      · cases h
    · cases hl
omit [Syms] in
theorem tup1_sim {F : Fz} {ρ : List Nat} {τ : St2} {ds : List C} {ws : List Value} (h : CRs F ρ τ ds ws) (σ : St) : ∃ w, caRes σ (some ws) = some (w, σ) ∧ CR F ρ τ (tup1 ds) w := by
  cases h with
  | nil => exact ⟨_, rfl, .tup .nil⟩
  | cons h1 h2 =>
    cases h2 with
    | nil => exact ⟨_, rfl, h1⟩
    | cons h3 h4 => exact ⟨_, rfl, .tup (.cons h1 (.cons h3 h4))⟩
omit [Syms] in
theorem tmOf_low : ∀ (vs : List Value) (i : Nat) (tm : Tr Value) (t : Nat), t < i → (tmOf vs i tm).get t = tm.get t
  | [], _, _, _, _ => rfl
  | v :: vs, i, tm, t, h => by
    simp only [tmOf]
    rw [tmOf_low vs (i + 1) _ t (by omega), Tr.get_put]
    rw [if_neg (by omega)]
omit [Syms] in
theorem tmS_sim {F : Fz} {ρ : List Nat} {τ : St2} : ∀ {args : List C} {ws : List Value} (i : Nat) (tm : Tr Value), CRs F ρ τ args ws → TmR F ρ τ (tmS args i) (tmOf ws i tm)
  | _, _, i, tm, .nil => fun n c h => by cases h
  | _, _, i, tm, .cons (x := x) (w := w) (xs := xs) (ws := ws) h1 h2 => fun n c h => by
    simp only [tmS, look] at h
    cases hb : Nat.beq n i with
    | true =>
      rw [hb] at h
      obtain rfl := Option.some.inj h
      obtain rfl := Nat.eq_of_beq_eq_true hb
      refine ⟨w, ?_, h1⟩
      simp only [tmOf]
      rw [tmOf_low ws (n + 1) _ n (by omega), Tr.get_put]
      simp
    | false =>
      rw [hb] at h
      exact tmS_sim (i + 1) (tm.put i (some w)) h2 n c h
omit [Syms] in
theorem TabsIn.le {F F' : Fz} (h : TabsIn gl tabs F) (k : FLe F F') : TabsIn gl tabs F' := h.mono k
omit [Syms] in
theorem lowF_ext {an : FuncId → Option (An × Fl)} {f : FuncId} {sf : SF} (h : lowF P tabs an f = some sf) : sf.ext = none := by
  unfold lowF at h
  split at h
  · split at h
    · obtain ⟨_, h⟩ := bif_some h
      split at h
      · obtain rfl := Option.some.inj h
        rfl
      · cases h
    · cases h
  · cases h
theorem body_sim (hcall : Call2OK P gl tabs call2 Rn) {an : FuncId → Option (An × Fl)} {f : FuncId} {args : List C} {τ τ' : St2} {c : C}
    (h : bodyS (lowF P tabs an f) call2 args τ = some (c, τ')) {F : Fz} {ρ : List Nat} {σ : St} {ws : List Value} (hr : R F ρ τ σ) (ht : TabsIn gl tabs F) (ha : CRs F ρ τ args ws) :
    ∃ N w σ' F' ρ', (∀ r m, N ≤ r → N ≤ m → caBody P gl (Rn r m) r ws σ P.funcs[f]? = some (w, σ')) ∧ Stp F ρ τ σ F' ρ' τ' σ' ∧ CR F' ρ' τ' c w := by
  unfold bodyS at h
  split at h
  · rename_i sf hsf
    rw [lowF_ext hsf] at h
    obtain ⟨hlen, h⟩ := bif_some h
    unfold lowF at hsf
    split at hsf
    · rename_i fn a fl' hfn han
      split at hsf
      · rename_i body hb
        obtain ⟨hd, hsf⟩ := bif_some hsf
        split at hsf
        · rename_i s sr hs hsr
          obtain rfl := Option.some.inj hsf
          simp only at hlen h
          have fin : ∀ (out : Out) (tm : Tm) (τ1 : St2), (out = .normal ∨ out = .ret) → evS fl' call2 s (tmS args 0) τ = some (out, tm, τ1) → (match resS tm τ1 sr with | some cs => leave fl'.raw τ τ1 cs | none => none) = some (c, τ') → ∃ N w σ' F' ρ', (∀ r m, N ≤ r → N ≤ m → caBody P gl (Rn r m) r ws σ P.funcs[f]? = some (w, σ')) ∧ Stp F ρ τ σ F' ρ' τ' σ' ∧ CR F' ρ' τ' c w := by
            intro out tm τ1 hout hev hres
            obtain ⟨N, t1', σ', F', ρ', q1, q2, q3⟩ := code_sim (fi := (none, fn.ntmps)) hcall body a s hs hev hr ht (tmS_sim 0 .nil ha)
            split at hres
            · rename_i cs hcs
              obtain ⟨us, u1, u2⟩ := res_sim q2.r q3 hsr hcs
              obtain ⟨F'', ρ'', ds, d1, d2, rfl⟩ := leave_sim hr q2 u2 hres
              obtain ⟨w, e1, e2⟩ := tup1_sim d2 σ'
              refine ⟨N, w, σ', F'', ρ'', fun r m h1 h2 => ?_, d1, e2⟩
              rw [hfn]
              simp only [caBody, caFn, hb]
              rw [hd, ← ha.length, hlen]
              simp only [Bool.and_self, cond_true]
              rw [q1 r m h1 h2]
              rcases hout with rfl | rfl
              · show caRes σ' (evResults P t1' σ' fn.results.toList) = _
                rw [u1]; exact e1
              · show caRes σ' (evResults P t1' σ' fn.results.toList) = _
                rw [u1]; exact e1
            · cases hres
          cases hev : evS fl' call2 s (tmS args 0) τ with
          | none => rw [hev] at h; cases h
          | some q =>
            obtain ⟨out, tm, τ1⟩ := q
            rw [hev] at h
            cases out with
            | exit id => cases h
            | normal => exact fin .normal tm τ1 (.inl rfl) hev h
            | ret => exact fin .ret tm τ1 (.inr rfl) hev h
        · cases hsf
      · cases hsf
    · cases hsf
  · cases h
omit [Syms] in
theorem lowF_body {an : FuncId → Option (An × Fl)} {f : FuncId} {sf : SF} (h : lowF P tabs an f = some sf) : ∃ fn body, P.funcs[f]? = some fn ∧ fn.body = some body := by
  unfold lowF at h
  split at h
  · rename_i fn a fl' hfn han
    split at h
    · rename_i body hb
      exact ⟨fn, body, hfn, hb⟩
    · cases h
  · cases h
def ExtOK (P : Program) (X : Exts) : Prop := ∀ f x args c, extAt f X = some x → x args = some c → ∃ fn, P.funcs[f]? = some fn ∧ fn.body = none ∧ ∀ (F : Fz) (ρ : List Nat) (τ : St2) ws, CRs F ρ τ args ws → ws.all ground = true ∧ ∃ v, pureSem P (callFunc f ws.toArray) = some (.value v) ∧ ground v = true ∧ CR F ρ τ c v
theorem G_ok {X : Exts} (hX : ExtOK P X) (an : FuncId → Option (An × Fl)) : ∀ n, Call2OK P gl tabs (G (lowT P tabs X an) n) (fun r m => evRun P gl noOracle r m)
  | 0 => fun f args τ c τ' h => by cases h
  | n + 1 => fun f args τ c τ' h F ρ σ ws hr ht ha => by
    have h : bodyS (lowT P tabs X an f) (G (lowT P tabs X an) n) args τ = some (c, τ') := h
    unfold lowT at h
    cases hx : extAt f X with
    | some x =>
      rw [hx] at h
      simp only [bodyS, extS] at h
      split at h
      · rename_i c' hc
        simp only [Option.some.injEq, Prod.mk.injEq] at h
        obtain ⟨rfl, rfl⟩ := h
        obtain ⟨fn, h1, h2, h3⟩ := hX f x args c' hx hc
        obtain ⟨k1, v, k2, k3, k4⟩ := h3 F ρ τ ws ha
        refine ⟨0, v, σ, F, ρ, fun r m _ _ => ?_, Stp.refl hr, k4⟩
        simp only [efFn, h1, efFn1, h2, efExt, k1, cond_true, k2, efExt1, k3]
      · cases h
    | none =>
      rw [hx] at h
      simp only at h
      have hb : ∃ fn body, P.funcs[f]? = some fn ∧ fn.body = some body := by
        unfold bodyS at h
        split at h
        · rename_i sf hsf
          exact lowF_body hsf
        · cases h
      obtain ⟨fn, body, hfn, hbody⟩ := hb
      obtain ⟨N, w, σ', F', ρ', q1, q2, q3⟩ := body_sim (G_ok hX an n) h hr ht ha
      refine ⟨N + 1, w, σ', F', ρ', fun r m h1 h2 => ?_, q2, q3⟩
      simp only [efFn, hfn, efFn1, hbody]
      cases m with
      | zero => omega
      | succ m =>
        have := q1 r m (by omega) (by omega)
        rw [hfn] at this
        show caBody P gl (evRun P gl noOracle r m) r ws σ P.funcs[f]? = _
        rw [hfn]
        exact this
end
end Go.Proofs.YtpkchglfgkkcbaaDoor.Vs
namespace Go.Proofs.YtpkchglfgkkcbaaDoor.Vs
open Go.Proofs.YtpkchglfgkkcbaaDoor.Ev
noncomputable section
open Classical

def CLe (c c' : Call2) : Prop := ∀ f args τ r, c f args τ = some r → c' f args τ = some r
section
variable {fl : Fl} {c c' : Call2}
theorem opV_mono (h : CLe c c') {e : Arg → Option C} {τ : St2} {o : SOp} {r} (k : opV fl c e τ o = some r) : opV fl c' e τ o = some r := by
  unfold opV at k ⊢
  cases hi : isEf o with
  | false => rw [hi] at k; exact k
  | true =>
    rw [hi] at k
    simp only [cond_true] at k ⊢
    cases o with
    | call f as =>
      simp only [efV] at k ⊢
      cases hf : e f with
      | none => rw [hf] at k; cases k
      | some a =>
        cases hs : ev2 e as with
        | none => rw [hf, hs] at k; cases k
        | some l =>
          rw [hf, hs] at k
          simp only [bi] at k ⊢
          cases a with
          | p x =>
            cases x with
            | fn f => exact h _ _ _ _ k
            | _ => cases k
          | clo f a b => exact h _ _ _ _ k
          | _ => cases k
    | _ => exact k
theorem chkV_mono {ef : Bool} {chk : List Arg} {e : Arg → Option C} {τ : St2} {f g : St2 → Option (C × St2)} (h : ∀ τ r, f τ = some r → g τ = some r) {r} (k : chkV ef chk e τ f = some r) : chkV ef chk e τ g = some r := by
  cases chk with
  | nil => exact h _ _ k
  | cons x l =>
    simp only [chkV] at k ⊢
    split at k
    · rename_i c t hf
      rw [h _ _ hf]
      exact k
    · cases k
theorem evL_mono (h : CLe c c') : ∀ (l : List SI) {tm : Tm} {τ : St2} {r}, evL fl c l tm τ = some r → evL fl c' l tm τ = some r
  | [], _, _, _, k => k
  | s :: l, tm, τ, r, k => by
    simp only [evL] at k ⊢
    split at k
    · rename_i hw
      split at k
      · rename_i d t hc
        rw [chkV_mono (fun τ r hr => opV_mono h hr) hc]
        exact evL_mono h l k
      · cases k
    · exact evL_mono h l k
    · cases k
theorem next2_mono {k k' : Code2} (h : ∀ tm τ r, k tm τ = some r → k' tm τ = some r) {x : Out2} {r} (q : next2 k x = some r) : next2 k' x = some r := by
  cases x with
  | none => cases q
  | some y =>
    obtain ⟨o, tm, τ⟩ := y
    cases o with
    | normal => exact h _ _ _ q
    | exit id => exact q
    | ret => exact q
theorem next2_mono2 {k k' : Code2} (h : ∀ tm τ r, k tm τ = some r → k' tm τ = some r) {x x' : Out2} (hx : ∀ r, x = some r → x' = some r) {r} (q : next2 k x = some r) : next2 k' x' = some r := by
  cases x with
  | none => cases q
  | some y => rw [hx y rfl]; exact next2_mono h q
theorem round_mono {ks : List Nat} {k k' : Code2} (h : ∀ tm τ r, k tm τ = some r → k' tm τ = some r) {tm : Tm} {τ : St2} {r} (q : round ks k tm τ = some r) : round ks k' tm τ = some r := by
  unfold round at q ⊢
  cases hk : k (keep ks tm) τ with
  | none => rw [hk] at q; cases q
  | some y => rw [hk] at q; rw [h _ _ _ hk]; exact q
theorem iter_mono2 {k k' : Code2} (h : ∀ tm τ r, k tm τ = some r → k' tm τ = some r) : ∀ (n : Nat) {tm : Tm} {τ : St2} {r}, iter k n tm τ = some r → iter k' n tm τ = some r
  | 0, _, _, _, q => by cases q
  | n + 1, tm, τ, r, q => next2_mono2 (k := iter k n) (k' := iter k' n) (fun _ _ _ hq => iter_mono2 h n hq) (h tm τ) (show next2 (iter k n) (k tm τ) = some r from q)
theorem evS_mono (h : CLe c c') : ∀ (s : SC) {tm : Tm} {τ : St2} {r}, evS fl c s tm τ = some r → evS fl c' s tm τ = some r
  | .skip, _, _, _, q => q
  | .reg l ks, tm, τ, r, q => by
    simp only [evS] at q ⊢
    cases he : evL fl c l tm τ with
    | none => rw [he] at q; cases q
    | some y => rw [he] at q; rw [evL_mono h l he]; exact q
  | .seq a b, tm, τ, r, q => next2_mono2 (fun _ _ _ hq => evS_mono h b hq) (fun _ hq => evS_mono h a hq) (show next2 (evS fl c b) (evS fl c a tm τ) = some r from q)
  | .cond x a b, tm, τ, r, q => by
    simp only [evS] at q ⊢
    unfold condS at q ⊢
    split at q
    · exact evS_mono h a q
    · exact evS_mono h b q
    · cases q
  | .block id a, tm, τ, r, q => by
    simp only [evS] at q ⊢
    cases he : evS fl c a tm τ with
    | none => rw [he] at q; cases q
    | some y => rw [he] at q; rw [evS_mono h a he]; exact q
  | .loop ac ks a, tm, τ, r, q => by
    simp only [evS] at q ⊢
    obtain ⟨n, hn⟩ := Loop_some q
    exact Loop_iter (iter_mono2 (fun _ _ _ hq => round_mono (fun _ _ _ hq => evS_mono h a hq) hq) n hn)
  | .exit id, _, _, _, q => q
  | .ret, _, _, _, q => q
end
theorem bodyS_mono {c c' : Call2} (h : CLe c c') {sf : Option SF} {args : List C} {τ : St2} {r} (q : bodyS sf c args τ = some r) : bodyS sf c' args τ = some r := by
  unfold bodyS at q ⊢
  split at q
  · rename_i sf
    split at q
    · exact q
    · cases hl : Nat.ble args.length sf.n with
      | false => rw [hl] at q; cases q
      | true =>
        rw [hl] at q
        simp only [cond_true] at q ⊢
        cases he : evS sf.fl c sf.code (tmS args 0) τ with
        | none => rw [he] at q; cases q
        | some y => rw [he] at q; rw [evS_mono h _ he]; exact q
  · cases q
theorem G_succ (T : FuncId → Option SF) : ∀ n, CLe (G T n) (G T (n + 1))
  | 0 => fun _ _ _ _ h => by cases h
  | n + 1 => fun f args τ r h => bodyS_mono (G_succ T n) (show bodyS (T f) (G T n) args τ = some r from h)
theorem G_le (T : FuncId → Option SF) {n m : Nat} (h : n ≤ m) : CLe (G T n) (G T m) := by
  induction h with
  | refl => exact fun _ _ _ _ h => h
  | step _ ih => exact fun f args τ r k => G_succ T _ f args τ r (ih f args τ r k)
structure Chain (c : Nat → Call2) (l : Call2) : Prop where
  mono : ∀ n m, n ≤ m → CLe (c n) (c m)
  lim : ∀ f args τ r, l f args τ = some r → ∃ n, c n f args τ = some r
section
variable {fl : Fl} {c : Nat → Call2} {l : Call2}
theorem opV_lim (h : Chain c l) {e : Arg → Option C} {τ : St2} {o : SOp} {r} (k : opV fl l e τ o = some r) : ∃ n, opV fl (c n) e τ o = some r := by
  unfold opV at k ⊢
  cases hi : isEf o with
  | false => rw [hi] at k; exact ⟨0, k⟩
  | true =>
    rw [hi] at k
    simp only [cond_true] at k ⊢
    cases o with
    | call f as =>
      simp only [efV] at k ⊢
      cases hf : e f with
      | none => rw [hf] at k; cases k
      | some a =>
        cases hs : ev2 e as with
        | none => rw [hf, hs] at k; cases k
        | some l =>
          rw [hf, hs] at k
          simp only [bi] at k ⊢
          cases a with
          | p x =>
            cases x with
            | fn f => exact h.lim _ _ _ _ k
            | _ => cases k
          | clo f a b => exact h.lim _ _ _ _ k
          | _ => cases k
    | _ => exact ⟨0, k⟩
theorem chkV_lim {ef : Bool} {chk : List Arg} {e : Arg → Option C} {τ : St2} {f : St2 → Option (C × St2)} {g : Nat → St2 → Option (C × St2)} (h : ∀ τ r, f τ = some r → ∃ n, g n τ = some r) {r} (k : chkV ef chk e τ f = some r) : ∃ n, chkV ef chk e τ (g n) = some r := by
  cases chk with
  | nil => exact h _ _ k
  | cons x l =>
    simp only [chkV] at k ⊢
    split at k
    · rename_i c t hf
      obtain ⟨n, hn⟩ := h _ _ hf
      exact ⟨n, by rw [hn]; exact k⟩
    · cases k
theorem evL_lim (h : Chain c l) : ∀ (is : List SI) {tm : Tm} {τ : St2} {r}, evL fl l is tm τ = some r → ∃ n, evL fl (c n) is tm τ = some r
  | [], _, _, _, k => ⟨0, k⟩
  | s :: is, tm, τ, r, k => by
    simp only [evL] at k ⊢
    split at k
    · rename_i hw
      split at k
      · rename_i d t hc
        obtain ⟨n, hn⟩ := chkV_lim (g := fun n τ => opV fl (c n) (env tm) τ s.op) (fun τ r hr => opV_lim h hr) hc
        obtain ⟨m, hm⟩ := evL_lim h is k
        refine ⟨max n m, ?_⟩
        rw [chkV_mono (fun τ r hr => opV_mono (h.mono n (max n m) (Nat.le_max_left ..)) hr) hn]
        exact evL_mono (h.mono m (max n m) (Nat.le_max_right ..)) is hm
      · cases k
    · exact evL_lim h is k
    · cases k
theorem next2_lim {k : Code2} {k' : Nat → Code2} (hk : ∀ tm τ r, k tm τ = some r → ∃ n, k' n tm τ = some r) {x : Out2} {x' : Nat → Out2} (hx : ∀ r, x = some r → ∃ n, x' n = some r) (mk : ∀ n m, n ≤ m → ∀ tm τ r, k' n tm τ = some r → k' m tm τ = some r) (mx : ∀ n m, n ≤ m → ∀ r, x' n = some r → x' m = some r) {r} (q : next2 k x = some r) : ∃ n, next2 (k' n) (x' n) = some r := by
  cases x with
  | none => cases q
  | some y =>
    obtain ⟨n, hn⟩ := hx y rfl
    obtain ⟨o, tm, τ⟩ := y
    cases o with
    | normal =>
      obtain ⟨m, hm⟩ := hk tm τ r q
      refine ⟨max n m, ?_⟩
      rw [mx n _ (Nat.le_max_left ..) _ hn]
      exact mk m _ (Nat.le_max_right ..) _ _ _ hm
    | exit id => exact ⟨n, by rw [hn]; exact q⟩
    | ret => exact ⟨n, by rw [hn]; exact q⟩
theorem round_lim {ks : List Nat} {k : Code2} {k' : Nat → Code2} (hk : ∀ tm τ r, k tm τ = some r → ∃ n, k' n tm τ = some r) {tm : Tm} {τ : St2} {r} (q : round ks k tm τ = some r) : ∃ n, round ks (k' n) tm τ = some r := by
  unfold round at q ⊢
  cases h : k (keep ks tm) τ with
  | none => rw [h] at q; cases q
  | some y =>
    rw [h] at q
    obtain ⟨n, hn⟩ := hk _ _ _ h
    exact ⟨n, by rw [hn]; exact q⟩
theorem iter_lim {k : Code2} {k' : Nat → Code2} (hk : ∀ tm τ r, k tm τ = some r → ∃ n, k' n tm τ = some r) (mk : ∀ n m, n ≤ m → ∀ tm τ r, k' n tm τ = some r → k' m tm τ = some r) : ∀ (i : Nat) {tm : Tm} {τ : St2} {r}, iter k i tm τ = some r → ∃ n, iter (k' n) i tm τ = some r
  | 0, _, _, _, q => by cases q
  | i + 1, tm, τ, r, q => next2_lim (k := iter k i) (k' := fun n => iter (k' n) i) (fun _ _ _ hq => iter_lim hk mk i hq) (x' := fun n => k' n tm τ) (hk tm τ) (fun n m hnm _ _ _ hq => iter_mono2 (mk n m hnm) i hq) (fun n m hnm => mk n m hnm tm τ) (show next2 (iter k i) (k tm τ) = some r from q)
theorem evS_lim (h : Chain c l) : ∀ (s : SC) {tm : Tm} {τ : St2} {r}, evS fl l s tm τ = some r → ∃ n, evS fl (c n) s tm τ = some r
  | .skip, _, _, _, q => ⟨0, q⟩
  | .reg is ks, tm, τ, r, q => by
    simp only [evS] at q ⊢
    cases he : evL fl l is tm τ with
    | none => rw [he] at q; cases q
    | some y =>
      rw [he] at q
      obtain ⟨n, hn⟩ := evL_lim h is he
      exact ⟨n, by rw [hn]; exact q⟩
  | .seq a b, tm, τ, r, q => next2_lim (k' := fun n => evS fl (c n) b) (fun _ _ _ hq => evS_lim h b hq) (x' := fun n => evS fl (c n) a tm τ) (fun _ hq => evS_lim h a hq) (fun n m hnm _ _ _ hq => evS_mono (h.mono n m hnm) b hq) (fun n m hnm _ hq => evS_mono (h.mono n m hnm) a hq) (show next2 (evS fl l b) (evS fl l a tm τ) = some r from q)
  | .cond x a b, tm, τ, r, q => by
    simp only [evS] at q ⊢
    unfold condS at q ⊢
    split at q
    · exact evS_lim h a q
    · exact evS_lim h b q
    · cases q
  | .block id a, tm, τ, r, q => by
    simp only [evS] at q ⊢
    cases he : evS fl l a tm τ with
    | none => rw [he] at q; cases q
    | some y =>
      rw [he] at q
      obtain ⟨n, hn⟩ := evS_lim h a he
      exact ⟨n, by rw [hn]; exact q⟩
  | .loop ac ks a, tm, τ, r, q => by
    simp only [evS] at q ⊢
    obtain ⟨i, hi⟩ := Loop_some q
    obtain ⟨n, hn⟩ := iter_lim (k' := fun n => round ks (evS fl (c n) a)) (fun _ _ _ hq => round_lim (k' := fun n => evS fl (c n) a) (fun _ _ _ hq => evS_lim h a hq) hq) (fun n m hnm _ _ _ hq => round_mono (fun _ _ _ hq => evS_mono (h.mono n m hnm) a hq) hq) i hi
    exact ⟨n, Loop_iter hn⟩
  | .exit id, _, _, _, q => ⟨0, q⟩
  | .ret, _, _, _, q => ⟨0, q⟩
end
theorem bodyS_lim {c : Nat → Call2} {l : Call2} (h : Chain c l) {sf : Option SF} {args : List C} {τ : St2} {r} (q : bodyS sf l args τ = some r) : ∃ n, bodyS sf (c n) args τ = some r := by
  unfold bodyS at q ⊢
  split at q
  · rename_i sf
    split at q
    · exact ⟨0, q⟩
    · cases hl : Nat.ble args.length sf.n with
      | false => rw [hl] at q; cases q
      | true =>
        rw [hl] at q
        simp only [cond_true] at q ⊢
        cases he : evS sf.fl l sf.code (tmS args 0) τ with
        | none => rw [he] at q; cases q
        | some y =>
          rw [he] at q
          obtain ⟨n, hn⟩ := evS_lim h _ he
          exact ⟨n, by rw [hn]; exact q⟩
  · cases q
def go (T : FuncId → Option SF) : Call2 := fun f args τ => if h : ∃ n r, G T n f args τ = some r then some h.choose_spec.choose else none
theorem go_of {T : FuncId → Option SF} {n : Nat} {f : FuncId} {args : List C} {τ : St2} {r} (h : G T n f args τ = some r) : go T f args τ = some r := by
  have hx : ∃ n r, G T n f args τ = some r := ⟨n, r, h⟩
  unfold go
  rw [dif_pos hx]
  have a := G_le T (Nat.le_max_left n hx.choose) f args τ _ h
  have b := G_le T (Nat.le_max_right n hx.choose) f args τ _ hx.choose_spec.choose_spec
  rw [a] at b
  exact b.symm
theorem go_some {T : FuncId → Option SF} {f : FuncId} {args : List C} {τ : St2} {r} (h : go T f args τ = some r) : ∃ n, G T n f args τ = some r := by
  unfold go at h
  split at h
  · rename_i hx
    refine ⟨hx.choose, ?_⟩
    rw [hx.choose_spec.choose_spec, h]
  · cases h
theorem go_chain (T : FuncId → Option SF) : Chain (G T) (go T) := ⟨fun _ _ h => G_le T h, fun _ _ _ _ h => go_some h⟩
theorem go_eq (T : FuncId → Option SF) (f : FuncId) (args : List C) (τ : St2) : go T f args τ = bodyS (T f) (go T) args τ := by
  cases h : bodyS (T f) (go T) args τ with
  | some r =>
    obtain ⟨n, hn⟩ := bodyS_lim (go_chain T) h
    exact go_of (n := n + 1) hn
  | none =>
    cases h2 : go T f args τ with
    | none => rfl
    | some r =>
      obtain ⟨n, hn⟩ := go_some h2
      cases n with
      | zero => cases hn
      | succ n =>
        have hn : bodyS (T f) (G T n) args τ = some r := hn
        rw [bodyS_mono (fun f args τ r hr => go_of hr) hn] at h
        cases h
end
end Go.Proofs.YtpkchglfgkkcbaaDoor.Vs
namespace Go.Proofs.YtpkchglfgkkcbaaDoor.Vs
open Go.Proofs.YtpkchglfgkkcbaaDoor.Ev Go.RowKit
variable [Syms]
def tabsOf : List (Nat × List Value) → Tabs
  | [] => []
  | (g, cs) :: gs => match psOfV cs with
    | some row => (g, row) :: tabsOf gs
    | none => []
noncomputable def startFz (gs : List (Nat × List Value)) : Fz := fun b => (startMem gs).get b
omit [Syms] in
theorem tabs_start {gl next : Nat} : ∀ {gs : List (Nat × List Value)}, (∀ g cs, (g, cs) ∈ gs → bitOf gl g = true) → ∀ g row, tabAt g (tabsOf gs) = some row → bitOf gl g = true ∧ ∃ cs, psOfV cs = some row ∧ (startMem gs).get g = some ⟨cs, true, 0, none⟩
  | [], _, g, row, h => by cases h
  | (g', cs) :: gs, hb, g, row, h => by
    simp only [tabsOf] at h
    split at h
    · rename_i row' hrow
      simp only [tabAt] at h
      cases hq : Nat.beq g g' with
      | true =>
        rw [hq] at h
        obtain rfl := Option.some.inj h
        obtain rfl := Nat.eq_of_beq_eq_true hq
        exact ⟨hb g cs (List.mem_cons_self ..), cs, hrow, by rw [startMem, Tr.get_put_same]⟩
      | false =>
        rw [hq] at h
        obtain ⟨h1, cs', h2, h3⟩ := tabs_start (next := next) (fun g cs hm => hb g cs (List.mem_cons_of_mem _ hm)) g row h
        refine ⟨h1, cs', h2, ?_⟩
        rw [startMem, Tr.get_put_other _ _ (fun e => by rw [e] at hq; simp at hq)]
        exact h3
    · cases h
inductive ArgW (w : World) : List C → List Value → Prop where
  | nil : ArgW w [] []
  | pure {x : PV} {v : Value} {xs : List C} {vs : List Value} (h : PR (fun _ => none) x v) (hg : ground v = true) (hs : ArgW w xs vs) : ArgW w (.p x :: xs) (v :: vs)
  | slice {es b off cap : Nat} {rows : List (List PV)} {cs : List Value} {xs : List C} {vs : List Value} (hb : b < w.heap.size) (hn : rows.length ≤ cap) (hc : cap < ucap) (hr : PRs (fun _ => none) rows.flatten cs) (hlen : cs.length = rows.length * es) (hw : ∀ r, r ∈ rows → r.length = es)
      (hcs : ∀ (i : Nat) (v : Value), cs[i]? = some v → w.cell? ⟨b, off + i, none⟩ = some v ∧ ground v = true) (hs : ArgW w xs vs) : ArgW w (.p (.list false es rows) :: xs) (.slice (some ⟨b, off, none⟩) rows.length cap :: vs)
theorem start_args {gl : Nat} {w : World} {opn : Nat → Prop} : ∀ {args : List C} {vals : List Value}, ArgW w args vals → ∀ {ρ : Ren} {σ : St} {F : Fz}, Ev.SR gl ⟨w, opn⟩ ρ σ w → (∀ l L B, ρ l = some L → σ.mem.get l = some B → B.ro = true) → R F [] [] σ →
    ∃ ρ' σ' F' ws, Ev.SR gl ⟨w, opn⟩ ρ' σ' w ∧ R F' [] [] σ' ∧ FLe F F' ∧ CRs F' [] [] args ws ∧ VRs ρ' ws vals ∧ Le ρ ρ'
  | _, _, .nil, ρ, σ, F, hs, _, hr => ⟨ρ, σ, F, [], hs, hr, FLe.refl _, .nil, .nil, Le.refl _⟩
  | _, _, .pure h hg k, ρ, σ, F, hs, hall, hr => by
    obtain ⟨ρ', σ', F', ws, h1, h2, h3, h4, h5, h6⟩ := start_args k hs hall hr
    exact ⟨ρ', σ', F', _ :: ws, h1, h2, h3, .cons (.p (h.mono fun _ _ e => by cases e)) h4, .cons (.refl hg) h5, h6⟩
  | _, _, .slice (es := es) (b := b) (off := off) (cap := cap) (rows := rows) (cs := cs) hb hn hc hrs hlen hw hcs k, ρ, σ, F, hs, hall, hr => by
    obtain ⟨g1, g2, g3⟩ := hs.extra hall (es := es) hb hb hcs
    have hget : (σ.new ⟨cs, true, es, none⟩).mem.get σ.next = some ⟨cs, true, es, none⟩ := Tr.get_put_same _ _ _
    have hFn : F σ.next = none := by
      cases hq : F σ.next with
      | none => rfl
      | some B => exact absurd (hr.fz _ _ hq).1 (Nat.lt_irrefl _)
    let F1 : Fz := fun x => if x = σ.next then some ⟨cs, true, es, none⟩ else F x
    have hF1 : FLe F F1 := fun x B hB => by
      show (if x = σ.next then _ else F x) = _
      rw [if_neg (fun e => by rw [e, hFn] at hB; cases hB)]
      exact hB
    have hr1 : R F1 [] [] (σ.new ⟨cs, true, es, none⟩) := by
      refine ⟨rfl, fun x B hB => ?_, fun l T hT => by simp at hT, fun l T hT => by simp at hT, fun l l' b T T' hT => by simp at hT⟩
      have hB2 : (if x = σ.next then some ⟨cs, true, es, none⟩ else F x) = some B := hB
      split at hB2
      · rename_i e
        subst e
        obtain rfl := Option.some.inj hB2
        exact ⟨Nat.lt_succ_self _, hget⟩
      · rename_i e
        obtain ⟨k1, k2⟩ := hr.fz x B hB2
        exact ⟨Nat.lt_succ_of_lt k1, (Tr.get_put_other _ _ e).trans k2⟩
    obtain ⟨ρ', σ', F', ws, h1, h2, h3, h4, h5, h6⟩ := start_args k g1 g2 hr1
    have hFs : F' σ.next = some ⟨cs, true, es, none⟩ := h3 _ _ (by show (if σ.next = σ.next then _ else _) = _; rw [if_pos rfl])
    refine ⟨ρ', σ', F', .slice (some ⟨σ.next, 0, none⟩) rows.length cap :: ws, h1, h2, hF1.trans h3, .cons (.p ?_) h4, .cons ?_ h5, g3.trans h6⟩
    · refine PR.list hFs rfl (by simp only; omega) ?_ hw (hrs.mono fun _ _ e => by cases e) ⟨hn, by omega⟩ (fun e => by cases e)
      show (cs.drop 0).take (rows.length * es) = cs
      rw [List.drop_zero, ← hlen]
      exact List.take_length
    · have hL := h6 _ _ (upd_same ρ σ.next ⟨b, off, cs.length, es⟩)
      exact VR.slice (o := 0) hL hc

theorem law_of_go {P : Program} (hm : P.follows .mixedOrders = true) (hng : NoCount P) {gl next f : Nat} {gs : List (Nat × List Value)} (hok : startOk gs gl next = true) (hbit : (gs.all fun x => bitOf gl x.1) = true) {X : Exts} (hX : ExtOK P X) {an : FuncId → Option (An × Fl)} {args : List C} {vals : List Value} {w : World} (ha : ArgW w args vals) {sf : SF} (hlow : lowF P (tabsOf gs) an f = some sf) {τ' : St2}
    (h : go (lowT P (tabsOf gs) X an) f args [] = some (.p (.bool true), τ')) (hg : GlobIs gs w) : Calls P f vals.toArray w fun e w' => e = .returned (.bool true) ∧ Below w.heap.size w w' := by
  obtain ⟨n, hn⟩ := go_some h
  have hr : R (startFz gs) [] [] ⟨startMem gs, next⟩ := by
    refine ⟨rfl, fun b B hB => ⟨?_, hB⟩, fun l T hT => by simp at hT, fun l T hT => by simp at hT, fun l l' b T T' hT => by simp at hT⟩
    unfold startFz at hB
    rw [start_mem] at hB
    obtain ⟨⟨g, cs⟩, hf, _⟩ := Option.map_eq_some_iff.1 hB
    have hq := List.find?_some hf
    have hmem := List.mem_of_find?_eq_some hf
    simp only at hq
    obtain rfl := Nat.eq_of_beq_eq_true hq
    unfold startOk at hok
    rw [Bool.and_eq_true, Bool.and_eq_true] at hok
    have := List.all_eq_true.1 hok.1.1 _ hmem
    rw [Bool.and_eq_true, Bool.and_eq_true] at this
    exact Nat.le_of_ble_eq_true this.1.1
  have ht : TabsIn gl (tabsOf gs) (startFz gs) := fun g row hrow => by
    obtain ⟨h1, cs, h2, h3⟩ := tabs_start (gl := gl) (next := next) (fun g cs hm => List.all_eq_true.1 hbit _ hm) g row hrow
    obtain ⟨k1, _⟩ := psOfV_rel (F := startFz gs) h2
    refine ⟨h1, _, cs, h3, Nat.le_of_eq k1.length, ?_, k1⟩
    rw [k1.length]
    exact List.take_length
  have hall : ∀ l L B, startRen gs l = some L → (startMem gs).get l = some B → B.ro = true := fun l L B _ hB => by
    rw [start_mem] at hB
    obtain ⟨x, _, rfl⟩ := Option.map_eq_some_iff.1 hB
    rfl
  obtain ⟨ρ', σ0, F0, ws, s1, s2, s3, s4, s5, _⟩ := start_args ha (start_sr hg hok) hall hr
  obtain ⟨N, v, σ', F', ρ'', q1, q2, q3⟩ := G_ok (P := P) (gl := gl) (tabs := tabsOf gs) hX an n f args [] _ τ' hn F0 [] σ0 ws s2 (ht.mono s3) s4
  have hv : v = .bool true := by
    cases q3 with
    | p hp => cases hp; rfl
  subst hv
  obtain ⟨fn, body, hfn, hbody⟩ := lowF_body hlow
  have QQ : (evRun P gl noOracle N N).call f ws σ0 = some (.bool true, σ') := by
    have := q1 N N (Nat.le_refl _) (Nat.le_refl _)
    simp only [efFn, hfn, efFn1, hbody] at this
    exact this
  refine (call_ok hm hng (w0 := w) (orc := noOracle) (fun f args σ v σ' h => by cases h) N f ws σ0 _ σ' QQ (fun _ => False) ρ' w vals.toArray s1 s5).mono ?_
  rintro e w' ⟨_, cv, rfl, _, h2, h3⟩
  obtain rfl := h2.bool_inv
  exact ⟨rfl, h3.old⟩
end Go.Proofs.YtpkchglfgkkcbaaDoor.Vs
namespace Go.Proofs.YtpkchglfgkkcbaaDoor.Vs
open Go.Proofs.YtpkchglfgkkcbaaDoor.Ev
noncomputable section
theorem nb (a b : Nat) : Nat.beq a b = decide (a = b) := by
  cases h : Nat.beq a b with
  | true => simp [Nat.eq_of_beq_eq_true h]
  | false => symm; rw [decide_eq_false_iff_not]; intro e; rw [e] at h; simp at h
theorem nl (a b : Nat) : Nat.ble a b = decide (a ≤ b) := by
  cases h : Nat.ble a b with
  | true => simp [Nat.le_of_ble_eq_true h]
  | false => symm; rw [decide_eq_false_iff_not]; intro e; rw [Nat.ble_eq_true_of_le e] at h; cases h
theorem trunc_same (tm : Tm) (τ : St2) : trunc tm τ τ = τ := by
  unfold trunc
  split
  · exact List.take_length
  · rfl
theorem asN_nat (k : IntKind) (n : Nat) : asN (.p (.int k (n : Int))) = some n := rfl
theorem wrap_nat {n : Nat} (h : n < 2 ^ 62) : IntKind.i64.wrap (n : Int) = (n : Int) := by
  unfold IntKind.wrap
  have h1 : ((n : Int) % 2 ^ 64) = n := by omega
  have h2 : ¬ ((n : Int) ≥ 2 ^ (64 - 1)) := by omega
  simp only [IntKind.bits, IntKind.signed, h1, Bool.true_and, decide_eq_true_eq, if_neg h2]
theorem wrap_succ {n : Nat} (h : n < 2 ^ 61) : IntKind.i64.wrap ((n : Int) + 1) = ((n + 1 : Nat) : Int) := wrap_nat (n := n + 1) (by omega)
theorem Loop_step {body : Code2} {tm tm' : Tm} {τ τ' : St2} (h : body tm τ = some (.normal, tm', τ')) : Loop body tm τ = Loop body tm' τ' := by rw [Loop_eq, h]; rfl
theorem Loop_exit {body : Code2} {tm tm' : Tm} {τ τ' : St2} {id : Nat} (h : body tm τ = some (.exit id, tm', τ')) : Loop body tm τ = some (.exit id, tm', τ') := by rw [Loop_eq, h]; rfl
theorem Loop_ret {body : Code2} {tm tm' : Tm} {τ τ' : St2} (h : body tm τ = some (.ret, tm', τ')) : Loop body tm τ = some (.ret, tm', τ') := by rw [Loop_eq, h]; rfl
theorem at_len (τ L : St2) : (τ ++ L)[τ.length]? = L[0]? := by rw [List.getElem?_append_right (Nat.le_refl _), Nat.sub_self]
theorem at_add (τ L : St2) (k : Nat) : (τ ++ L)[τ.length + k]? = L[k]? := by rw [List.getElem?_append_right (by omega)]; congr 1; omega
theorem set_len (τ L : St2) (B : B2) : (τ ++ L).set τ.length B = τ ++ L.set 0 B := by simp
theorem set_add (τ L : St2) (k : Nat) (B : B2) : (τ ++ L).set (τ.length + k) B = τ ++ L.set k B := by simp
theorem refs_p (k : Nat) : ∀ l : List PV, refsBs k (l.map .p) = true
  | [] => rfl
  | x :: l => by simp only [List.map_cons, refsBs, refsB, refs_p k l, Bool.and_self]
theorem trunc_app {tm : Tm} {τ L0 L1 : St2} (h : tmB (τ.length + L0.length) tm = true) (hle : L0.length ≤ L1.length) (hL : ∀ i, i < L0.length → L1[i]? = L0[i]? ∨ ∀ T, L1[i]? = some T → refsBs (τ.length + L0.length) T.cells = true) : trunc tm (τ ++ L0) (τ ++ L1) = τ ++ L1.take L0.length := by
  unfold trunc
  rw [if_pos]
  · rw [List.length_append, List.take_length_add_append]
  · refine ⟨by rw [List.length_append]; exact h, fun i hi => ?_, by rw [List.length_append, List.length_append]; omega⟩
    by_cases hlt : i < τ.length
    · left
      rw [List.getElem?_append_left hlt, List.getElem?_append_left hlt]
    · rw [List.length_append] at hi
      rw [List.getElem?_append_right (by omega), List.getElem?_append_right (by omega), List.length_append]
      exact hL (i - τ.length) (by omega)
def acc (es : Nat) (rows : List (List PV)) : B2 := ⟨rows.flatten.map .p, match rows with | [] => .virt | _ :: _ => .live, es, true⟩
def accV (l es : Nat) (rows : List (List PV)) : C := .ms l (rows.length * es) 0 rows.length ucap
theorem flat_len {es : Nat} : ∀ {rows : List (List PV)}, (∀ r, r ∈ rows → r.length = es) → rows.flatten.length = rows.length * es
  | [], _ => by simp
  | r :: rows, h => by
    rw [List.flatten_cons, List.length_append, h r (List.mem_cons_self ..), flat_len fun r hr => h r (List.mem_cons_of_mem _ hr), List.length_cons, Nat.succ_mul]
    omega
theorem chunks_rows {es : Nat} : ∀ {rows : List (List PV)}, (∀ r, r ∈ rows → r.length = es) → chunks es rows.length rows.flatten = rows
  | [], _ => rfl
  | r :: rows, h => by
    have hr := h r (List.mem_cons_self ..)
    simp only [List.length_cons, chunks, List.flatten_cons]
    rw [← hr, List.take_left, List.drop_left, hr, chunks_rows fun r hr => h r (List.mem_cons_of_mem _ hr)]
theorem acc_start (es : Nat) : (⟨[], .virt, es, true⟩ : B2) = acc es [] := rfl
theorem accV_start (l es : Nat) : C.ms l 0 0 0 ucap = accV l es [] := by unfold accV; simp
theorem app_acc {τ : St2} {l es : Nat} {rows new : List (List PV)} {x : Bool} (h : τ[l]? = some (acc es rows)) (hw : ∀ r, r ∈ rows → r.length = es) (hw2 : ∀ r, r ∈ new → r.length = es) (hn : rows.length + new.length ≤ 1000000) (hne : new ≠ []) :
    appC τ es (accV l es rows) (.p (.list x es new)) = some (accV l es (rows ++ new), τ.set l (acc es (rows ++ new))) := by
  have hl1 := flat_len hw
  have hl2 := flat_len hw2
  have hpos : 0 < new.length := List.length_pos_iff.2 hne
  have hnz : Nat.beq new.length 0 = false := by rw [nb]; simp; exact hne
  have hb : ∀ n : Nat, Nat.beq n n = true := fun n => Nat.beq_refl n
  unfold appC
  simp only [srcC, hb, cond_true, List.length_map, hl2]
  cases rows with
  | nil =>
    have h1 : Nat.ble new.length 1000000 = true := Nat.ble_eq_true_of_le (by simpa using hn)
    simp only [accV, appTo, h, acc, List.length_nil, Nat.zero_mul, hb, h1, Bool.and_self, cond_true, hnz, cond_false, List.nil_append, List.length_map, hl2]
    cases new with
    | nil => exact absurd rfl hne
    | cons r new => rfl
  | cons r rows =>
    have h1 : Nat.ble (rows.length + new.length + 1) 1000000 = true := Nat.ble_eq_true_of_le (by simp only [List.length_cons] at hn; omega)
    simp only [accV, appTo, h, acc, hb, Bool.and_self, cond_true, hnz, cond_false, List.length_map, hl2, List.cons_append, List.flatten_cons, List.flatten_append, List.map_append, List.length_append, List.length_cons, List.append_assoc]
    have : ((rows.length + 1) * es + new.length * es) = (rows.length + new.length + 1) * es := by rw [← Nat.add_mul]; congr 1; omega
    simp only [this]
    have h2 : rows.length + 1 + new.length = rows.length + new.length + 1 := by omega
    simp only [h2]
    have h3 := hl1
    simp only [List.flatten_cons, List.length_append, List.length_cons] at h3
    simp only [h3, hb, h1, Bool.and_self, cond_true]
theorem fzL_p {τ : St2} {k fuel : Nat} : ∀ l : List PV, fzL (fzC τ k (fuel + 1)) (l.map .p) = some (l.map .p)
  | [] => rfl
  | x :: l => by simp only [List.map_cons, fzL, fzC, fzL_p l]
theorem toPs_p : ∀ l : List PV, toPs (l.map .p) = some l
  | [] => rfl
  | x :: l => by simp only [List.map_cons, toPs, toPs_p l]
theorem fz_acc {τ : St2} {l es k fuel : Nat} {rows : List (List PV)} (h : τ[l]? = some (acc es rows)) (hk : k ≤ l) (hw : ∀ r, r ∈ rows → r.length = es) : fzC τ k (fuel + 2) (accV l es rows) = some (.p (.list false es rows)) := by
  have hb : ∀ n : Nat, Nat.beq n n = true := fun n => Nat.beq_refl n
  have hkl : Nat.ble (l + 1) k = false := by rw [nl]; simp; omega
  unfold accV fzC
  simp only [hkl, cond_false, h, acc]
  cases rows with
  | nil => simp only [List.length_nil, Nat.zero_mul, hb, Bool.and_self, cond_true]
  | cons r rows =>
    have hl := flat_len hw
    have hle : Nat.ble (0 + (r :: rows).length * es) ((r :: rows).length * es) = true := Nat.ble_eq_true_of_le (by omega)
    simp only [List.length_map, hl, hb, hle, Bool.and_self, cond_true, List.drop_zero, Bool.not_true, Bool.and_false]
    rw [List.take_of_length_le (by rw [List.length_map, hl]; exact Nat.le_refl _), fzL_p]
    simp only [fzRow, toPs_p, chunks_rows hw]
theorem leave_p (τ : St2) (x : PV) : leave false τ τ [.p x] = some (.p x, τ) := by
  have : refsBs τ.length [C.p x] = true ∧ Below2 τ.length τ τ ∧ τ.length ≤ τ.length := ⟨rfl, fun i _ => .inl rfl, Nat.le_refl _⟩
  simp only [leave, cond_false, fzL, fzC, if_pos this, tup1, List.take_length]
theorem leave_of {τ L : St2} {cs : List C} {ps : List PV} (h : fzL (fzC (τ ++ L) τ.length ((τ ++ L).length + 2)) cs = some (ps.map .p)) : leave false τ (τ ++ L) cs = some (tup1 (ps.map .p), τ) := by
  have : refsBs τ.length (ps.map C.p) = true ∧ Below2 τ.length τ (τ ++ L) ∧ τ.length ≤ (τ ++ L).length := ⟨refs_p _ _, fun i hi => .inl (List.getElem?_append_left hi), by rw [List.length_append]; omega⟩
  simp only [leave, cond_false, h, if_pos this, List.take_left]
theorem leave_gen {τ τ' : St2} {cs ds : List C} (h : fzL (fzC τ' τ.length (τ'.length + 2)) cs = some ds) (hr : refsBs τ.length ds = true) (hb : Below2 τ.length τ τ') (hle : τ.length ≤ τ'.length) : leave false τ τ' cs = some (tup1 ds, τ'.take τ.length) := by
  simp only [leave, cond_false, h, if_pos (And.intro hr (And.intro hb hle))]
theorem below_app (τ L : St2) : Below2 τ.length τ (τ ++ L) := fun _ hi => .inl (List.getElem?_append_left hi)
theorem below_set {τ L : St2} {l : Nat} {B : B2} (hB : refsBs τ.length B.cells = true) (hl : l < τ.length) : Below2 τ.length τ (τ.set l B ++ L) := fun i hi => by
  rw [List.getElem?_append_left (by rw [List.length_set]; exact hi)]
  by_cases e : l = i
  · subst e
    right
    intro T hT
    rw [List.getElem?_set_self hl] at hT
    obtain rfl := Option.some.inj hT
    exact hB
  · left
    rw [List.getElem?_set_ne e]
theorem fz_agg {τ : St2} {k fuel : Nat} (ps : List PV) : fzC τ k (fuel + 2) (.agg (ps.map .p)) = some (.agg (ps.map .p)) := by
  unfold fzC
  rw [fzL_p]
theorem refs_agg (k : Nat) (ps : List PV) : refsBs k [.agg (ps.map .p)] = true := by simp only [refsBs, refsB, refs_p, Bool.and_self]
theorem leave_agg (τ L : St2) (ps : List PV) : leave false τ (τ ++ L) [.agg (ps.map .p)] = some (.agg (ps.map .p), τ) := by
  have h : fzL (fzC (τ ++ L) τ.length ((τ ++ L).length + 2)) [.agg (ps.map .p)] = some [.agg (ps.map .p)] := by simp only [fzL, fz_agg]
  have := leave_gen (τ := τ) (τ' := τ ++ L) h (refs_agg _ ps) (below_app τ L) (by simp)
  rw [this, List.take_left]
  rfl
theorem leave_agg0 (τ : St2) (ps : List PV) : leave false τ τ [.agg (ps.map .p)] = some (.agg (ps.map .p), τ) := by
  have := leave_agg τ [] ps
  rwa [List.append_nil] at this
theorem leave_nil (τ L : St2) : leave false τ (τ ++ L) [] = some (.tup [], τ) := by
  have := leave_gen (τ := τ) (τ' := τ ++ L) (cs := []) (ds := []) rfl rfl (below_app τ L) (by simp)
  rw [this, List.take_left]
  rfl
theorem leave_nil0 (τ : St2) : leave false τ τ [] = some (.tup [], τ) := by
  have := leave_nil τ []
  rwa [List.append_nil] at this
theorem leave_set_nil {τ : St2} {l : Nat} {B : B2} (hB : refsBs τ.length B.cells = true) (hl : l < τ.length) : leave false τ (τ.set l B) [] = some (.tup [], τ.set l B) := by
  have := leave_gen (τ := τ) (τ' := τ.set l B ++ []) (cs := []) (ds := []) rfl rfl (below_set hB hl) (by simp)
  rw [List.append_nil] at this
  rw [this, List.take_of_length_le (by simp)]
  rfl
theorem leave_set_p {τ : St2} {l : Nat} {B : B2} {x : PV} (hB : refsBs τ.length B.cells = true) (hl : l < τ.length) : leave false τ (τ.set l B) [.p x] = some (.p x, τ.set l B) := by
  have := leave_gen (τ := τ) (τ' := τ.set l B ++ []) (cs := [.p x]) (ds := [.p x]) rfl rfl (below_set hB hl) (by simp)
  rw [List.append_nil] at this
  rw [this, List.take_of_length_le (by simp)]
  rfl
theorem succ_ne (n : Nat) : ((n : Int) + 1 = 0) ↔ False := iff_false_intro (by omega)
theorem succ_pos' (n : Nat) : (0 < (n : Int) + 1) ↔ True := iff_true_intro (by omega)
theorem leave3 (τ L : St2) (a b c : PV) : leave false τ (τ ++ L) [.agg [.p a, .p b, .p c]] = some (.agg [.p a, .p b, .p c], τ) := leave_agg τ L [a, b, c]
theorem leave_setL_p {τ L : St2} {l : Nat} {B : B2} {x : PV} (hB : refsBs τ.length B.cells = true) (hl : l < τ.length) : leave false τ (τ.set l B ++ L) [.p x] = some (.p x, τ.set l B) := by
  have := leave_gen (τ := τ) (τ' := τ.set l B ++ L) (cs := [.p x]) (ds := [.p x]) rfl rfl (below_set hB hl) (by simp)
  rw [this, List.take_append_of_le_length (by simp), List.take_of_length_le (by simp)]
  rfl
theorem leave_setL_nil {τ L : St2} {l : Nat} {B : B2} (hB : refsBs τ.length B.cells = true) (hl : l < τ.length) : leave false τ (τ.set l B ++ L) [] = some (.tup [], τ.set l B) := by
  have := leave_gen (τ := τ) (τ' := τ.set l B ++ L) (cs := []) (ds := []) rfl rfl (below_set hB hl) (by simp)
  rw [this, List.take_append_of_le_length (by simp), List.take_of_length_le (by simp)]
  rfl
theorem leave_pL (τ L : St2) (x : PV) : leave false τ (τ ++ L) [.p x] = some (.p x, τ) := by
  have := leave_gen (τ := τ) (τ' := τ ++ L) (cs := [.p x]) (ds := [.p x]) rfl rfl (below_app τ L) (by simp)
  rw [this, List.take_left]
  rfl
theorem set_low {τ L : St2} {l : Nat} {B : B2} (h : l < τ.length) : (τ ++ L).set l B = τ.set l B ++ L := List.set_append_left _ _ h
theorem at_low {τ L : St2} {l : Nat} (h : l < τ.length) : (τ ++ L)[l]? = τ[l]? := List.getElem?_append_left h
theorem at_len' {τ L : St2} {n : Nat} (h : τ.length = n) : (τ ++ L)[n]? = L[0]? := by rw [← h]; exact at_len τ L
theorem set_len' {τ L : St2} {n : Nat} {B : B2} (h : τ.length = n) : (τ ++ L).set n B = τ ++ L.set 0 B := by rw [← h]; exact set_len τ L B
end
end Go.Proofs.YtpkchglfgkkcbaaDoor.Vs
/-
  A function's answer that is a string, by an equation on values.
-/
namespace Go.Proofs.YtpkchglfgkkcbaaDoor.Vs
open Go.Proofs.YtpkchglfgkkcbaaDoor.Ev Go.RowKit
variable [Syms]
/-- A string by an equation. -/
theorem str_of_go {P : Program} (hm : P.follows .mixedOrders = true) (hng : NoCount P) {gl next f : Nat} {gs : List (Nat × List Value)} (hok : startOk gs gl next = true) (hbit : (gs.all fun x => bitOf gl x.1) = true) {X : Exts} (hX : ExtOK P X) {an : FuncId → Option (An × Fl)} {args : List C} {vals : List Value} {w : World} (ha : ArgW w args vals) {sf : SF} (hlow : lowF P (tabsOf gs) an f = some sf) {τ' : St2} {s : List UInt8}
    (h : go (lowT P (tabsOf gs) X an) f args [] = some (.p (.str s), τ')) (hg : GlobIs gs w) : Calls P f vals.toArray w fun e w' => e = .returned (.string ⟨s.toArray⟩) ∧ Below w.heap.size w w' := by
  obtain ⟨n, hn⟩ := go_some h
  have hr : R (startFz gs) [] [] ⟨startMem gs, next⟩ := by
    refine ⟨rfl, fun b B hB => ⟨?_, hB⟩, fun l T hT => by simp at hT, fun l T hT => by simp at hT, fun l l' b T T' hT => by simp at hT⟩
    unfold startFz at hB
    rw [start_mem] at hB
    obtain ⟨⟨g, cs⟩, hf, _⟩ := Option.map_eq_some_iff.1 hB
    have hq := List.find?_some hf
    have hmem := List.mem_of_find?_eq_some hf
    simp only at hq
    obtain rfl := Nat.eq_of_beq_eq_true hq
    unfold startOk at hok
    rw [Bool.and_eq_true, Bool.and_eq_true] at hok
    have := List.all_eq_true.1 hok.1.1 _ hmem
    rw [Bool.and_eq_true, Bool.and_eq_true] at this
    exact Nat.le_of_ble_eq_true this.1.1
  have ht : TabsIn gl (tabsOf gs) (startFz gs) := fun g row hrow => by
    obtain ⟨h1, cs, h2, h3⟩ := tabs_start (gl := gl) (next := next) (fun g cs hm => List.all_eq_true.1 hbit _ hm) g row hrow
    obtain ⟨k1, _⟩ := psOfV_rel (F := startFz gs) h2
    refine ⟨h1, _, cs, h3, Nat.le_of_eq k1.length, ?_, k1⟩
    rw [k1.length]
    exact List.take_length
  have hall : ∀ l L B, startRen gs l = some L → (startMem gs).get l = some B → B.ro = true := fun l L B _ hB => by
    rw [start_mem] at hB
    obtain ⟨x, _, rfl⟩ := Option.map_eq_some_iff.1 hB
    rfl
  obtain ⟨ρ', σ0, F0, ws, s1, s2, s3, s4, s5, _⟩ := start_args ha (start_sr hg hok) hall hr
  obtain ⟨N, v, σ', F', ρ'', q1, q2, q3⟩ := G_ok (P := P) (gl := gl) (tabs := tabsOf gs) hX an n f args [] _ τ' hn F0 [] σ0 ws s2 (ht.mono s3) s4
  have hv : v = .string ⟨s.toArray⟩ := by
    cases q3 with
    | p hp => cases hp; rfl
  subst hv
  obtain ⟨fn, body, hfn, hbody⟩ := lowF_body hlow
  have QQ : (evRun P gl noOracle N N).call f ws σ0 = some (.string ⟨s.toArray⟩, σ') := by
    have := q1 N N (Nat.le_refl _) (Nat.le_refl _)
    simp only [efFn, hfn, efFn1, hbody] at this
    exact this
  refine (call_ok hm hng (w0 := w) (orc := noOracle) (fun f args σ v σ' h => by cases h) N f ws σ0 _ σ' QQ (fun _ => False) ρ' w vals.toArray s1 s5).mono ?_
  rintro e w' ⟨_, cv, rfl, _, h2, h3⟩
  obtain rfl := h2.string_inv
  exact ⟨rfl, h3.old⟩
end Go.Proofs.YtpkchglfgkkcbaaDoor.Vs
