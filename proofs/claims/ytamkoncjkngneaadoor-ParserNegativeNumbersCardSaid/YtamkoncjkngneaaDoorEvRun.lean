/-
  Effects, lists of operations.
-/
import Derived.Test.YtamkoncjkngneaaDoorEvApp
namespace Go.Proofs.YtamkoncjkngneaaDoor.Ev
open Go.RowKit
variable [Syms]

/-- What the run answers of a call, every call answers. -/
def CallOK (P : Program) (gl : Nat) (w0 : World) (call : CallF) : Prop :=
  ∀ f args σ v σ', call f args σ = some (v, σ') → ∀ ρ w (cargs : Array Value), SR gl w0 ρ σ w → VRs ρ args cargs.toList → Calls P f cargs w fun e w' => ∃ ρ' cv, e = .returned cv ∧ Ext ρ σ ρ' σ' ∧ VR ρ' v cv ∧ SR gl w0 ρ' σ' w'
def NoCount (P : Program) : Prop := ∀ (f : Nat) (fn : Func), P.funcs[f]? = some fn → (fn.name == "runtime.NumGoroutine") = false
section
variable {P : Program} {gl : Nat} {w0 : World} {ρ : Ren} {e : Env} {σ σ' : St} {w : World} {call : CallF}

omit [Syms] in
theorem upon_of_value {o : Oper} {a : Act} {K : Act → World → Prop} {Q : Exit → Act → World → Prop} {cv : Value} {w' : World} (h : (execOp a.eval o).run P w = .ok (.value cv) w') (hK : K (a.put o.dst cv) w') : o.wp P a w K Q := by
  unfold Oper.wp
  rw [h]
  exact hK
theorem eff_sim (hng : NoCount P) (hcall : CallOK P gl w0 call) (hs : SR gl w0 ρ σ w) {a : Act} (he : Env.rel ρ e a.eval) {o : Oper} {v : Value} (h : evEff P call e σ o = some (v, σ')) {K : Act → World → Prop} {Q : Exit → Act → World → Prop}
    (hK : ∀ ρ' cv w', Ext ρ σ ρ' σ' → VR ρ' v cv → SR gl w0 ρ' σ' w' → K (a.put o.dst cv) w') : o.wp P a w K Q := by
  unfold evEff at h
  split at h
  · rename_i t x y ho
    unfold efStore at h
    split at h
    · rename_i l off v' hx hy
      split at h
      · rename_i σ1 hst
        simp only [Option.some.injEq, Prod.mk.injEq] at h
        obtain ⟨rfl, rfl⟩ := h
        obtain ⟨L, hL, hcv⟩ := (he x _ hx).ptr_inv
        obtain ⟨w', h1, h2, h3⟩ := store_sim (P := P) hs hL (he y _ hy) hst
        have hrun : (execOp a.eval o).run P w = .ok .skip w' := by
          simp only [execOp, ho, hcv, Instr.storeAt, Instr.sureAddr, Sem.run_bind, Sem.run_pure, Result.andThen_ok, h1]
        unfold Oper.wp
        rw [hrun]
        exact hK ρ undef w' h2 (.refl rfl) h3
      · cases h
    · cases h
  · rename_i c ho
    unfold efCall at h
    split at h
    · rename_i hc
      unfold efApp at h
      split at h
      · rename_i s x t u hargs htys
        have hargs : c.args = #[s, x] := by apply Array.ext'; simpa using hargs
        have htys : c.argTypes = #[t, u] := by apply Array.ext'; simpa using htys
        unfold efApp1 at h
        split at h
        · rename_i vs vx d hs' hx' hu
          have fin : ∀ (hk : (∃ e', P.underlying u = some (.slice e')) ∨ P.underlying u = some .string), appendV P σ vs vx (P.underlying t) = some (v, σ') → o.wp P a w K Q := fun hk h => by
            obtain ⟨ρ', cv, w', h1, h2, h3, h4⟩ := append_sim (ty := o.type) hs hk (he s _ hs') (he x _ hx') h
            refine upon_of_value ?_ (hK ρ' cv w' h2 h3 h4)
            simp [execOp, ho, resolve, hc, hargs, htys, invoke, builtin, h1]
          unfold efApp2 at h
          split at h
          · exact fin (Or.inl ⟨_, hu⟩) h
          · exact fin (Or.inr hu) h
          · cases h
        · cases h
      · cases h
    · rename_i f hc
      unfold efVal at h
      split at h
      · rename_i g first captured as hf has
        obtain ⟨first', captured', hfv, hf1, hf2⟩ := (he f _ hf).func_inv
        have hargs := mapM_sim he has
        have hall : VRs ρ (first.toList ++ as ++ captured.toList) (first' ++ c.args.map a.eval ++ captured').toList := by
          have e1 : (first' ++ c.args.map a.eval ++ captured').toList = first'.toList ++ c.args.toList.map a.eval ++ captured'.toList := by simp
          rw [e1]
          exact (hf1.append hargs).append hf2
        have hrun0 : (execOp a.eval o).run P w = (callFunc g (first' ++ c.args.map a.eval ++ captured')).run P w := by
          simp [execOp, ho, resolve, hc, hfv, Deferred.ofValue, invoke]
        unfold efFn at h
        split at h
        · rename_i fn hfn
          unfold efFn1 at h
          split at h
          · rename_i body hbody
            have hrun : (execOp a.eval o).run P w = .ok (.enter g (first' ++ c.args.map a.eval ++ captured')) w := by
              rw [hrun0]
              have hne : ¬ fn.name = "runtime.NumGoroutine" := by
                have := hng g fn hfn
                simpa using this
              simp [callFunc, hfn, hne, hbody]
            unfold Oper.wp
            rw [hrun]
            refine (hcall g _ σ v σ' h ρ w _ hs hall).mono ?_
            rintro e w' ⟨ρ', cv, rfl, h1, h2, h3⟩
            exact hK ρ' cv w' h1 h2 h3
          · unfold efExt at h
            obtain ⟨g1, g2⟩ := bif_some h
            have hground : ∀ {l m : List Value}, VRs ρ l m → l.all ground = true → m = l := by
              intro l m hr
              induction l generalizing m with
              | nil => intro _; cases hr; rfl
              | cons x l ih =>
                intro hgr
                rw [List.all_cons, Bool.and_eq_true] at hgr
                cases hr with
                | cons h1 h2 => rw [h1.groundEq hgr.1, ih h2 hgr.2]
            have heq := hground hall g1
            unfold efExt1 at g2
            split at g2
            · rename_i y hy
              obtain ⟨k1, k2⟩ := bif_some g2
              simp only [Option.some.injEq, Prod.mk.injEq] at k2
              obtain ⟨rfl, rfl⟩ := k2
              refine upon_of_value (w' := w) ?_ (hK ρ y w (Ext.refl _ _) (.refl k1) hs)
              rw [hrun0, show first' ++ c.args.map a.eval ++ captured' = (first.toList ++ as ++ captured.toList).toArray from by rw [← heq]]
              exact pureSem_run P hy w
            · cases g2
        · cases h
      · cases h
    · cases h
  · cases h

/-- The temporaries. -/
def TMR (n : Nat) (ρ : Ren) (tm : Tr Value) (tmps : Array Value) : Prop := tmps.size = n ∧ ∀ t v, tm.get t = some v → ∃ c, tmps[t]? = some c ∧ VR ρ v c
theorem TMR.mono {n : Nat} {ρ ρ' : Ren} {tm : Tr Value} {tmps : Array Value} (h : TMR n ρ tm tmps) (hle : Le ρ ρ') : TMR n ρ' tm tmps := ⟨h.1, fun t v hv => by obtain ⟨c, h1, h2⟩ := h.2 t v hv; exact ⟨c, h1, h2.mono hle⟩⟩
theorem TMR.put {n : Nat} {tm : Tr Value} {a : Act} (h : TMR n ρ tm a.tmps) {o : Oper} (hd : dstOk n o = true) {v cv : Value} (hv : VR ρ v cv) : TMR n ρ (putD tm o.dst v) (a.put o.dst cv).tmps := by
  unfold dstOk at hd
  cases ho : o.dst with
  | none => exact h
  | some d =>
    rw [ho] at hd
    have hlt : d < n := Nat.le_of_ble_eq_true hd
    refine ⟨by simp [Act.put, h.1], fun t x hx => ?_⟩
    simp only [putD] at hx
    rw [Tr.get_put] at hx
    simp only [Act.put]
    by_cases e : t = d
    · subst e
      rw [if_pos rfl] at hx
      obtain rfl := Option.some.inj hx
      exact ⟨cv, by rw [Array.getElem?_setIfInBounds_self_of_lt (by rw [h.1]; exact hlt)], hv⟩
    · rw [if_neg e] at hx
      obtain ⟨c, h1, h2⟩ := h.2 t x hx
      exact ⟨c, by rw [Array.getElem?_setIfInBounds_ne (Ne.symm e)]; exact h1, h2⟩
theorem glob_rel (hs : SR gl w0 ρ σ w) {g : Nat} {v : Value} (h : glob gl g = some v) : VR ρ v (.pointer (some ⟨g, 0, none⟩)) := by
  unfold glob at h
  obtain ⟨h1, h2⟩ := bif_some h
  obtain rfl := Option.some.inj h2
  obtain ⟨L, hL, hb, hd⟩ := hs.glob g h1
  have := VR.ptr (o := 0) hL
  rw [hb, hd] at this
  exact this
theorem env_rel (hs : SR gl w0 ρ σ w) {n : Nat} {tm : Tr Value} {a : Act} (h : TMR n ρ tm a.tmps) : Env.rel ρ (envOf gl tm) a.eval := by
  intro x v hx
  cases x with
  | tmp t =>
    obtain ⟨c, h1, h2⟩ := h.2 t v hx
    have : a.eval (.tmp t) = c := by simp [Act.eval, h1]
    rw [this]; exact h2
  | const u =>
    obtain ⟨h1, h2⟩ := bif_some hx
    obtain rfl := Option.some.inj h2
    exact .refl h1
  | global g => exact glob_rel hs hx
  | func f =>
    obtain rfl := Option.some.inj hx
    exact .refl rfl
theorem VR.bool_iff {v : Value} {b : Bool} (h : VR ρ v (.bool b)) : v = .bool b := by
  cases h with
  | refl _ => rfl
  | sym _ hc => cases hc
theorem wanted_sim {n : Nat} {ops : Array Oper} {tm : Tr Value} {a : Act} (h : TMR n ρ tm a.tmps) {o : Oper} {b : Bool} (hw : wantedA ops tm.get o = some b) : Region.wanted o (yielded ops a.tmps) = b := by
  unfold wantedA at hw
  unfold Region.wanted
  split at hw
  · rename_i hg
    obtain rfl := Option.some.inj hw
    rw [hg]
  · rename_i j want hg
    rw [hg]
    split at hw
    · rename_i g hj
      split at hw
      · rename_i d hd
        have hy : ∀ c, a.tmps[d]? = some c → yielded ops a.tmps j = match c with | .bool b => some b | _ => none := fun c hc => by
          simp only [yielded, hj, Option.bind_some, hd, hc]
          cases c <;> rfl
        split at hw
        · rename_i t ht
          obtain rfl := Option.some.inj hw
          obtain ⟨c, h1, h2⟩ := h.2 d _ ht
          obtain rfl := h2.bool_inv
          simp only [hy _ h1]
          cases t <;> cases want <;> rfl
        · rename_i v hnb ht
          obtain rfl := Option.some.inj hw
          obtain ⟨c, h1, h2⟩ := h.2 d _ ht
          simp only [hy _ h1]
          cases c <;> first | rfl | exact absurd (VR.bool_iff h2) (hnb _)
        · cases hw
      · cases hw
    · cases hw
/-- One operation, of whichever kind. -/
theorem op_sim (hng : NoCount P) (hcall : CallOK P gl w0 call) (hs : SR gl w0 ρ σ w) {a : Act} (he : Env.rel ρ e a.eval) {o : Oper} {v : Value} (h : evOp P call e σ o = some (v, σ')) {K : Act → World → Prop} {Q : Exit → Act → World → Prop}
    (hK : ∀ ρ' cv w', Ext ρ σ ρ' σ' → VR ρ' v cv → SR gl w0 ρ' σ' w' → K (a.put o.dst cv) w') : o.wp P a w K Q := by
  unfold evOp at h
  cases hk : isEff o with
  | true => rw [hk] at h; exact eff_sim hng hcall hs he h hK
  | false =>
    rw [hk] at h
    simp only [cond_false] at h
    unfold opNE at h
    split at h
    · rename_i x hx
      simp only [Option.some.injEq, Prod.mk.injEq] at h
      obtain ⟨rfl, rfl⟩ := h
      obtain ⟨cv, h1, h2⟩ := ne_sim hs.mr rfl rfl he hx
      exact upon_of_value h1 (hK ρ cv w (Ext.refl _ _) h2 hs)
    · rename_i x B hx
      simp only [Option.some.injEq, Prod.mk.injEq] at h
      obtain ⟨rfl, rfl⟩ := h
      obtain ⟨cs, t, cv, h1, h2, h3, h4, h5⟩ := ne_sim hs.mr rfl rfl he hx
      have hnone : ρ σ.next = none := by
        cases hq : ρ σ.next with
        | none => rfl
        | some X => exact absurd (hs.dom _ _ hq) (Nat.lt_irrefl _)
      exact upon_of_value h1 (hK _ cv _ (Ext.fresh _ _) (h5 _ (Le.upd _ hnone) (upd_same _ _ _)) (hs.fresh h2 cs t h3 h4))
    · cases h
theorem list_sim (hng : NoCount P) (hcall : CallOK P gl w0 call) {n : Nat} {ops : Array Oper} {Q : Exit → Act → World → Prop} {tm' : Tr Value} : ∀ {l : List Oper} {ρ : Ren} {tm : Tr Value} {σ : St} {a : Act} {w : World}, evList P gl call ops l tm σ = some (tm', σ') → SR gl w0 ρ σ w → TMR n ρ tm a.tmps → l.all (dstOk n) = true →
    (∀ ρ' a' w', Ext ρ σ ρ' σ' → a'.defers = a.defers → TMR n ρ' tm' a'.tmps → SR gl w0 ρ' σ' w' → Q .normal a' w') → wpList P ops Q l a w
  | [], ρ, tm, σ, a, w, h, hs, ht, _, hQ => by
    have h : some (tm, σ) = some (tm', σ') := h
    simp only [Option.some.injEq, Prod.mk.injEq] at h
    obtain ⟨rfl, rfl⟩ := h
    exact hQ ρ a w (Ext.refl _ _) rfl ht hs
  | o :: l, ρ, tm, σ, a, w, h, hs, ht, hd, hQ => by
    have h : liStep P gl call o (evList P gl call ops l) tm σ (wantedA ops tm.get o) = some (tm', σ') := h
    rw [List.all_cons, Bool.and_eq_true] at hd
    unfold liStep at h
    unfold wpList
    split at h
    · rename_i hw
      rw [if_pos (wanted_sim ht hw)]
      left
      cases hop : evOp P call (envOf gl tm) σ o with
      | none => rw [hop] at h; cases h
      | some r =>
        obtain ⟨v, σ1⟩ := r
        rw [hop] at h
        refine op_sim hng hcall hs (env_rel hs ht) hop (fun ρ' cv w' h1 h2 h3 => ?_)
        exact list_sim hng hcall h h3 ((ht.mono (h1.le hs)).put hd.1 h2) hd.2 (fun ρ'' a'' w'' k1 k2 k3 k4 => hQ ρ'' a'' w'' (h1.trans k1) (by rw [k2]; cases o.dst <;> rfl) k3 k4)
    · rename_i hw
      rw [if_neg (by rw [wanted_sim ht hw]; simp)]
      exact list_sim hng hcall h hs (ht.put hd.1 (.refl rfl)) hd.2 (fun ρ'' a'' w'' k1 k2 k3 k4 => hQ ρ'' a'' w'' k1 (by rw [k2]; cases o.dst <;> rfl) k3 k4)
    · cases h
end
end Go.Proofs.YtamkoncjkngneaaDoor.Ev
