/-
  Regions that draw their order: the whole.
-/
import Derived.Test.YtcjolamfjgdgjaaGreatDoorEvReg
namespace Go.Proofs.YtcjolamfjgdgjaaGreatDoor.Ev
open Go.RowKit
variable [Syms]
section
variable {P : Program} {gl : Nat} {w0 : Bs} {call : Run} {ops : Array Oper} {tm0 : Tr Value} {n : Nat} {a0 : Act} {ρ0 : Ren} {σ0 : St} {Vf : Tr Value} {σf : St} {r : Option Nat}

omit [Syms] in
theorem ready_iff (listed : Array Bool) (i : Nat) : i ∈ Region.ready .any ops listed ↔ i < ops.size ∧ listed.getD i true = false ∧ ∃ o, ops[i]? = some o ∧ ∀ k, preds o k → Ls listed k := by
  unfold Region.ready
  rw [List.mem_filter, List.mem_range]
  constructor
  · rintro ⟨h1, h2⟩
    rw [Bool.and_eq_true] at h2
    obtain ⟨h2, h3⟩ := h2
    have ho : ∃ o, ops[i]? = some o := ⟨_, Array.getElem?_eq_getElem h1⟩
    obtain ⟨o, ho⟩ := ho
    rw [ho] at h3
    simp only [Option.map_some, Option.getD_some] at h3
    refine ⟨h1, by simpa using h2, o, ho, fun k hk => ?_⟩
    obtain ⟨e, he, hb, rfl⟩ := hk
    have := Array.all_eq_true_iff_forall_mem.1 h3 e (Array.mem_toList_iff.1 he)
    rw [hb] at this
    simpa [Ls] using this
  · rintro ⟨h1, h2, o, ho, hp⟩
    refine ⟨h1, ?_⟩
    rw [Bool.and_eq_true]
    refine ⟨by simp [h2], ?_⟩
    rw [ho]
    simp only [Option.map_some, Option.getD_some]
    refine Array.all_eq_true_iff_forall_mem.2 fun e he => ?_
    cases hb : Region.binds .any e with
    | false => rfl
    | true => simpa [Ls] using hp e.on ⟨e, Array.mem_toList_iff.2 he, hb, rfl⟩
omit [Syms] in
theorem unl_iff {listed : Array Bool} {i : Nat} (h : listed.size = ops.size) (hi : i < ops.size) : listed.getD i true = false ↔ ¬ Ls listed i := by
  unfold Ls
  rw [Array.getD_eq_getD_getElem?, Array.getD_eq_getD_getElem?, Array.getElem?_eq_getElem (by omega)]
  simp
omit [Syms] in
/-- Nothing is ready: all is done. -/
theorem all_done {listed : Array Bool} (hsz : listed.size = ops.size) (hr : Region.ready .any ops listed = []) : ∀ {l : List PItem} {s : Nat} {le : Option Nat}, chkPlan ops.size l s le = true → (∀ it ∈ l, Item ops it) → (∀ k, bitOf s k = true → Ls listed k) → ∀ k, k < ops.size → Ls listed k
  | [], s, le, h, _, hs, k, hk => hs k (chk_end h k hk)
  | x :: l, s, le, h, hi, hs, k, hk => by
    obtain ⟨h1, h2, h3, h4, h5⟩ := chk_cons h
    have hx := hi x (by simp)
    have hl : Ls listed x.i := by
      by_cases hl : Ls listed x.i
      · exact hl
      · exfalso
        have : x.i ∈ Region.ready .any ops listed := (ready_iff listed x.i).2 ⟨h2, (unl_iff hsz h2).2 hl, x.o, hx.op, fun k hk => hs k (h3 k (hx.ok.has x.o hx.op k hk))⟩
        rw [hr] at this
        simp at this
    refine all_done hsz hr h5 (fun it hit => hi it (List.mem_cons_of_mem _ hit)) (fun k hk => ?_) k hk
    rw [bitOf_lor, Bool.or_eq_true, bitOf_one, decide_eq_true_eq] at hk
    rcases hk with hk | rfl
    · exact hs k hk
    · exact hl
def unl (ops : Array Oper) (listed : Array Bool) : Nat := ((List.range ops.size).filter fun i => !(listed.getD i false)).length
omit [Syms] in
theorem unl_set {listed : Array Bool} {i : Nat} (h : listed.size = ops.size) (hi : i < ops.size) (hl : ¬ Ls listed i) : unl ops (listed.setIfInBounds i true) < unl ops listed := by
  unfold unl
  have hsub : (List.range ops.size).filter (fun k => !((listed.setIfInBounds i true).getD k false)) = ((List.range ops.size).filter fun k => !(listed.getD k false)).filter (fun k => decide (k ≠ i)) := by
    rw [List.filter_filter]
    apply List.filter_congr
    intro k hk
    have := @Ls.set listed i k (by omega)
    unfold Ls at this
    by_cases e : k = i
    · subst e
      have h1 := this.2 (Or.inl rfl)
      simp [h1]
    · have hiff : (listed.setIfInBounds i true).getD k false = listed.getD k false := by
        rw [Bool.eq_iff_iff, this]
        simp [e]
      rw [hiff]
      simp [e]
  rw [hsub]
  refine List.length_filter_lt_length_iff_exists.2 ⟨i, ?_, by simp⟩
  rw [List.mem_filter, List.mem_range]
  refine ⟨hi, ?_⟩
  unfold Ls at hl
  simpa using hl
section
variable {pre post : List PItem} {V : Tr Value} {σ : St} {ld : List (PItem × Value)} {listed : Array Bool} {a : Act} {w : World} {ρ : Ren} {nf : Nat → Nat}

/-- The run goes as far as it may. -/
theorem Inv.maxi : ∀ {post pre : List PItem} {V : Tr Value} {σ : St} {ld : List (PItem × Value)} {nf : Nat → Nat}, Inv P gl w0 call ops tm0 n a0 ρ0 σ0 Vf σf pre post V σ ld listed a w ρ nf →
    ∃ pre' post' V' σ' ld' nf', Inv P gl w0 call ops tm0 n a0 ρ0 σ0 Vf σf pre' post' V' σ' ld' listed a w ρ nf' ∧ ∀ h t, post' = h :: t → h.eff = true
  | [], pre, V, σ, ld, nf, h => ⟨pre, [], V, σ, ld, nf, h, fun _ _ e => by cases e⟩
  | it :: post, pre, V, σ, ld, nf, h => by
    cases he : it.eff with
    | true => exact ⟨pre, it :: post, V, σ, ld, nf, h, fun x t e => by cases e; exact he⟩
    | false =>
      obtain ⟨V', σ', ld', nf', h'⟩ := h.advance he
      exact Inv.maxi h'
theorem any_sim (hng : NoCount P) (hcall : RunOK P gl w0.w call) (h1w : OneWriter ops) (hdst : ∀ o, o ∈ ops.toList → dstOk n o = true) (hplan : chkPlan ops.size (planOf ops) 0 none = true) {Q : Exit → Act → World → Prop}
    (hQ : ∀ pre V σ ld listed a w ρ nf, Inv P gl w0 call ops tm0 n a0 ρ0 σ0 Vf σf pre [] V σ ld listed a w ρ nf → (∀ k, k < ops.size → Ls listed k) → Q .normal a w) :
    ∀ (fuel : Nat) (pre post : List PItem) (V : Tr Value) (σ : St) (ld : List (PItem × Value)) (listed : Array Bool) (a : Act) (w : World) (ρ : Ren) (nf : Nat → Nat), Inv P gl w0 call ops tm0 n a0 ρ0 σ0 Vf σf pre post V σ ld listed a w ρ nf → unl ops listed ≤ fuel → wpAnyIn (Wd r) 0 P .any ops Q fuel listed a w := by
  have fin : ∀ pre post V σ ld listed a w ρ nf, Inv P gl w0 call ops tm0 n a0 ρ0 σ0 Vf σf pre post V σ ld listed a w ρ nf → Region.ready .any ops listed = [] → Q .normal a w := by
    intro pre post V σ ld listed a w ρ nf h hr
    have hall := all_done h.size hr hplan (fun it hit => planOf_item ops it hit) (fun k hk => by rw [bitOf_zero] at hk; cases hk)
    cases post with
    | nil => exact hQ pre V σ ld listed a w ρ nf h hall
    | cons x l =>
      obtain ⟨s, le, hc, _⟩ := h.chk
      exact absurd (hall x.i (chk_cons hc).2.1) (h.un x (by simp))
  intro fuel
  induction fuel with
  | zero =>
    intro pre post V σ ld listed a w ρ nf h hu
    have hr : Region.ready .any ops listed = [] := by
      rw [List.eq_nil_iff_forall_not_mem]
      intro i hi
      obtain ⟨h1, h2, _⟩ := (ready_iff listed i).1 hi
      have hl := (unl_iff h.size h1).1 h2
      have := unl_set h.size h1 hl
      omega
    exact ⟨hr, fin _ _ _ _ _ _ _ _ _ _ h hr⟩
  | succ fuel ih =>
    intro pre post V σ ld listed a w ρ nf h hu
    refine ⟨fun hr => fin _ _ _ _ _ _ _ _ _ _ h hr, fun i hi => ?_⟩
    obtain ⟨hlt, hun, o, ho, hp⟩ := (ready_iff listed i).1 hi
    have hl := (unl_iff h.size hlt).1 hun
    have hless := unl_set h.size hlt hl
    obtain ⟨pre, post, V, σ, ld, nf, h, hhead⟩ := h.maxi
    obtain ⟨s, le, hc, hs⟩ := h.chk
    have hwhere : (∃ x ∈ pre, x.i = i) ∨ ∃ x ∈ post, x.i = i := by
      rcases chk_all hc i hlt with hb | hx
      · exact Or.inl ((hs i).1 hb)
      · exact Or.inr hx
    rcases hwhere with ⟨x, hx, rfl⟩ | ⟨x, hx, rfl⟩
    · have hxi := h.item x (Or.inl hx)
      obtain rfl := Option.some.inj (hxi.op.symm.trans ho)
      obtain ⟨he, b, hw, hb0, hb1⟩ := h.pend x hx hl
      have hm := h.mpre x hx
      have hwant := h.wanted hxi hp hm hw
      unfold wpOpIn
      rw [ho]
      simp only
      cases b with
      | false =>
        rw [if_neg (by rw [hwant]; simp)]
        refine ⟨fun _ _ => trivial, ?_⟩
        refine ih _ _ _ _ _ _ _ _ _ _ (h.did h1w hdst hx hlt hp (hb0 rfl) (Le.refl ρ) (.refl rfl) h.sr h.ext (fun _ _ _ _ _ hn => hn)) (by omega)
      | true =>
        rw [if_pos hwant]
        obtain ⟨v, ob, hv, hne, hB⟩ := hb1 rfl
        have hsim := ne_sim (w := w) h.sr.mr (σ := ⟨σ.mem, nf x.i⟩) rfl rfl (h.env hxi hp hl hm) hne
        cases ob with
        | none =>
          obtain ⟨cv, h1, h2⟩ := hsim
          exact upon_of_value h1 (ih _ _ _ _ _ _ _ _ _ _ (h.did h1w hdst hx hlt hp hv (Le.refl ρ) h2 h.sr h.ext (fun _ _ _ _ _ hn => hn)) (by omega))
        | some B =>
          obtain ⟨cs, t, cv, h1, h2, h3, h4, h5⟩ := hsim
          obtain ⟨r1, r2, r3⟩ := hB B rfl
          have hsr := h.sr.made r1 r2 r3 h2 cs t h3 h4
          have hle := Le.upd ⟨w.heap.size, 0, cs.size, B.es⟩ r1
          have hnew := ne_new hne
          have hge := (h.nfb x hx hnew hw he).2
          refine upon_of_value h1 (ih _ _ _ _ _ _ _ _ _ _ (h.did h1w hdst hx hlt hp hv hle (h5 _ hle (upd_same _ _ _)) hsr ?_ ?_) (by omega))
          · exact ⟨fun l hl' => (upd_other _ _ (fun e => by omega)).trans (h.ext.same l hl'), h.ext.next, h.ext.mem⟩
          · intro y hy hyx hyn hyw hn
            rw [upd_other _ _ (h.nfinj y hy x hx hyn hnew hyw hw hyx)]
            exact hn
    · cases post with
      | nil => simp at hx
      | cons it post =>
        have hite := hhead it post rfl
        have hit : x = it := by
          rcases List.mem_cons.1 hx with e | hx'
          · exact e
          · exfalso
            obtain ⟨_, _, _, _, h5⟩ := chk_cons hc
            rw [hite] at h5
            obtain ⟨e, h6, h7⟩ := chk_waits h5 x hx'
            have hxi := h.item x (Or.inr hx)
            obtain rfl := Option.some.inj (hxi.op.symm.trans ho)
            have hle := h.waited hxi hp e h6
            rcases h7 with rfl | ⟨y, hy, rfl⟩
            · exact h.un it (by simp) hle
            · exact h.un y (List.mem_cons_of_mem _ hy) hle
        subst hit
        have hxi := h.item x (Or.inr hx)
        obtain rfl := Option.some.inj (hxi.op.symm.trans ho)
        obtain ⟨hf1, hf2, hf3, hf4⟩ := h.fresh
        have hrun := h.run
        simp only [evPlan] at hrun
        unfold wpOpIn
        rw [ho]
        simp only
        cases hw : wantedR ops x.mask V x.o with
        | none => rw [hw] at hrun; cases hrun
        | some b =>
          rw [hw] at hrun
          have hwant := h.wanted hxi hp hf3 hw
          cases b with
          | false =>
            simp only [plStep] at hrun
            rw [if_neg (by rw [hwant]; simp)]
            refine ⟨fun _ _ => trivial, ?_⟩
            refine ih _ _ _ _ _ _ _ _ _ _ (h.acted h1w hdst hite hlt hp hrun (Ext.refl _ _) (.refl rfl) h.sr (fun y hy hyl hrm hyw u hu => ?_)) (by omega)
            obtain ⟨u', k1, k2⟩ := h.ldok y hy hyl hrm hyw
            obtain rfl := Option.some.inj (k2.symm.trans hu)
            refine ⟨k1, fun nx => ?_⟩
            obtain ⟨p1, b', p2, p3, p4⟩ := h.pend y hy hyl
            obtain rfl : b' = true := Option.some.inj (p2.symm.trans hyw)
            obtain ⟨u'', ob, q1, q2, q3⟩ := p4 rfl
            obtain rfl := Option.some.inj (q1.symm.trans hu)
            rw [ne_next (n2 := nf y.i) hrm, q2]
            cases ob with
            | none => rfl
            | some B =>
              have := isNew_reads (ne_new q2)
              rw [this] at hrm; cases hrm
          | true =>
            rw [if_pos hwant]
            simp only [plStep, hite, cond_true] at hrun
            cases hev : evEff P call (regEnv gl tm0 ops (masks ops.toList []) x.i x.mask V) σ x.o with
            | none => rw [hev] at hrun; cases hrun
            | some r =>
              obtain ⟨v, σ'⟩ := r
              rw [hev] at hrun
              simp only [plEff] at hrun
              cases hrc : recheck P gl tm0 ops (masks ops.toList []) (V.put x.i (some v)) σ' (ld.filter fun y => !bitOf x.mask y.1.i) with
              | false => rw [hrc] at hrun; cases hrun
              | true =>
                rw [hrc] at hrun
                simp only [cond_true] at hrun
                refine eff_sim hng hcall h.sr (h.env hxi hp hl hf3) hev (fun ρ' cv w' e1 e2 e3 => ?_)
                refine ih _ _ _ _ _ _ _ _ _ _ (h.acted h1w hdst hite hlt hp hrun e1 e2 e3 (fun y hy hyl hrm hyw u hu => ?_)) (by omega)
                obtain ⟨u', k1, k2⟩ := h.ldok y hy hyl hrm hyw
                obtain rfl := Option.some.inj (k2.symm.trans hu)
                have hnb : bitOf x.mask y.i = false := by
                  cases hb : bitOf x.mask y.i with
                  | false => rfl
                  | true => exact absurd (h.waited hxi hp _ hb) hyl
                have hin : (y, u') ∈ ld.filter fun y => !bitOf x.mask y.1.i := List.mem_filter.2 ⟨k1, by simp [hnb]⟩
                refine ⟨hin, fun nx => ?_⟩
                have := recheck_mem hrc y u' hin
                rw [regEnv_put (hf2 y hy)] at this
                rw [ne_next (n2 := σ'.next) hrm]
                exact this
end
omit [Syms] in
theorem fin_get : ∀ (l : List Oper) (i : Nat) (V tm : Tr Value) (t : Nat) (v : Value), (finTm l i V tm).get t = some v → (∃ j o, l[j]? = some o ∧ o.dst = some t ∧ V.get (i + j) = some v) ∨ (tm.get t = some v ∧ ∀ (j : Nat) (o : Oper), l[j]? = some o → o.dst ≠ some t)
  | [], _, _, _, _, _, h => Or.inr ⟨h, fun j o hj => by simp at hj⟩
  | o :: l, i, V, tm, t, v, h => by
    have step : ∀ tm', (finTm l (i + 1) V tm').get t = some v → (tm'.get t = some v → (∃ j o', (o :: l)[j]? = some o' ∧ o'.dst = some t ∧ V.get (i + j) = some v) ∨ (tm.get t = some v ∧ o.dst ≠ some t)) → (∃ j o', (o :: l)[j]? = some o' ∧ o'.dst = some t ∧ V.get (i + j) = some v) ∨ (tm.get t = some v ∧ ∀ (j : Nat) (o' : Oper), (o :: l)[j]? = some o' → o'.dst ≠ some t) := fun tm' h hk => by
      rcases fin_get l (i + 1) V tm' t v h with ⟨j, o', h1, h2, h3⟩ | ⟨h1, h2⟩
      · exact Or.inl ⟨j + 1, o', by simpa using h1, h2, by rw [show i + (j + 1) = i + 1 + j by omega]; exact h3⟩
      · rcases hk h1 with h3 | ⟨h3, h4⟩
        · exact Or.inl h3
        · refine Or.inr ⟨h3, fun j o' hj => ?_⟩
          cases j with
          | zero =>
            obtain rfl : o = o' := by simpa using hj
            exact h4
          | succ j => exact h2 j o' (by simpa using hj)
    simp only [finTm] at h
    split at h
    · rename_i u hu
      refine step _ h (fun hg => ?_)
      unfold putD at hg
      cases hd : o.dst with
      | none =>
        rw [hd] at hg
        exact Or.inr ⟨hg, fun e => by cases e⟩
      | some d =>
        rw [hd] at hg
        simp only [Tr.get_put] at hg
        by_cases e : t = d
        · rw [if_pos e] at hg
          obtain rfl := Option.some.inj hg
          exact Or.inl ⟨0, o, rfl, by rw [hd, e], hu⟩
        · rw [if_neg e] at hg
          exact Or.inr ⟨hg, fun e' => e (Option.some.inj e').symm⟩
    · rename_i hu
      refine step _ h (fun hg => ?_)
      cases hd : o.dst with
      | none =>
        rw [hd] at hg
        exact Or.inr ⟨hg, fun e => by cases e⟩
      | some d =>
        rw [hd] at hg
        simp only [Tr.get_put] at hg
        by_cases e : t = d
        · rw [if_pos e] at hg; cases hg
        · rw [if_neg e] at hg
          exact Or.inr ⟨hg, fun e' => e (Option.some.inj e').symm⟩
theorem draw_sim (hm : P.follows .mixedOrders = true) (hng : NoCount P) (hcall : RunOK P gl w0.w call) {id : Nat} {tm tm' : Tr Value} {σ σ' : St} {ρ : Ren} {a : Act} {w : World}
    (h : evRegion P gl call ops true tm σ = some (tm', σ')) (hs : SR gl w0 ρ σ w) (ht : TMR n ρ tm a.tmps) (hd : ops.toList.all (dstOk n) = true) {Q : Exit → Act → World → Prop}
    (hQ : ∀ ρ' a' w', Ext ρ σ ρ' σ' → a'.defers = a.defers → TMR n ρ' tm' a'.tmps → SR gl w0 ρ' σ' w' → Q .normal a' w') : (Code.region id ops true).wpIn (Wd r) 0 P Q a w := by
  simp only [evRegion] at h
  cases hok : regOk ops with
  | false => rw [hok] at h; cases h
  | true =>
    rw [hok] at h
    simp only at h
    unfold regOk at hok
    rw [Bool.and_eq_true] at hok
    obtain ⟨hplan, htmp⟩ := hok
    cases hev : evPlan P gl call tm ops (masks ops.toList []) (planOf ops) .nil σ [] with
    | none => rw [hev] at h; cases h
    | some r =>
      obtain ⟨Vf, σf⟩ := r
      rw [hev] at h
      simp only [Option.some.injEq, Prod.mk.injEq] at h
      obtain ⟨rfl, rfl⟩ := h
      have hdst : ∀ o, o ∈ ops.toList → dstOk n o = true := fun o ho => List.all_eq_true.1 hd o ho
      have hitem : ∀ k o, ops[k]? = some o → ∃ it ∈ itemsOf ops, it.i = k ∧ it.o = o := fun k o ho => by
        have hk : k < ops.size := (Array.getElem?_eq_some_iff.1 ho).1
        rcases chk_all hplan k hk with hb | ⟨it, hit, he⟩
        · rw [bitOf_zero] at hb; cases hb
        · have hi := planOf_item ops it hit
          subst he
          exact ⟨it, planGo_mem _ _ _ it hit, rfl, Option.some.inj (hi.op.symm.trans ho)⟩
      have h1w : OneWriter ops := fun i j o o' d hi hj hne hod ho'd => by
        obtain ⟨x, hx, rfl, rfl⟩ := hitem i o hi
        obtain ⟨y, hy, rfl, rfl⟩ := hitem j o' hj
        have h1 := List.all_eq_true.1 htmp x hx
        rw [hod] at h1
        have h2 := List.all_eq_true.1 h1 y hy
        rw [ho'd, Bool.or_eq_true] at h2
        rcases h2 with h2 | h2
        · exact hne (Nat.eq_of_beq_eq_true h2).symm
        · simp at h2
      have hstart : Inv P gl w0 call ops tm n a ρ σ Vf σf [] (planOf ops) .nil σ [] (Array.replicate ops.size false) a w.drew ρ (fun _ => 0) := by
        have hno : ∀ k, ¬ Ls (Array.replicate ops.size false) k := fun k hk => by
          unfold Ls at hk
          rw [Array.getD_eq_getD_getElem?, Array.getElem?_replicate] at hk
          split at hk <;> cases hk
        refine ⟨hev, ⟨0, none, hplan, fun k => ?_⟩, fun it hit => ?_, fun x hx => by simp at hx, by simp, fun i o _ hl => absurd hl (hno i), fun x hx => by simp at hx, fun it _ => hno _, hs.drew, Ext.refl _ _, rfl, ht.1, fun t v hv _ => ht.2 t v hv, fun x hx => by simp at hx, fun x hx => by simp at hx, fun x hx => by simp at hx, fun x hx => by simp at hx, fun x hx => by simp at hx⟩
        · rw [bitOf_zero]; simp
        · rcases hit with hit | hit
          · simp at hit
          · exact planOf_item ops it hit
      refine wpIn_region_any hm ?_
      refine any_sim hng hcall h1w hdst hplan (fun pre V σ1 ld listed a1 w1 ρ1 nf hinv hall => ?_) ops.size [] (planOf ops) .nil σ [] _ a w.drew ρ (fun _ => 0) hstart (by
        unfold unl
        exact Nat.le_trans (List.length_filter_le _ _) (by simp))
      have hrun := hinv.run
      simp only [evPlan, Option.some.injEq, Prod.mk.injEq] at hrun
      obtain ⟨rfl, rfl⟩ := hrun
      refine hQ ρ1 a1 w1 hinv.ext hinv.defers ⟨hinv.tsz, fun t v hv => ?_⟩ hinv.sr
      rcases fin_get _ _ _ _ t v hv with ⟨j, o, h1, h2, h3⟩ | ⟨h1, h2⟩
      · rw [Nat.zero_add] at h3
        rw [Array.getElem?_toList] at h1
        have hj : j < ops.size := (Array.getElem?_eq_some_iff.1 h1).1
        obtain ⟨s, le, hc, hss⟩ := hinv.chk
        obtain ⟨it, hit, rfl⟩ := (hss j).1 (chk_end hc j hj)
        obtain ⟨u, k1, k2⟩ := hinv.done it hit (hall _ hj)
        obtain rfl := Option.some.inj (k1.symm.trans h3)
        obtain rfl := Option.some.inj ((hinv.item it (Or.inl hit)).op.symm.trans h1)
        exact k2 t h2
      · refine hinv.old t v h1 (fun y hy => ?_)
        obtain ⟨j, o, e1, e2, e3⟩ := writer_some _ _ _ _ hy
        exact absurd e3 (h2 j o e2)
end
end Go.Proofs.YtcjolamfjgdgjaaGreatDoor.Ev
