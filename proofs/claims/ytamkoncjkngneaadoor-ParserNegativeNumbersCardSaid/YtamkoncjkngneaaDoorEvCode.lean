/-
  Code, and calls.
-/
import Derived.Test.YtamkoncjkngneaaDoorEvDraw
namespace Go.Proofs.YtamkoncjkngneaaDoor.Ev
open Go.RowKit
variable [Syms]

def outE : Out → Exit
  | .normal => .normal
  | .exit id => .exit id
  | .ret => .ret
section
variable {P : Program} {gl : Nat} {w0 : World} {call : CallF}

/-- What a piece of code leaves. -/
def CodeOK (P : Program) (gl : Nat) (w0 : World) (n : Nat) (f : CodeF) (c : Code) : Prop :=
  ∀ tm σ out tm' σ', f tm σ = some (out, tm', σ') → ∀ (ρ : Ren) (a : Act) (w : World), SR gl w0 ρ σ w → TMR n ρ tm a.tmps → ∀ (Q : Exit → Act → World → Prop),
    (∀ ρ' a' w', Ext ρ σ ρ' σ' → a'.defers = a.defers → TMR n ρ' tm' a'.tmps → SR gl w0 ρ' σ' w' → Q (outE out) a' w') → c.wp P Q a w
theorem region_ok (hm : P.follows .mixedOrders = true) (hng : NoCount P) (hcall : CallOK P gl w0 call) {n : Nat} {id : Nat} {ops : Array Oper} {draw : Bool} (hd : ops.toList.all (dstOk n) = true) : CodeOK P gl w0 n (fun tm σ => coReg (evRegion P gl call ops draw tm σ)) (.region id ops draw) := by
  intro tm σ out tm' σ' h ρ a w hs ht Q hQ
  simp only at h
  cases hr : evRegion P gl call ops draw tm σ with
  | none => rw [hr] at h; cases h
  | some r =>
    obtain ⟨tm1, σ1⟩ := r
    rw [hr] at h
    simp only [coReg, Option.some.injEq, Prod.mk.injEq] at h
    obtain ⟨rfl, rfl, rfl⟩ := h
    cases draw with
    | false => exact wp_region_list (list_sim hng hcall hr hs ht hd hQ)
    | true => exact draw_sim hm hng hcall hr hs ht hd hQ
theorem code_ok (hm : P.follows .mixedOrders = true) (hng : NoCount P) (hcall : CallOK P gl w0 call) {n rounds : Nat} : ∀ (c : Code), dstsOk n c = true → CodeOK P gl w0 n (evCode P gl call rounds c) c
  | .skip, _ => by
    intro tm σ out tm' σ' h ρ a w hs ht Q hQ
    have h : some (Out.normal, tm, σ) = some (out, tm', σ') := h
    simp only [Option.some.injEq, Prod.mk.injEq] at h
    obtain ⟨rfl, rfl, rfl⟩ := h
    exact wp_skip (hQ ρ a w (Ext.refl _ _) rfl ht hs)
  | .region id ops draw, hd => region_ok hm hng hcall hd
  | .seq x y, hd => by
    simp only [dstsOk, Bool.and_eq_true] at hd
    have hx := code_ok hm hng hcall (rounds := rounds) x hd.1
    have hy := code_ok hm hng hcall (rounds := rounds) y hd.2
    intro tm σ out tm' σ' h ρ a w hs ht Q hQ
    have h : loNext (evCode P gl call rounds y) (evCode P gl call rounds x tm σ) = some (out, tm', σ') := h
    cases h1 : evCode P gl call rounds x tm σ with
    | none => rw [h1] at h; cases h
    | some r =>
      obtain ⟨o1, tm1, σ1⟩ := r
      rw [h1] at h
      refine wp_seq (hx _ _ _ _ _ h1 _ _ _ hs ht _ fun ρ' a' w' e1 e2 e3 e4 => ?_)
      cases o1 with
      | normal =>
        exact hy _ _ _ _ _ h _ _ _ e4 e3 _ fun ρ'' a'' w'' f1 f2 f3 f4 => hQ ρ'' a'' w'' (e1.trans f1) (f2.trans e2) f3 f4
      | exit id =>
        simp only [loNext, Option.some.injEq, Prod.mk.injEq] at h
        obtain ⟨rfl, rfl, rfl⟩ := h
        exact hQ ρ' a' w' e1 e2 e3 e4
      | ret =>
        simp only [loNext, Option.some.injEq, Prod.mk.injEq] at h
        obtain ⟨rfl, rfl, rfl⟩ := h
        exact hQ ρ' a' w' e1 e2 e3 e4
  | .cond x c1 c2, hd => by
    simp only [dstsOk, Bool.and_eq_true] at hd
    have hx := code_ok hm hng hcall (rounds := rounds) c1 hd.1
    have hy := code_ok hm hng hcall (rounds := rounds) c2 hd.2
    intro tm σ out tm' σ' h ρ a w hs ht Q hQ
    have h : coCond (evCode P gl call rounds c1) (evCode P gl call rounds c2) tm σ (envOf gl tm x) = some (out, tm', σ') := h
    cases he : envOf gl tm x with
    | none => rw [he] at h; cases h
    | some v =>
      rw [he] at h
      cases v with
      | bool b =>
        have hb := (env_rel hs ht x _ he).bool_inv
        cases b with
        | true => exact wp_cond hb (hx _ _ _ _ _ h _ _ _ hs ht _ hQ)
        | false => exact wp_cond hb (hy _ _ _ _ _ h _ _ _ hs ht _ hQ)
      | _ => cases h
  | .block id c, hd => by
    have hx := code_ok hm hng hcall (rounds := rounds) c hd
    intro tm σ out tm' σ' h ρ a w hs ht Q hQ
    have h : coBlock id (evCode P gl call rounds c tm σ) = some (out, tm', σ') := h
    cases h1 : evCode P gl call rounds c tm σ with
    | none => rw [h1] at h; cases h
    | some r =>
      obtain ⟨o1, tm1, σ1⟩ := r
      rw [h1] at h
      refine wp_block (hx _ _ _ _ _ h1 _ _ _ hs ht _ fun ρ' a' w' e1 e2 e3 e4 => ?_)
      cases o1 with
      | normal =>
        simp only [coBlock, Option.some.injEq, Prod.mk.injEq] at h
        obtain ⟨rfl, rfl, rfl⟩ := h
        exact hQ ρ' a' w' e1 e2 e3 e4
      | exit id' =>
        simp only [coBlock] at h
        cases hid : Nat.beq id' id with
        | true =>
          rw [hid] at h
          simp only [cond_true, Option.some.injEq, Prod.mk.injEq] at h
          obtain ⟨rfl, rfl, rfl⟩ := h
          obtain rfl := Nat.eq_of_beq_eq_true hid
          simp only [outE, Exit.inBlock, if_true]
          exact hQ ρ' a' w' e1 e2 e3 e4
        | false =>
          rw [hid] at h
          simp only [cond_false, Option.some.injEq, Prod.mk.injEq] at h
          obtain ⟨rfl, rfl, rfl⟩ := h
          have hne : ¬ id' = id := fun e => by subst e; simp at hid
          simp only [outE, Exit.inBlock, hne, if_false]
          exact hQ ρ' a' w' e1 e2 e3 e4
      | ret =>
        simp only [coBlock, Option.some.injEq, Prod.mk.injEq] at h
        obtain ⟨rfl, rfl, rfl⟩ := h
        exact hQ ρ' a' w' e1 e2 e3 e4
  | .loop c, hd => by
    have hx := code_ok hm hng hcall (rounds := rounds) c hd
    have key : ∀ k tm σ out tm' σ', evLoop (evCode P gl call rounds c) k tm σ = some (out, tm', σ') → ∀ (ρ : Ren) (a : Act) (w : World), SR gl w0 ρ σ w → TMR n ρ tm a.tmps → ∀ (Q : Exit → Act → World → Prop),
        (∀ ρ' a' w', Ext ρ σ ρ' σ' → a'.defers = a.defers → TMR n ρ' tm' a'.tmps → SR gl w0 ρ' σ' w' → Q (outE out) a' w') → Code.rounds P c Q k a w := by
      intro k
      induction k with
      | zero => intro tm σ out tm' σ' h; cases h
      | succ k ih =>
        intro tm σ out tm' σ' h ρ a w hs ht Q hQ
        have h : loNext (evLoop (evCode P gl call rounds c) k) (evCode P gl call rounds c tm σ) = some (out, tm', σ') := h
        rw [rounds_succ]
        cases h1 : evCode P gl call rounds c tm σ with
        | none => rw [h1] at h; cases h
        | some r =>
          obtain ⟨o1, tm1, σ1⟩ := r
          rw [h1] at h
          refine hx _ _ _ _ _ h1 _ _ _ hs ht _ fun ρ' a' w' e1 e2 e3 e4 => ?_
          cases o1 with
          | normal => exact ih _ _ _ _ _ h _ _ _ e4 e3 _ fun ρ'' a'' w'' f1 f2 f3 f4 => hQ ρ'' a'' w'' (e1.trans f1) (f2.trans e2) f3 f4
          | exit id =>
            simp only [loNext, Option.some.injEq, Prod.mk.injEq] at h
            obtain ⟨rfl, rfl, rfl⟩ := h
            exact hQ ρ' a' w' e1 e2 e3 e4
          | ret =>
            simp only [loNext, Option.some.injEq, Prod.mk.injEq] at h
            obtain ⟨rfl, rfl, rfl⟩ := h
            exact hQ ρ' a' w' e1 e2 e3 e4
    intro tm σ out tm' σ' h ρ a w hs ht Q hQ
    exact wp_loop_rounds rounds (key rounds _ _ _ _ _ h _ _ _ hs ht _ hQ)
  | .exit id, _ => by
    intro tm σ out tm' σ' h ρ a w hs ht Q hQ
    have h : some (Out.exit id, tm, σ) = some (out, tm', σ') := h
    simp only [Option.some.injEq, Prod.mk.injEq] at h
    obtain ⟨rfl, rfl, rfl⟩ := h
    exact wp_exit (hQ ρ a w (Ext.refl _ _) rfl ht hs)
  | .ret, _ => by
    intro tm σ out tm' σ' h ρ a w hs ht Q hQ
    have h : some (Out.ret, tm, σ) = some (out, tm', σ') := h
    simp only [Option.some.injEq, Prod.mk.injEq] at h
    obtain ⟨rfl, rfl, rfl⟩ := h
    exact wp_ret (hQ ρ a w (Ext.refl _ _) rfl ht hs)
  | .rangeFunc .., _ => by intro tm σ out tm' σ' h; cases h
  | .scope .., _ => by intro tm σ out tm' σ' h; cases h
  | .label .., _ => by intro tm σ out tm' σ' h; cases h
  | .goto .., _ => by intro tm σ out tm' σ' h; cases h
  | .refuse .., _ => by intro tm σ out tm' σ' h; cases h
omit [Syms] in
theorem tmOf_get : ∀ (vs : List Value) (i : Nat) (tm : Tr Value) (t : Nat) (v : Value), (tmOf vs i tm).get t = some v → (∃ j, t = i + j ∧ vs[j]? = some v) ∨ ((t < i ∨ i + vs.length ≤ t) ∧ tm.get t = some v)
  | [], i, tm, t, v, h => by
    refine Or.inr ⟨?_, h⟩
    simp
    omega
  | u :: vs, i, tm, t, v, h => by
    rcases tmOf_get vs (i + 1) _ t v h with ⟨j, rfl, hj⟩ | ⟨hc, hg⟩
    · exact Or.inl ⟨j + 1, by omega, by simpa using hj⟩
    · rw [Tr.get_put] at hg
      by_cases e : t = i
      · subst e
        rw [if_pos rfl] at hg
        obtain rfl := Option.some.inj hg
        exact Or.inl ⟨0, rfl, rfl⟩
      · rw [if_neg e] at hg
        refine Or.inr ⟨?_, hg⟩
        simp only [List.length_cons]
        omega
def resOne (tmps : Array Value) : ResultVar → Sem Value
  | .tmp t => pure (tmps.getD t undef)
  | .cell a t => do loadVar t (← asAddr (tmps.getD a undef))
theorem results_sim {n : Nat} {ρ : Ren} {σ : St} {w : World} {tm : Tr Value} {tmps : Array Value} (hs : SR gl w0 ρ σ w) (ht : TMR n ρ tm tmps) : ∀ {rs : List ResultVar} {vs : List Value}, evResults P tm σ rs = some vs →
    ∃ cs, (rs.mapM (resOne tmps)).run P w = .ok cs w ∧ VRs ρ vs cs
  | [], vs, h => by
    obtain rfl := Option.some.inj h
    exact ⟨[], by simp, .nil⟩
  | .tmp t :: rs, vs, h => by
    simp only [evResults] at h
    cases h2 : evResults P tm σ rs with
    | none => rw [h2] at h; cases h
    | some vs' =>
      rw [h2] at h
      simp only [reCons] at h
      split at h
      · rename_i v hv
        obtain rfl := Option.some.inj h
        obtain ⟨cs, k1, k2⟩ := results_sim hs ht h2
        obtain ⟨c, h3, h4⟩ := ht.2 t _ hv
        refine ⟨c :: cs, ?_, .cons h4 k2⟩
        rw [List.mapM_cons]
        simp only [resOne, Sem.run_bind, Sem.run_pure, Result.andThen_ok, k1]
        simp [h3]
      · cases h
  | .cell b t :: rs, vs, h => by
    simp only [evResults] at h
    cases h2 : evResults P tm σ rs with
    | none => rw [h2] at h; cases h
    | some vs' =>
      rw [h2] at h
      simp only [reCons] at h
      split at h
      · rename_i v hv
        obtain rfl := Option.some.inj h
        obtain ⟨cs, k1, k2⟩ := results_sim hs ht h2
        unfold reCell at hv
        split at hv
        · rename_i l o hb
          obtain ⟨c, h3, h4⟩ := ht.2 b _ hb
          obtain ⟨L, hL, rfl⟩ := h4.ptr_inv
          obtain ⟨c', h5, h6⟩ := load_run (P := P) hs.mr rfl hv hL
          refine ⟨c' :: cs, ?_, .cons h6 k2⟩
          rw [List.mapM_cons]
          have hg : tmps.getD b undef = .pointer (some ⟨L.b, L.d + o, none⟩) := by simp [h3]
          simp only [resOne, Sem.run_bind, Sem.run_pure, Result.andThen_ok, hg, asAddr, h5, k1]
        · cases hv
      · cases h
omit [Syms] in
theorem results_run {fn : Func} {tmps : Array Value} {w : World} {cs : List Value} (h : (fn.results.toList.mapM (resOne tmps)).run P w = .ok cs w) :
    (results fn tmps).run P w = .ok (if h : cs.length = 1 then cs[0] else .tuple cs.toArray) w := by
  have e : results fn tmps = (do let vs ← fn.results.mapM (resOne tmps); pure (if h : vs.size = 1 then vs[0] else .tuple vs)) := by
    unfold results
    congr
  rw [e, Array.mapM_eq_mapM_toList]
  simp only [Sem.run_bind, Sem.run_map, h, Result.andThen_ok, Sem.run_pure]
  simp
theorem call_ok (hm : P.follows .mixedOrders = true) (hng : NoCount P) {orc : Oracle} (horc : CallOK P gl w0 orc) {rounds : Nat} : ∀ n, CallOK P gl w0 (evCall P gl orc rounds n) := by
  intro n
  induction n with
  | zero => intro f args σ v σ' h; cases h
  | succ n ih =>
    intro f args σ v σ' h ρ w cargs hs ha
    have h : caOrc P gl (evCall P gl orc rounds n) rounds f args σ (orc f args σ) = some (v, σ') := h
    cases ho : orc f args σ with
    | some x =>
      rw [ho] at h
      obtain rfl := Option.some.inj h
      exact horc f args σ v σ' ho ρ w cargs hs ha
    | none =>
      rw [ho] at h
      simp only [caOrc] at h
      cases hf : P.funcs[f]? with
      | none => rw [hf] at h; cases h
      | some fn =>
        rw [hf] at h
        simp only [caBody] at h
        cases hb : fn.body with
        | none => rw [hb] at h; cases h
        | some c =>
          rw [hb] at h
          simp only [caFn] at h
          obtain ⟨hd, h⟩ := bif_some h
          rw [Bool.and_eq_true] at hd
          obtain ⟨hd, hal⟩ := hd
          have hal := Nat.le_of_ble_eq_true hal
          cases hc : evCode P gl (evCall P gl orc rounds n) rounds c (tmOf args 0 .nil) σ with
          | none => rw [hc] at h; cases h
          | some r =>
            obtain ⟨out, tm, σ1⟩ := r
            rw [hc] at h
            have hlen := ha.length
            have hnt : cargs.size ≤ fn.ntmps := by
              rw [← Array.length_toList, ← hlen]; exact hal
            · have ht0 : TMR fn.ntmps ρ (tmOf args 0 .nil) (cargs ++ Array.replicate (fn.ntmps - cargs.size) undef) := by
                refine ⟨by simp; omega, fun t v hv => ?_⟩
                rcases tmOf_get args 0 _ t v hv with ⟨j, rfl, hj⟩ | ⟨_, hg⟩
                · obtain ⟨y, hy, hr⟩ := ha.at j v hj
                  refine ⟨y, ?_, hr⟩
                  have hlt := (List.getElem?_eq_some_iff.1 hy).1
                  rw [Nat.zero_add, Array.getElem?_append_left (by simpa using hlt)]
                  simpa using hy
                · cases hg
              have fin : ∀ {rsv : Option (List Value)}, caRes σ1 rsv = some (v, σ') → rsv = evResults P tm σ1 fn.results.toList → (∀ (ρ' : Ren) (a' : Act) (w' : World), Ext ρ σ ρ' σ1 → a'.defers = [] → TMR fn.ntmps ρ' tm a'.tmps → SR gl w0 ρ' σ1 w' → a'.defers = [] ∧ ∃ v', (results fn a'.tmps).run P w' = .ok v' w' ∧ ∃ ρ' cv, Ending.returned v' = .returned cv ∧ Ext ρ σ ρ' σ' ∧ VR ρ' v cv ∧ SR gl w0 ρ' σ' w') := by
                intro rsv h hrs ρ' a' w' e1 e2 e3 e4
                refine ⟨e2, ?_⟩
                unfold caRes at h
                split at h
                · rename_i x
                  simp only [Option.some.injEq, Prod.mk.injEq] at h
                  obtain ⟨rfl, rfl⟩ := h
                  obtain ⟨cs, k1, k2⟩ := results_sim (P := P) e4 e3 hrs.symm
                  have k3 := results_run k1
                  cases k2 with
                  | cons k4 k5 =>
                    cases k5
                    exact ⟨_, k3, ρ', _, rfl, e1, k4, e4⟩
                · rename_i vs hns
                  simp only [Option.some.injEq, Prod.mk.injEq] at h
                  obtain ⟨rfl, rfl⟩ := h
                  obtain ⟨cs, k1, k2⟩ := results_sim (P := P) e4 e3 hrs.symm
                  have k3 := results_run k1
                  have hl1 : ¬ cs.length = 1 := fun h1 => by
                    rw [← k2.length] at h1
                    obtain ⟨x, rfl⟩ := List.length_eq_one_iff.1 h1
                    exact hns x rfl
                  rw [dif_neg hl1] at k3
                  exact ⟨_, k3, ρ', _, rfl, e1, .tuple k2, e4⟩
                · cases h
              refine calls_of_wp hf hb ?_
              cases out with
              | normal =>
                exact code_ok hm hng ih c hd _ _ _ _ _ hc _ _ _ hs ht0 _ fun ρ' a' w' e1 e2 e3 e4 => fin h rfl ρ' a' w' e1 e2 e3 e4
              | ret =>
                exact code_ok hm hng ih c hd _ _ _ _ _ hc _ _ _ hs ht0 _ fun ρ' a' w' e1 e2 e3 e4 => fin h rfl ρ' a' w' e1 e2 e3 e4
              | exit id => cases h
end
end Go.Proofs.YtamkoncjkngneaaDoor.Ev
