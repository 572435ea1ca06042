/-
  Code, and calls.
-/
import Derived.Test.YtcjolamfjgdgjaaGreatDoorEvDraw
namespace Go.Proofs.YtcjolamfjgdgjaaGreatDoor.Ev
open Go.RowKit
variable [Syms]

def outE : Out → Exit
  | .normal => .normal
  | .exit id => .exit id
  | .ret => .ret
section
variable {P : Program} {gl : Nat} {w0 : World} {call : Run}

def mark (D : Nat) : Deferred := { target := .collected D, args := #[] }
/-- The marks that code has pushed: in a round none. -/
structure Marks (r : Option Nat) (opn opn' : Nat → Prop) (Ds : List Nat) : Prop where
  new : ∀ D, D ∈ Ds → opn' D ∧ ¬ opn D
  nodup : Ds.Nodup
  old : ∀ x, opn x → opn' x
  round : r ≠ none → opn' = opn ∧ Ds = []
omit [Syms] in
theorem Marks.refl (r : Option Nat) (opn : Nat → Prop) : Marks r opn opn [] := ⟨fun _ h => by simp at h, List.nodup_nil, fun _ h => h, fun _ => ⟨rfl, rfl⟩⟩
omit [Syms] in
theorem Marks.trans {r : Option Nat} {o o' o'' : Nat → Prop} {Ds Es : List Nat} (h : Marks r o o' Ds) (k : Marks r o' o'' Es) : Marks r o o'' (Es ++ Ds) := by
  refine ⟨fun D hD => ?_, ?_, fun x hx => k.old x (h.old x hx), fun hr => ?_⟩
  · rcases List.mem_append.1 hD with hD | hD
    · obtain ⟨k1, k2⟩ := k.new D hD
      exact ⟨k1, fun ho => k2 (h.old D ho)⟩
    · obtain ⟨k1, k2⟩ := h.new D hD
      exact ⟨k.old D k1, k2⟩
  · rw [List.nodup_append]
    refine ⟨k.nodup, h.nodup, fun x hx y hy e => ?_⟩
    subst e
    exact (k.new x hx).2 (h.new x hy).1
  · obtain ⟨rfl, rfl⟩ := h.round hr
    obtain ⟨rfl, rfl⟩ := k.round hr
    exact ⟨rfl, rfl⟩
/-- The run's number of the round's loop, and the world's. -/
def RL (ρ : Ren) : Option Nat → Option Nat → Prop
  | none, none => True
  | some l, some b => ∃ L, ρ l = some L ∧ L.b = b
  | _, _ => False
omit [Syms] in
theorem RL.mono {ρ ρ' : Ren} (h : Le ρ ρ') : ∀ {x y : Option Nat}, RL ρ x y → RL ρ' x y
  | none, none, _ => trivial
  | some _, some _, ⟨L, h1, h2⟩ => ⟨L, h _ _ h1, h2⟩
  | none, some _, h => h.elim
  | some _, none, h => h.elim
/-- What a piece of code leaves. -/
def CodeOK (P : Program) (gl : Nat) (w0 : World) (r : Option Nat) (fi : Option Nat × Nat) (f : CodeF) (c : Code) : Prop :=
  ∀ tm σ out tm' σ', f tm σ = some (out, tm', σ') → ∀ (opn : Nat → Prop) (ρ : Ren) (a : Act) (w : World), RL ρ fi.1 r → SR gl ⟨w0, opn⟩ ρ σ w → TMR fi.2 ρ tm a.tmps → ∀ (Q : Exit → Act → World → Prop),
    (∀ opn' Ds ρ' a' w', Marks r opn opn' Ds → Ext ρ σ ρ' σ' → a'.defers = Ds.map mark ++ a.defers → TMR fi.2 ρ' tm' a'.tmps → SR gl ⟨w0, opn'⟩ ρ' σ' w' → Q (outE out) a' w') → c.wpIn (Wd r) 0 P Q a w
theorem region_ok (hm : P.follows .mixedOrders = true) (hng : NoCount P) (hcall : RunOK P gl w0 call) {r : Option Nat} {fi : Option Nat × Nat} {id : Nat} {ops : Array Oper} {draw : Bool} (hd : ops.toList.all (dstOk fi.2) = true) : CodeOK P gl w0 r fi (fun tm σ => coReg (evRegion P gl call ops draw tm σ)) (.region id ops draw) := by
  intro tm σ out tm' σ' h opn ρ a w hrl hs ht Q hQ
  simp only at h
  cases hr : evRegion P gl call ops draw tm σ with
  | none => rw [hr] at h; cases h
  | some x =>
    obtain ⟨tm1, σ1⟩ := x
    rw [hr] at h
    simp only [coReg, Option.some.injEq, Prod.mk.injEq] at h
    obtain ⟨rfl, rfl, rfl⟩ := h
    have hQ' : ∀ ρ' a' w', Ext ρ σ ρ' σ1 → a'.defers = a.defers → TMR fi.2 ρ' tm1 a'.tmps → SR gl ⟨w0, opn⟩ ρ' σ1 w' → Q .normal a' w' := fun ρ' a' w' e1 e2 e3 e4 => hQ opn [] ρ' a' w' (Marks.refl _ _) e1 (by simpa using e2) e3 e4
    cases draw with
    | false => exact wpIn_region_list (list_sim hng hcall hr hs ht hd hQ')
    | true => exact draw_sim hm hng hcall hr hs ht hd hQ'
omit [Syms] in
theorem ro_of {x : Option Blk} {r : LpRec} (h : roLp x = some r) : ∃ B, x = some B ∧ B.ob = some (.lp r) := by
  unfold roLp at h
  split at h
  · rename_i B
    split at h
    · rename_i r' hr
      obtain rfl := Option.some.inj h
      exact ⟨B, rfl, hr⟩
    · cases h
  · cases h
/-- A loop's record, in the run and in the world. -/
theorem SR.loop {w0 : Bs} {ρ : Ren} {σ : St} {w : World} (h : SR gl w0 ρ σ w) {l : Nat} {L : Loc} (hl : ρ l = some L) {r : LpRec} (hr : roLp (σ.mem.get l) = some r) : ∃ B c, σ.mem.get l = some B ∧ B.ob = some (.lp r) ∧ w.heap[L.b]? = some (.loop c) ∧ LpR ρ r c := by
  obtain ⟨B, hB, ho⟩ := ro_of hr
  obtain ⟨_, ⟨c, h1, h2⟩, _⟩ := h.mr.obj l L B _ hl hB ho
  exact ⟨B, c, hB, ho, h1, h2⟩
/-- The record's state turns. -/
theorem SR.turn {w0 : Bs} {ρ : Ren} {σ : St} {w : World} (h : SR gl w0 ρ σ w) {l : Nat} {L : Loc} (hl : ρ l = some L) {r : LpRec} {c : Loop} {B : Blk} (hB : σ.mem.get l = some B) (ho : B.ob = some (.lp r)) (hc : w.heap[L.b]? = some (.loop c)) (hrc : LpR ρ r c) (st : LoopState) (pd : Option Code) :
    SR gl w0 ρ (setOb σ l (some (.lp { r with state := st, pending := pd }))) (w.putObj L.b (.loop { c with state := st, pending := pd })) :=
  h.putOb (x := .loop { c with state := st, pending := pd }) hl hB ho trivial (fun o e => by
    cases e
    exact ⟨_, World.putObj_heap_same (Array.getElem?_eq_some_iff.1 hc).1, rfl, rfl, hrc.tm, hrc.params, hrc.assign, hrc.body, hrc.ok⟩) (fun x e => by rw [hc] at e; cases e)
theorem SR.endLoop {w0 : Bs} {ρ : Ren} {σ : St} {w : World} (h : SR gl w0 ρ σ w) {l : Nat} {L : Loc} (hl : ρ l = some L) {r : LpRec} {c : Loop} {B : Blk} (hB : σ.mem.get l = some B) (ho : B.ob = some (.lp r)) (hc : w.heap[L.b]? = some (.loop c)) :
    SR gl w0 ρ (setOb σ l none) (w.putObj L.b (.loop { c with state := .exhausted })) :=
  h.putOb (x := .loop { c with state := .exhausted }) hl hB ho trivial (fun o e => by cases e) (fun x e => by rw [hc] at e; cases e)
omit [Syms] in
/-- What code does behind a loop over a function. -/
theorem jump_ok {r : Option Nat} {l : Nat} {tm tm' : Tr Value} {σ σ' : St} {out : Out} {pd : Option Code} (h : rfEnd l tm σ pd = some (out, tm', σ')) {Q : Exit → Act → World → Prop} {a : Act} {w : World} (hQ : tm' = tm → σ' = setOb σ l none → Q (outE out) a w) :
    match (generalizing := false) pd with
    | none => Q .normal a w
    | some c => c.wpIn (Wd r) 0 P Q a w := by
  unfold rfEnd at h
  split at h
  · simp only [Option.some.injEq, Prod.mk.injEq] at h
    obtain ⟨rfl, rfl, rfl⟩ := h
    exact hQ rfl rfl
  · simp only [Option.some.injEq, Prod.mk.injEq] at h
    obtain ⟨rfl, rfl, rfl⟩ := h
    exact wpIn_ret (hQ rfl rfl)
  · simp only [Option.some.injEq, Prod.mk.injEq] at h
    obtain ⟨rfl, rfl, rfl⟩ := h
    exact wpIn_exit (hQ rfl rfl)
  · cases h
theorem range_ok (hng' : NoCount P) (hcall : RunOK P gl w0 call) {r : Option Nat} {fi : Option Nat × Nat} {f : Operand} {ps : Array Tmp} {assign body : Code} : CodeOK P gl w0 r fi (fun tm σ => coRange P gl call fi f ps.toList assign body tm σ) (.rangeFunc f ps assign body) := by
  intro tm σ out tm' σ' h opn ρ a w hrl hs ht Q hQ
  simp only [coRange] at h
  obtain ⟨hok, h⟩ := bif_some h
  rw [Bool.and_eq_true] at hok
  obtain ⟨hok, hlive⟩ := hok
  have he0 := env_rel hs ht
  generalize hnew : σ.new ⟨[], true, 0, some (.lp ⟨.ready, none, fi.2, tm, ps.toList, assign, body⟩)⟩ = σ1 at h
  cases hv : rfVal P call σ1 σ.next (envOf gl tm f) with
  | none => rw [hv] at h; cases h
  | some x =>
    obtain ⟨v, σ2⟩ := x
    rw [hv] at h
    simp only [rfOut] at h
    cases hst : roLp (σ2.mem.get σ.next) with
    | none => rw [hst] at h; cases h
    | some rec =>
      rw [hst] at h
      simp only [rfState] at h
      have h : rec.state ≠ .busy ∧ rfEnd σ.next tm σ2 rec.pending = some (out, tm', σ') := by
        split at h
        · cases h
        · rename_i hnb; exact ⟨hnb, h⟩
      obtain ⟨hnb, h⟩ := h
      unfold rfVal at hv
      split at hv
      · rename_i g first captured hf
        obtain ⟨first', captured', hfv, hf1, hf2⟩ := (he0 f _ hf).func_inv
        unfold rfFn at hv
        split at hv
        · rename_i fn hfn
          split at hv
          · rename_i bodyc hbody
            -- the world behind enterLoop
            have key : ∀ (opn1 : Nat → Prop) (Ds : List Nat) (w1 : World) (b : Nat), Marks r opn opn1 Ds → SR gl ⟨w0, opn1⟩ (upd ρ σ.next ⟨b, 0, 0, 0⟩) σ1 w1 → ∃ d, (resolve a.eval (rangeCall f b) 0).run P w1 = .ok d w1 ∧
                (invoke d.target d.args).run P w1 = .ok (.enter g (first' ++ #[.func (.yield b) #[] #[]] ++ captured')) w1 ∧
                CallsIn (Wd r) (0 - 1) P g (first' ++ #[.func (.yield b) #[] #[]] ++ captured') w1 (rangePost (Wd r) 0 P b Q { a with defers := Ds.map mark ++ a.defers }) := by
              intro opn1 Ds w1 b hmk hsr
              have hnone : ρ σ.next = none := by
                cases hq : ρ σ.next with
                | none => rfl
                | some X => exact absurd (hs.dom _ _ hq) (Nat.lt_irrefl _)
              have hle := Le.upd ⟨b, 0, 0, 0⟩ hnone
              refine ⟨{ target := .fn (.func g) captured', args := first' ++ #[.func (.yield b) #[] #[]] }, ?_, ?_, ?_⟩
              · have hy : a.eval (.const (.func (.yield b) #[] #[])) = .func (.yield b) #[] #[] := rfl
                simp [resolve, hfv, Deferred.ofValue, hy]
              · have hne : ¬ fn.name = "runtime.NumGoroutine" := by
                  have := hng' g fn hfn
                  simpa using this
                simp [invoke, callFunc, hfn, hne, hbody]
              · have hargs : VRs (upd ρ σ.next ⟨b, 0, 0, 0⟩) (first.toList ++ [Value.func (.yield σ.next) #[] #[]] ++ captured.toList) (first' ++ #[Value.func (.yield b) #[] #[]] ++ captured').toList := by
                  have e1 : (first' ++ #[Value.func (.yield b) #[] #[]] ++ captured').toList = first'.toList ++ [Value.func (.yield b) #[] #[]] ++ captured'.toList := by simp
                  rw [e1]
                  exact (((hf1.mono hle).append (VRs.cons (VR.yld (upd_same _ _ _)) VRs.nil))).append (hf2.mono hle)
                refine callsIn_wd ((hcall.call g _ σ1 v σ2 hv opn1 _ w1 _ hsr hargs).mono ?_)
                rintro e w' ⟨ρ2, cv, rfl, k1, k2, k3⟩
                have hlt : σ.next < σ1.next := by rw [← hnew]; exact Nat.lt_succ_self _
                have hL : ρ2 σ.next = some ⟨b, 0, 0, 0⟩ := (k1.same _ hlt).trans (upd_same _ _ _)
                obtain ⟨B, c, hB, ho, hc, hrc⟩ := k3.loop hL hst
                refine ⟨rec.pending, w'.putObj b (.loop { c with state := .exhausted }), ?_, ?_⟩
                · have he := run_endLoop (P := P) hc (by rw [hrc.state]; exact hnb)
                  exact he.trans (congrArg (fun p => Result.ok p (w'.putObj b (.loop { c with state := .exhausted }))) hrc.pending)
                · refine jump_ok h (fun e1 e2 => ?_)
                  subst e1 e2
                  have hend := k3.endLoop hL hB ho hc
                  have hext : Ext ρ σ ρ2 (setOb σ2 σ.next none) := by
                    have h1 : Ext ρ σ (upd ρ σ.next ⟨b, 0, 0, 0⟩) σ1 := by rw [← hnew]; exact Ext.fresh _ _
                    exact (h1.trans k1).trans (Ext.put hL _)
                  exact hQ opn1 Ds ρ2 _ _ hmk hext rfl (ht.mono (Le.trans hle (k1.le hsr))) hend
            refine wpIn_rangeFunc fun fn' _ => ?_
            cases r with
            | none =>
              have hsr : SR gl ⟨w0, fun D => D = w.heap.size ∨ opn D⟩ (upd ρ σ.next ⟨w.heap.size + 1, 0, 0, 0⟩) σ1 ((w.alloc (.deferred (some []))).alloc (.loop { state := .ready, pending := none, fn := fn', tmps := a.tmps, params := ps, assign, body, defers := w.heap.size })) := by
                have h1 := hs.open
                have hsz : (w.alloc (.deferred (some []))).heap.size = w.heap.size + 1 := by simp
                have h2 := h1.newOb (x := .loop { state := .ready, pending := none, fn := fn', tmps := a.tmps, params := ps, assign, body, defers := w.heap.size }) (o := .lp ⟨.ready, none, fi.2, tm, ps.toList, assign, body⟩)
                  ⟨_, World.alloc_heap_new _ _, rfl, rfl, ht.mono (Le.upd _ (by
                    cases hq : ρ σ.next with
                    | none => rfl
                    | some X => exact absurd (hs.dom _ _ hq) (Nat.lt_irrefl _))), rfl, rfl, rfl, hok⟩
                rw [hsz] at h2
                rw [← hnew]
                exact h2
              have hmk : Marks none opn (fun D => D = w.heap.size ∨ opn D) [w.heap.size] := by
                refine ⟨fun D hD => ?_, by simp, fun _ h => .inr h, fun h => absurd rfl h⟩
                obtain rfl : D = w.heap.size := by simpa using hD
                refine ⟨.inl rfl, fun ho => ?_⟩
                have := (Array.getElem?_eq_some_iff.1 (hs.opn _ ho).2).1
                omega
              obtain ⟨d, d1, d2, d3⟩ := key _ _ _ _ hmk hsr
              exact ⟨_, _, _, d, _, g, _, _, run_enterLoop_outer _ _ _ _ _, d1, fun _ _ => trivial, d2, (fun h => by cases h), d3⟩
            | some b0 =>
              cases hfi : fi.1 with
              | none => rw [hfi] at hrl; exact hrl.elim
              | some l0 =>
                rw [hfi] at hrl hlive
                obtain ⟨L0, hL0, rfl⟩ := hrl
                simp only [rlOk] at hlive
                obtain ⟨rec0, hrec0⟩ := Option.isSome_iff_exists.1 hlive
                obtain ⟨_, c0, _, _, hc0, _⟩ := hs.loop hL0 hrec0
                have hsr : SR gl ⟨w0, opn⟩ (upd ρ σ.next ⟨w.heap.size, 0, 0, 0⟩) σ1 (w.alloc (.loop { state := .ready, pending := none, fn := fn', tmps := a.tmps, params := ps, assign, body, defers := c0.defers })) := by
                  rw [← hnew]
                  exact hs.newOb (x := .loop { state := .ready, pending := none, fn := fn', tmps := a.tmps, params := ps, assign, body, defers := c0.defers }) (o := .lp ⟨.ready, none, fi.2, tm, ps.toList, assign, body⟩)
                    ⟨_, World.alloc_heap_new _ _, rfl, rfl, ht.mono (Le.upd _ (by
                      cases hq : ρ σ.next with
                      | none => rfl
                      | some X => exact absurd (hs.dom _ _ hq) (Nat.lt_irrefl _))), rfl, rfl, rfl, hok⟩
                obtain ⟨d, d1, d2, d3⟩ := key _ _ _ _ (Marks.refl _ _) hsr
                refine ⟨w.heap.size, [], _, d, _, g, _, _, ?_, d1, fun _ _ => trivial, d2, (fun h => by cases h), d3⟩
                show (Instr.enterLoop fn' a.tmps ps assign body (some L0.b)).run P w = _
                unfold Instr.enterLoop
                simp only [Sem.run_bind, run_getLoop hc0, run_newObj_alloc, Result.andThen, Sem.run_pure]
          · cases hv
        · cases hv
      · cases hv
theorem code_ok (hm : P.follows .mixedOrders = true) (hng : NoCount P) (hcall : RunOK P gl w0 call) {r : Option Nat} {fi : Option Nat × Nat} {rounds : Nat} : ∀ (c : Code), dstsOk fi.2 c = true → CodeOK P gl w0 r fi (evCode P gl call rounds fi c) c
  | .skip, _ => by
    intro tm σ out tm' σ' h opn ρ a w hrl hs ht Q hQ
    have h : some (Out.normal, tm, σ) = some (out, tm', σ') := h
    simp only [Option.some.injEq, Prod.mk.injEq] at h
    obtain ⟨rfl, rfl, rfl⟩ := h
    exact wpIn_skip (hQ opn [] ρ a w (Marks.refl _ _) (Ext.refl _ _) rfl ht hs)
  | .region id ops draw, hd => region_ok hm hng hcall hd
  | .seq x y, hd => by
    simp only [dstsOk, Bool.and_eq_true] at hd
    have hx := code_ok hm hng hcall (r := r) (rounds := rounds) x hd.1
    have hy := code_ok hm hng hcall (r := r) (rounds := rounds) y hd.2
    intro tm σ out tm' σ' h opn ρ a w hrl hs ht Q hQ
    have h : loNext (evCode P gl call rounds fi y) (evCode P gl call rounds fi x tm σ) = some (out, tm', σ') := h
    cases h1 : evCode P gl call rounds fi x tm σ with
    | none => rw [h1] at h; cases h
    | some q =>
      obtain ⟨o1, tm1, σ1⟩ := q
      rw [h1] at h
      refine wpIn_seq (hx _ _ _ _ _ h1 _ _ _ _ hrl hs ht _ fun opn' Ds ρ' a' w' e0 e1 e2 e3 e4 => ?_)
      cases o1 with
      | normal =>
        exact hy _ _ _ _ _ h _ _ _ _ (hrl.mono (e1.le hs)) e4 e3 _ fun opn'' Es ρ'' a'' w'' f0 f1 f2 f3 f4 => hQ opn'' (Es ++ Ds) ρ'' a'' w'' (e0.trans f0) (e1.trans f1) (by rw [f2, e2]; simp) f3 f4
      | exit id =>
        simp only [loNext, Option.some.injEq, Prod.mk.injEq] at h
        obtain ⟨rfl, rfl, rfl⟩ := h
        exact hQ opn' Ds ρ' a' w' e0 e1 e2 e3 e4
      | ret =>
        simp only [loNext, Option.some.injEq, Prod.mk.injEq] at h
        obtain ⟨rfl, rfl, rfl⟩ := h
        exact hQ opn' Ds ρ' a' w' e0 e1 e2 e3 e4
  | .cond x c1 c2, hd => by
    simp only [dstsOk, Bool.and_eq_true] at hd
    have hx := code_ok hm hng hcall (r := r) (rounds := rounds) c1 hd.1
    have hy := code_ok hm hng hcall (r := r) (rounds := rounds) c2 hd.2
    intro tm σ out tm' σ' h opn ρ a w hrl hs ht Q hQ
    have h : coCond (evCode P gl call rounds fi c1) (evCode P gl call rounds fi c2) tm σ (envOf gl tm x) = some (out, tm', σ') := h
    cases he : envOf gl tm x with
    | none => rw [he] at h; cases h
    | some v =>
      rw [he] at h
      cases v with
      | bool b =>
        have hb := (env_rel hs ht x _ he).bool_inv
        cases b with
        | true => exact wpIn_cond hb (hx _ _ _ _ _ h _ _ _ _ hrl hs ht _ hQ)
        | false => exact wpIn_cond hb (hy _ _ _ _ _ h _ _ _ _ hrl hs ht _ hQ)
      | _ => cases h
  | .block id c, hd => by
    have hx := code_ok hm hng hcall (r := r) (rounds := rounds) c hd
    intro tm σ out tm' σ' h opn ρ a w hrl hs ht Q hQ
    have h : coBlock id (evCode P gl call rounds fi c tm σ) = some (out, tm', σ') := h
    cases h1 : evCode P gl call rounds fi c tm σ with
    | none => rw [h1] at h; cases h
    | some q =>
      obtain ⟨o1, tm1, σ1⟩ := q
      rw [h1] at h
      refine wpIn_block (hx _ _ _ _ _ h1 _ _ _ _ hrl hs ht _ fun opn' Ds ρ' a' w' e0 e1 e2 e3 e4 => ?_)
      cases o1 with
      | normal =>
        simp only [coBlock, Option.some.injEq, Prod.mk.injEq] at h
        obtain ⟨rfl, rfl, rfl⟩ := h
        exact hQ opn' Ds ρ' a' w' e0 e1 e2 e3 e4
      | exit id' =>
        simp only [coBlock] at h
        cases hid : Nat.beq id' id with
        | true =>
          rw [hid] at h
          simp only [cond_true, Option.some.injEq, Prod.mk.injEq] at h
          obtain ⟨rfl, rfl, rfl⟩ := h
          obtain rfl := Nat.eq_of_beq_eq_true hid
          simp only [outE, Exit.inBlock, if_true]
          exact hQ opn' Ds ρ' a' w' e0 e1 e2 e3 e4
        | false =>
          rw [hid] at h
          simp only [cond_false, Option.some.injEq, Prod.mk.injEq] at h
          obtain ⟨rfl, rfl, rfl⟩ := h
          have hne : ¬ id' = id := fun e => by subst e; simp at hid
          simp only [outE, Exit.inBlock, hne, if_false]
          exact hQ opn' Ds ρ' a' w' e0 e1 e2 e3 e4
      | ret =>
        simp only [coBlock, Option.some.injEq, Prod.mk.injEq] at h
        obtain ⟨rfl, rfl, rfl⟩ := h
        exact hQ opn' Ds ρ' a' w' e0 e1 e2 e3 e4
  | .loop c, hd => by
    have hx := code_ok hm hng hcall (r := r) (rounds := rounds) c hd
    have key : ∀ k tm σ out tm' σ', evLoop (evCode P gl call rounds fi c) k tm σ = some (out, tm', σ') → ∀ (opn : Nat → Prop) (ρ : Ren) (a : Act) (w : World), RL ρ fi.1 r → SR gl ⟨w0, opn⟩ ρ σ w → TMR fi.2 ρ tm a.tmps → ∀ (Q : Exit → Act → World → Prop),
        (∀ opn' Ds ρ' a' w', Marks r opn opn' Ds → Ext ρ σ ρ' σ' → a'.defers = Ds.map mark ++ a.defers → TMR fi.2 ρ' tm' a'.tmps → SR gl ⟨w0, opn'⟩ ρ' σ' w' → Q (outE out) a' w') → Code.roundsIn (Wd r) 0 P c Q k a w := by
      intro k
      induction k with
      | zero => intro tm σ out tm' σ' h; cases h
      | succ k ih =>
        intro tm σ out tm' σ' h opn ρ a w hrl hs ht Q hQ
        have h : loNext (evLoop (evCode P gl call rounds fi c) k) (evCode P gl call rounds fi c tm σ) = some (out, tm', σ') := h
        rw [roundsIn_succ]
        cases h1 : evCode P gl call rounds fi c tm σ with
        | none => rw [h1] at h; cases h
        | some q =>
          obtain ⟨o1, tm1, σ1⟩ := q
          rw [h1] at h
          refine hx _ _ _ _ _ h1 _ _ _ _ hrl hs ht _ fun opn' Ds ρ' a' w' e0 e1 e2 e3 e4 => ?_
          cases o1 with
          | normal => exact ih _ _ _ _ _ h _ _ _ _ (hrl.mono (e1.le hs)) e4 e3 _ fun opn'' Es ρ'' a'' w'' f0 f1 f2 f3 f4 => hQ opn'' (Es ++ Ds) ρ'' a'' w'' (e0.trans f0) (e1.trans f1) (by rw [f2, e2]; simp) f3 f4
          | exit id =>
            simp only [loNext, Option.some.injEq, Prod.mk.injEq] at h
            obtain ⟨rfl, rfl, rfl⟩ := h
            exact hQ opn' Ds ρ' a' w' e0 e1 e2 e3 e4
          | ret =>
            simp only [loNext, Option.some.injEq, Prod.mk.injEq] at h
            obtain ⟨rfl, rfl, rfl⟩ := h
            exact hQ opn' Ds ρ' a' w' e0 e1 e2 e3 e4
    intro tm σ out tm' σ' h opn ρ a w hrl hs ht Q hQ
    exact wpIn_loop_rounds rounds (key rounds _ _ _ _ _ h _ _ _ _ hrl hs ht _ hQ)
  | .exit id, _ => by
    intro tm σ out tm' σ' h opn ρ a w hrl hs ht Q hQ
    have h : some (Out.exit id, tm, σ) = some (out, tm', σ') := h
    simp only [Option.some.injEq, Prod.mk.injEq] at h
    obtain ⟨rfl, rfl, rfl⟩ := h
    exact wpIn_exit (hQ opn [] ρ a w (Marks.refl _ _) (Ext.refl _ _) rfl ht hs)
  | .ret, _ => by
    intro tm σ out tm' σ' h opn ρ a w hrl hs ht Q hQ
    have h : some (Out.ret, tm, σ) = some (out, tm', σ') := h
    simp only [Option.some.injEq, Prod.mk.injEq] at h
    obtain ⟨rfl, rfl, rfl⟩ := h
    exact wpIn_ret (hQ opn [] ρ a w (Marks.refl _ _) (Ext.refl _ _) rfl ht hs)
  | .rangeFunc .., _ => range_ok hng hcall
  | .scope .., _ => by intro tm σ out tm' σ' h; cases h
  | .label .., _ => by intro tm σ out tm' σ' h; cases h
  | .goto .., _ => by intro tm σ out tm' σ' h; cases h
  | .refuse .., _ => by intro tm σ out tm' σ' h; cases h
/-- A round. -/
theorem ps_rel {n : Nat} {ρ : Ren} : ∀ {ps : List Tmp} {vs cs : List Value} {tm : Tr Value} {tmps : Array Value}, TMR n ρ tm tmps → VRs ρ vs cs → vs.length = ps.length → (ps.all fun t => Nat.ble (Nat.succ t) n) = true →
    TMR n ρ (putPs ps vs tm) ((ps.zip cs).foldl (fun tmps (t, a) => tmps.setIfInBounds t a) tmps)
  | [], vs, cs, tm, tmps, h, hv, hl, _ => by cases hv <;> exact h
  | p :: ps, [], _, _, _, _, _, hl, _ => by simp at hl
  | p :: ps, v :: vs, cs, tm, tmps, h, hv, hl, hp => by
    cases hv with
    | cons h1 h2 =>
      rename_i c cs
      simp only [List.all_cons, Bool.and_eq_true] at hp
      have hlt : p < n := Nat.le_of_ble_eq_true hp.1
      simp only [putPs, List.zip_cons_cons, List.foldl_cons]
      refine ps_rel ⟨by simp [h.1], fun t x hx => ?_⟩ h2 (by simpa using hl) hp.2
      rw [Tr.get_put] at hx
      by_cases e : t = p
      · subst e
        rw [if_pos rfl] at hx
        obtain rfl := Option.some.inj hx
        exact ⟨c, Array.getElem?_setIfInBounds_self_of_lt (by rw [h.1]; exact hlt), h1⟩
      · rw [if_neg e] at hx
        obtain ⟨c', k1, k2⟩ := h.2 t x hx
        exact ⟨c', by rw [Array.getElem?_setIfInBounds_ne (Ne.symm e)]; exact k1, k2⟩
theorem rnd_ok (hm : P.follows .mixedOrders = true) (hng : NoCount P) (hcall : RunOK P gl w0 call) {rounds : Nat} : RndOK P gl w0 (evRnd P gl call rounds) := by
  intro l args σ v σ' h opn ρ w cargs L hs hL hargs
  unfold evRnd at h
  cases hr : roLp (σ.mem.get l) with
  | none => rw [hr] at h; cases h
  | some rec =>
    rw [hr] at h
    simp only [rnRec] at h
    obtain ⟨h1, h⟩ := bif_some h
    have h1 := Nat.eq_of_beq_eq_true h1
    obtain ⟨B, c, hB, ho, hc, hrc⟩ := hs.loop hL hr
    have hok := hrc.ok
    simp only [lpOk, Bool.and_eq_true] at hok
    obtain ⟨⟨hok1, hok2⟩, hok3⟩ := hok
    have hsz : cargs.size = c.params.size := by
      rw [← Array.length_toList, ← Array.length_toList, hrc.params, ← h1, hargs.length]
    refine ⟨c.fn, _, c.assign, c.body, run_yield hc hsz, ?_⟩
    have htm : TMR rec.n ρ (putPs rec.params args rec.tm) ((c.params.zip cargs).foldl (fun tmps (t, a) => tmps.setIfInBounds t a) c.tmps) := by
      have := ps_rel hrc.tm hargs h1 hok3
      rw [← hrc.params] at this ⊢
      rw [← Array.foldl_toList]
      simpa using this
    refine roundIn_of_wpIn trivial ?_
    rw [hrc.assign, hrc.body]
    cases ha : evCode P gl call rounds (some l, rec.n) rec.assign (putPs rec.params args rec.tm) σ with
    | none => rw [ha] at h; cases h
    | some q =>
      obtain ⟨o1, tm1, σ1⟩ := q
      rw [ha] at h
      cases o1 with
      | exit id => cases h
      | ret => cases h
      | normal =>
        simp only [rnAssign] at h
        refine code_ok hm hng hcall (r := some L.b) (fi := (some l, rec.n)) rec.assign hok1 _ _ _ _ _ ha opn ρ _ w ⟨L, hL, rfl⟩ hs htm _ fun opn1 Ds1 ρ1 a1 w1 m1 e1 e2 e3 e4 => ?_
        obtain ⟨rfl, rfl⟩ := m1.round (by simp)
        have hL1 : ρ1 l = some L := (e1.le hs) _ _ hL
        cases hr1 : roLp (σ1.mem.get l) with
        | none => rw [hr1] at h; cases h
        | some rec1 =>
          rw [hr1] at h
          simp only [rnBody] at h
          split at h
          · rename_i hst
            obtain ⟨B1, c1, hB1, ho1, hc1, hrc1⟩ := e4.loop hL1 hr1
            have hturn := e4.turn hL1 hB1 ho1 hc1 hrc1 .busy rec1.pending
            refine ⟨_, run_beginRound hc1 (by rw [hrc1.state]; exact hst), ?_⟩
            have hturn : SR gl ⟨w0, opn1⟩ ρ1 (setOb σ1 l (some (.lp { rec1 with state := .busy }))) (w1.putObj L.b (.loop { c1 with state := .busy })) := by
              have e : ({ c1 with state := LoopState.busy, pending := rec1.pending } : Loop) = { c1 with state := .busy } := by rw [← hrc1.pending]
              rw [e] at hturn
              exact hturn
            have hend : ∀ (jump : Option Code) (σ3 : St) (opn3 : Nat → Prop) (Ds3 : List Nat) (ρ3 : Ren) (w3 : World), rnEnd l jump σ3 (roLp (σ3.mem.get l)) = some (v, σ') → Marks (some L.b) opn1 opn3 Ds3 → Ext ρ1 (setOb σ1 l (some (.lp { rec1 with state := .busy }))) ρ3 σ3 → SR gl ⟨w0, opn3⟩ ρ3 σ3 w3 →
                ∃ v' w', (Instr.endRound L.b jump).run P w3 = .ok v' w' ∧ ∃ ρ' cv, Ending.returned v' = .returned cv ∧ Ext ρ σ ρ' σ' ∧ VR ρ' v cv ∧ SR gl ⟨w0, opn1⟩ ρ' σ' w' := by
              intro jump σ3 opn3 Ds3 ρ3 w3 hq mk x1 x2
              obtain ⟨rfl, _⟩ := mk.round (by simp)
              have hle3 := x1.le hturn
              have hL3 : ρ3 l = some L := hle3 _ _ hL1
              cases hr3 : roLp (σ3.mem.get l) with
              | none => rw [hr3] at hq; cases hq
              | some rec3 =>
                rw [hr3] at hq
                simp only [rnEnd, Option.some.injEq, Prod.mk.injEq] at hq
                obtain ⟨rfl, rfl⟩ := hq
                obtain ⟨B3, c3, hB3, ho3, hc3, hrc3⟩ := x2.loop hL3 hr3
                refine ⟨_, _, run_endRound jump hc3, ρ3, _, rfl, ?_, .refl rfl, ?_⟩
                · exact ((e1.trans (Ext.put hL1 _)).trans x1).trans (Ext.put hL3 _)
                · have := x2.turn hL3 hB3 ho3 hc3 hrc3 (bif jump.isNone then .ready else .done) jump
                  cases jump <;> exact this
            cases hb : evCode P gl call rounds (some l, rec.n) rec.body tm1 (setOb σ1 l (some (.lp { rec1 with state := .busy }))) with
            | none => rw [hb] at h; cases h
            | some q =>
              obtain ⟨o2, tm2, σ2⟩ := q
              rw [hb] at h
              refine code_ok hm hng hcall (r := some L.b) (fi := (some l, rec.n)) rec.body hok2 _ _ _ _ _ hb opn1 ρ1 _ _ ⟨L, hL1, rfl⟩ hturn e3 _ fun opn3 Ds3 ρ3 a3 w3 m3 f1 f2 f3 f4 => ?_
              cases o2 with
              | normal => exact hend none σ2 opn3 Ds3 ρ3 w3 h m3 f1 f4
              | ret => exact hend (some .ret) σ2 opn3 Ds3 ρ3 w3 h m3 f1 f4
              | exit id => exact hend (some (.exit id)) σ2 opn3 Ds3 ρ3 w3 h m3 f1 f4
          · cases h
omit [Syms] in
theorem tmOf_get : ∀ (vs : List Value) (i : Nat) (tm : Tr Value) (t : Nat) (v : Value), (tmOf vs i tm).get t = some v → (∃ j, t = i + j ∧ vs[j]? = some v) ∨ ((t < i ∨ i + vs.length ≤ t) ∧ tm.get t = some v)
  | [], i, tm, t, v, h => by
    refine Or.inr ⟨?_, h⟩
    simp
    omega
  | u :: vs, i, tm, t, v, h => by
    rcases tmOf_get vs (i + 1) _ t v h with ⟨j, rfl, hj⟩ | ⟨hc, hg⟩
    · exact Or.inl ⟨j + 1, by omega, by simpa using hj⟩
    · rw [Tr.get_put] at hg
      by_cases e : t = i
      · subst e
        rw [if_pos rfl] at hg
        obtain rfl := Option.some.inj hg
        exact Or.inl ⟨0, rfl, rfl⟩
      · rw [if_neg e] at hg
        refine Or.inr ⟨?_, hg⟩
        simp only [List.length_cons]
        omega
def resOne (tmps : Array Value) : ResultVar → Sem Value
  | .tmp t => pure (tmps.getD t undef)
  | .cell a t => do loadVar t (← asAddr (tmps.getD a undef))
theorem results_sim {w0 : Bs} {n : Nat} {ρ : Ren} {σ : St} {w : World} {tm : Tr Value} {tmps : Array Value} (hs : SR gl w0 ρ σ w) (ht : TMR n ρ tm tmps) : ∀ {rs : List ResultVar} {vs : List Value}, evResults P tm σ rs = some vs →
    ∃ cs, (rs.mapM (resOne tmps)).run P w = .ok cs w ∧ VRs ρ vs cs
  | [], vs, h => by
    obtain rfl := Option.some.inj h
    exact ⟨[], by simp, .nil⟩
  | .tmp t :: rs, vs, h => by
    simp only [evResults] at h
    cases h2 : evResults P tm σ rs with
    | none => rw [h2] at h; cases h
    | some vs' =>
      rw [h2] at h
      simp only [reCons] at h
      split at h
      · rename_i v hv
        obtain rfl := Option.some.inj h
        obtain ⟨cs, k1, k2⟩ := results_sim hs ht h2
        obtain ⟨c, h3, h4⟩ := ht.2 t _ hv
        refine ⟨c :: cs, ?_, .cons h4 k2⟩
        rw [List.mapM_cons]
        simp only [resOne, Sem.run_bind, Sem.run_pure, Result.andThen_ok, k1]
        simp [h3]
      · cases h
  | .cell b t :: rs, vs, h => by
    simp only [evResults] at h
    cases h2 : evResults P tm σ rs with
    | none => rw [h2] at h; cases h
    | some vs' =>
      rw [h2] at h
      simp only [reCons] at h
      split at h
      · rename_i v hv
        obtain rfl := Option.some.inj h
        obtain ⟨cs, k1, k2⟩ := results_sim hs ht h2
        unfold reCell at hv
        split at hv
        · rename_i l o hb
          obtain ⟨c, h3, h4⟩ := ht.2 b _ hb
          obtain ⟨L, hL, rfl⟩ := h4.ptr_inv
          obtain ⟨c', h5, h6⟩ := load_run (P := P) hs.mr rfl hv hL
          refine ⟨c' :: cs, ?_, .cons h6 k2⟩
          rw [List.mapM_cons]
          have hg : tmps.getD b undef = .pointer (some ⟨L.b, L.d + o, none⟩) := by simp [h3]
          simp only [resOne, Sem.run_bind, Sem.run_pure, Result.andThen_ok, hg, asAddr, h5, k1]
        · cases hv
      · cases h
omit [Syms] in
theorem results_run {fn : Func} {tmps : Array Value} {w : World} {cs : List Value} (h : (fn.results.toList.mapM (resOne tmps)).run P w = .ok cs w) :
    (results fn tmps).run P w = .ok (if h : cs.length = 1 then cs[0] else .tuple cs.toArray) w := by
  have e : results fn tmps = (do let vs ← fn.results.mapM (resOne tmps); pure (if h : vs.size = 1 then vs[0] else .tuple vs)) := by
    unfold results
    congr
  rw [e, Array.mapM_eq_mapM_toList]
  simp only [Sem.run_bind, Sem.run_map, h, Result.andThen_ok, Sem.run_pure]
  simp
/-- On the way out the marks are taken. -/
theorem leaves_ok {fn : Func} {tmps : Array Value} {ρ : Ren} {σ : St} {R : Ending → World → Prop} (hR : ∀ opn w, SR gl ⟨w0, opn⟩ ρ σ w → ∃ v, (results fn tmps).run P w = .ok v w) : ∀ (Ds : List Nat) {opn opn' : Nat → Prop} {w : World}, Ds.Nodup → (∀ D, D ∈ Ds → opn' D ∧ ¬ opn D) → (∀ x, opn x → opn' x) → SR gl ⟨w0, opn'⟩ ρ σ w →
    (∀ w', SR gl ⟨w0, opn⟩ ρ σ w' → ∀ v, (results fn tmps).run P w' = .ok v w' → R (.returned v) w') → LeavesInM Fence.wide 0 P fn tmps R (Ds.map mark) .returning w
  | [], opn, opn', w, _, _, ho, hs, hK => by
    have hs' : SR gl ⟨w0, opn⟩ ρ σ w := ⟨hs.mr, hs.dom, hs.own, hs.glob, hs.old, fun D hD => hs.opn D (ho D hD)⟩
    obtain ⟨v, hv⟩ := hR _ _ hs'
    exact ⟨v, hv, hK w hs' v hv⟩
  | D :: Ds, opn, opn', w, hn, hD, ho, hs, hK => by
    obtain ⟨hn1, hn2⟩ := List.nodup_cons.1 hn
    obtain ⟨h1, h2⟩ := hD D (by simp)
    refine ⟨by simp, .inl ⟨D, _, rfl, run_takeDeferred (hs.opn D h1).2, ?_⟩⟩
    refine leaves_ok hR Ds (opn := opn) (opn' := fun x => opn' x ∧ x ≠ D) hn2 (fun E hE => ?_) (fun x hx => ⟨ho x hx, fun e => h2 (by rw [← e]; exact hx)⟩) (hs.shut h1 fun x hx => hx) hK
    obtain ⟨k1, k2⟩ := hD E (List.mem_cons_of_mem _ hE)
    exact ⟨⟨k1, fun e => hn1 (by rw [← e]; exact hE)⟩, k2⟩
theorem body_ok (hm : P.follows .mixedOrders = true) (hng : NoCount P) (hcall : RunOK P gl w0 call) {rounds : Nat} {f : FuncId} {args : List Value} {σ σ' : St} {v : Value} (h : caBody P gl call rounds args σ P.funcs[f]? = some (v, σ')) {opn : Nat → Prop} {ρ : Ren} {w : World} {cargs : Array Value} (hs : SR gl ⟨w0, opn⟩ ρ σ w) (ha : VRs ρ args cargs.toList) :
    Calls P f cargs w fun e w' => ∃ ρ' cv, e = .returned cv ∧ Ext ρ σ ρ' σ' ∧ VR ρ' v cv ∧ SR gl ⟨w0, opn⟩ ρ' σ' w' := by
  cases hf : P.funcs[f]? with
  | none => rw [hf] at h; cases h
  | some fn =>
    rw [hf] at h
    simp only [caBody] at h
    cases hb : fn.body with
    | none => rw [hb] at h; cases h
    | some c =>
      rw [hb] at h
      simp only [caFn] at h
      obtain ⟨hd, h⟩ := bif_some h
      rw [Bool.and_eq_true] at hd
      obtain ⟨hd, hal⟩ := hd
      have hal := Nat.le_of_ble_eq_true hal
      cases hc : evCode P gl call rounds (none, fn.ntmps) c (tmOf args 0 .nil) σ with
      | none => rw [hc] at h; cases h
      | some q =>
        obtain ⟨out, tm, σ1⟩ := q
        rw [hc] at h
        have hlen := ha.length
        have hnt : cargs.size ≤ fn.ntmps := by
          rw [← Array.length_toList, ← hlen]; exact hal
        have ht0 : TMR fn.ntmps ρ (tmOf args 0 .nil) (cargs ++ Array.replicate (fn.ntmps - cargs.size) undef) := by
          refine ⟨by simp; omega, fun t v hv => ?_⟩
          rcases tmOf_get args 0 _ t v hv with ⟨j, rfl, hj⟩ | ⟨_, hg⟩
          · obtain ⟨y, hy, hr⟩ := ha.at j v hj
            refine ⟨y, ?_, hr⟩
            have hlt := (List.getElem?_eq_some_iff.1 hy).1
            rw [Nat.zero_add, Array.getElem?_append_left (by simpa using hlt)]
            simpa using hy
          · cases hg
        have fin : caRes σ1 (evResults P tm σ1 fn.results.toList) = some (v, σ') → ∀ (opn' : Nat → Prop) (Ds : List Nat) (ρ' : Ren) (a' : Act) (w' : World), Marks none opn opn' Ds → Ext ρ σ ρ' σ1 → a'.defers = Ds.map mark ++ [] → TMR fn.ntmps ρ' tm a'.tmps → SR gl ⟨w0, opn'⟩ ρ' σ1 w' →
            LeavesInM Fence.wide 0 P fn a'.tmps (fun e w' => ∃ ρ' cv, e = .returned cv ∧ Ext ρ σ ρ' σ' ∧ VR ρ' v cv ∧ SR gl ⟨w0, opn⟩ ρ' σ' w') a'.defers .returning w' := by
          intro h opn' Ds ρ' a' w' mk e1 e2 e3 e4
          have hres : ∃ rsv, evResults P tm σ1 fn.results.toList = some rsv := by
            cases hr : evResults P tm σ1 fn.results.toList with
            | none => rw [hr] at h; cases h
            | some rsv => exact ⟨rsv, rfl⟩
          obtain ⟨rsv, hrsv⟩ := hres
          have hrun : ∀ {B : Bs} {w : World}, SR gl B ρ' σ1 w → ∃ cs, (results fn a'.tmps).run P w = .ok (if h : cs.length = 1 then cs[0] else .tuple cs.toArray) w ∧ VRs ρ' rsv cs := fun hw => by
            obtain ⟨cs, k1, k2⟩ := results_sim (P := P) hw e3 hrsv
            exact ⟨cs, results_run k1, k2⟩
          rw [e2, List.append_nil]
          refine leaves_ok (fun _ _ hw => by obtain ⟨cs, k, _⟩ := hrun hw; exact ⟨_, k⟩) Ds (opn := opn) mk.nodup mk.new mk.old e4 ?_
          intro w2 hw2 v2 hv2
          obtain ⟨cs, k3, k2⟩ := hrun hw2
          rw [hv2] at k3
          simp only [Result.ok.injEq, and_true] at k3
          subst k3
          rw [hrsv] at h
          unfold caRes at h
          split at h
          · rename_i y x hx
            obtain rfl := Option.some.inj hx
            simp only [Option.some.injEq, Prod.mk.injEq] at h
            obtain ⟨rfl, rfl⟩ := h
            cases k2 with
            | cons k4 k5 =>
              cases k5
              exact ⟨ρ', _, rfl, e1, k4, hw2⟩
          · rename_i y vs hns hx
            obtain rfl := Option.some.inj hx
            simp only [Option.some.injEq, Prod.mk.injEq] at h
            obtain ⟨rfl, rfl⟩ := h
            have hl1 : ¬ cs.length = 1 := fun h1 => by
              rw [← k2.length] at h1
              obtain ⟨x, rfl⟩ := List.length_eq_one_iff.1 h1
              exact hns x rfl
            rw [dif_neg hl1]
            exact ⟨ρ', _, rfl, e1, .tuple k2, hw2⟩
          · cases h
        refine (callsIn_wide (n := 0)).1 (callsIn_of_wp_marks hf hb trivial ?_)
        cases out with
        | normal =>
          exact code_ok hm hng hcall (r := none) (fi := (none, fn.ntmps)) c hd _ _ _ _ _ hc opn ρ _ w trivial hs ht0 _ fun opn' Ds ρ' a' w' e0 e1 e2 e3 e4 => fin h opn' Ds ρ' a' w' e0 e1 e2 e3 e4
        | ret =>
          exact code_ok hm hng hcall (r := none) (fi := (none, fn.ntmps)) c hd _ _ _ _ _ hc opn ρ _ w trivial hs ht0 _ fun opn' Ds ρ' a' w' e0 e1 e2 e3 e4 => fin h opn' Ds ρ' a' w' e0 e1 e2 e3 e4
        | exit id => cases h
theorem run_ok (hm : P.follows .mixedOrders = true) (hng : NoCount P) {orc : Oracle} (horc : CallOK P gl w0 orc) {rounds : Nat} : ∀ n, RunOK P gl w0 (evRun P gl orc rounds n) := by
  intro n
  induction n with
  | zero => exact ⟨(fun f args σ v σ' h => by cases h), (fun l args σ v σ' h => by cases h)⟩
  | succ n ih =>
    refine ⟨fun f args σ v σ' h opn ρ w cargs hs ha => ?_, rnd_ok hm hng ih⟩
    have h : caOrc P gl (evRun P gl orc rounds n) rounds f args σ (orc f args σ) = some (v, σ') := h
    cases ho : orc f args σ with
    | some x =>
      rw [ho] at h
      obtain rfl := Option.some.inj h
      exact horc f args σ v σ' ho opn ρ w cargs hs ha
    | none =>
      rw [ho] at h
      exact body_ok hm hng ih h hs ha
theorem call_ok (hm : P.follows .mixedOrders = true) (hng : NoCount P) {orc : Oracle} (horc : CallOK P gl w0 orc) {rounds : Nat} (n : Nat) : CallOK P gl w0 (evCall P gl orc rounds n) := (run_ok hm hng horc n).call
end
end Go.Proofs.YtcjolamfjgdgjaaGreatDoor.Ev
