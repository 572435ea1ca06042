/-
  Regions that draw their order: whatever the order, what the run answers.
-/
import Derived.Test.YtcjolamfjgdgjaaGreatDoorEvBits
namespace Go.Proofs.YtcjolamfjgdgjaaGreatDoor.Ev
open Go.RowKit
variable [Syms]

omit [Syms] in
theorem writer_some : ∀ (l : List Oper) (i : Nat) (t : Tmp) (y : Nat), writerOf l i t = some y → ∃ j o, y = i + j ∧ l[j]? = some o ∧ o.dst = some t
  | [], _, _, _, h => by cases h
  | o :: l, i, t, y, h => by
    have rec_ : writerOf l (i + 1) t = some y → ∃ j o', y = i + j ∧ (o :: l)[j]? = some o' ∧ o'.dst = some t := fun h => by
      obtain ⟨j, o', h1, h2, h3⟩ := writer_some l (i + 1) t y h
      exact ⟨j + 1, o', by omega, by simpa using h2, h3⟩
    simp only [writerOf] at h
    split at h
    · rename_i d hd
      cases hb : Nat.beq d t with
      | true =>
        rw [hb] at h
        obtain rfl := Option.some.inj h
        exact ⟨0, o, rfl, rfl, by rw [hd, Nat.eq_of_beq_eq_true hb]⟩
      | false => rw [hb] at h; exact rec_ h
    · exact rec_ h
omit [Syms] in
theorem writer_none : ∀ (l : List Oper) (i : Nat) (t : Tmp), writerOf l i t = none → ∀ (j : Nat) (o : Oper), l[j]? = some o → o.dst ≠ some t
  | [], _, _, _, j, o, h => by simp at h
  | x :: l, i, t, h, j, o, hj => by
    have hrest : writerOf l (i + 1) t = none ∧ x.dst ≠ some t := by
      simp only [writerOf] at h
      split at h
      · rename_i d hd
        cases hb : Nat.beq d t with
        | true => rw [hb] at h; cases h
        | false =>
          rw [hb] at h
          refine ⟨h, fun e => ?_⟩
          rw [hd] at e
          obtain rfl := Option.some.inj e
          simp at hb
      · rename_i hd
        exact ⟨h, by rw [hd]; exact fun e => by cases e⟩
    cases j with
    | zero =>
      obtain rfl : x = o := by simpa using hj
      exact hrest.2
    | succ j => exact writer_none l (i + 1) t hrest.1 j o (by simpa using hj)
def Ls (listed : Array Bool) (i : Nat) : Prop := listed.getD i false = true
omit [Syms] in
theorem Ls.set {listed : Array Bool} {i k : Nat} (hi : i < listed.size) : Ls (listed.setIfInBounds i true) k ↔ k = i ∨ Ls listed k := by
  unfold Ls
  rw [Array.getD_eq_getD_getElem?, Array.getD_eq_getD_getElem?]
  by_cases e : k = i
  · subst e
    rw [Array.getElem?_setIfInBounds_self_of_lt hi]
    simp
  · rw [Array.getElem?_setIfInBounds_ne (Ne.symm e)]
    simp [e]
section
variable {P : Program} {gl : Nat} {w0 : Bs} {call : Run} {ops : Array Oper} {tm0 : Tr Value} {n : Nat} {a0 : Act} {ρ0 : Ren} {σ0 : St} {Vf : Tr Value} {σf : St}

/-- What is done already in the run, and not yet in the world. -/
def Pend (P : Program) (gl : Nat) (tm0 : Tr Value) (ops : Array Oper) (V : Tr Value) (σ : St) (ρ : Ren) (nf : Nat → Nat) (it : PItem) : Prop :=
  it.eff = false ∧ ∃ b, wantedR ops it.mask V it.o = some b ∧ (b = false → V.get it.i = some undef) ∧
    (b = true → ∃ v ob, V.get it.i = some v ∧ evNE P (regEnv gl tm0 ops (masks ops.toList []) it.i it.mask V) ⟨σ.mem, nf it.i⟩ it.o = some (v, ob) ∧ ∀ B, ob = some B → ρ (nf it.i) = none ∧ nf it.i < σ.next ∧ σ.mem.get (nf it.i) = some B)
structure Inv (P : Program) (gl : Nat) (w0 : Bs) (call : Run) (ops : Array Oper) (tm0 : Tr Value) (n : Nat) (a0 : Act) (ρ0 : Ren) (σ0 : St) (Vf : Tr Value) (σf : St)
    (pre post : List PItem) (V : Tr Value) (σ : St) (ld : List (PItem × Value)) (listed : Array Bool) (a : Act) (w : World) (ρ : Ren) (nf : Nat → Nat) : Prop where
  run : evPlan P gl call tm0 ops (masks ops.toList []) post V σ ld = some (Vf, σf)
  chk : ∃ s le, chkPlan ops.size post s le = true ∧ (∀ k, bitOf s k = true ↔ ∃ it ∈ pre, it.i = k)
  item : ∀ it, it ∈ pre ∨ it ∈ post → Item ops it
  mpre : ∀ x ∈ pre, ∀ k, bitOf x.mask k = true → ∃ y ∈ pre, y.i = k
  size : listed.size = ops.size
  closed : Closed ops (Ls listed)
  effs : ∀ it ∈ pre, it.eff = true → Ls listed it.i
  un : ∀ it ∈ post, ¬ Ls listed it.i
  sr : SR gl w0 ρ σ w
  ext : Ext ρ0 σ0 ρ σ
  defers : a.defers = a0.defers
  tsz : a.tmps.size = n
  old : ∀ t v, tm0.get t = some v → (∀ y, writerOf ops.toList 0 t = some y → ¬ Ls listed y) → ∃ c, a.tmps[t]? = some c ∧ VR ρ v c
  done : ∀ it ∈ pre, Ls listed it.i → ∃ v, V.get it.i = some v ∧ ∀ d, it.o.dst = some d → ∃ c, a.tmps[d]? = some c ∧ VR ρ v c
  pend : ∀ it ∈ pre, ¬ Ls listed it.i → Pend P gl tm0 ops V σ ρ nf it
  ldok : ∀ it ∈ pre, ¬ Ls listed it.i → readsMem it.o = true → wantedR ops it.mask V it.o = some true → ∃ v, (it, v) ∈ ld ∧ V.get it.i = some v
  nfinj : ∀ x ∈ pre, ∀ y ∈ pre, isNew x.o = true → isNew y.o = true → wantedR ops x.mask V x.o = some true → wantedR ops y.mask V y.o = some true → x.i ≠ y.i → nf x.i ≠ nf y.i
  nfb : ∀ x ∈ pre, isNew x.o = true → wantedR ops x.mask V x.o = some true → x.eff = false → nf x.i < σ.next ∧ σ0.next ≤ nf x.i

omit [Syms] in
theorem isNew_reads {o : Oper} (h : isNew o = true) : readsMem o = false := by
  unfold isNew at h
  unfold readsMem
  cases ho : o.op <;> simp only [ho] at h ⊢ <;> first | rfl | cases h
omit [Syms] in
/-- What an operation sees does not hang on what comes behind it. -/
theorem regEnv_put {mask x k : Nat} {V : Tr Value} {v : Option Value} (h : bitOf mask k = false) : regEnv gl tm0 ops (masks ops.toList []) x mask (V.put k v) = regEnv gl tm0 ops (masks ops.toList []) x mask V := by
  funext y
  cases y with
  | tmp t =>
    simp only [regEnv]
    split
    · rename_i z hz
      cases hb : bitOf mask z with
      | true =>
        have : z ≠ k := fun e => by rw [e, h] at hb; cases hb
        simp only [cond_true, Tr.get_put_other _ _ this]
      | false => rfl
    · rfl
  | _ => rfl
omit [Syms] in
theorem wantedR_put {mask k : Nat} {V : Tr Value} {v : Option Value} {o : Oper} (h : bitOf mask k = false) : wantedR ops mask (V.put k v) o = wantedR ops mask V o := by
  unfold wantedR
  cases hg : o.guard with
  | none => rfl
  | some g =>
    obtain ⟨j, want⟩ := g
    simp only
    cases hj : ops[j]? with
    | none => rfl
    | some g =>
      simp only
      cases hd : g.dst with
      | none => rfl
      | some d =>
        simp only
        cases hb : bitOf mask j with
        | true =>
          have : j ≠ k := fun e => by rw [e, h] at hb; cases hb
          simp only [cond_true, Tr.get_put_other _ _ this]
        | false => rfl
theorem recheck_mem {V : Tr Value} {σ : St} : ∀ {ld : List (PItem × Value)}, recheck P gl tm0 ops (masks ops.toList []) V σ ld = true → ∀ it v, (it, v) ∈ ld → evNE P (regEnv gl tm0 ops (masks ops.toList []) it.i it.mask V) σ it.o = some (v, none)
  | [], _, it, v, h => by simp at h
  | (x, u) :: ld, h, it, v, hm => by
    simp only [recheck, Bool.and_eq_true] at h
    rcases List.mem_cons.1 hm with e | hm
    · cases e
      have h1 := h.1
      unfold reSame at h1
      split at h1
      · rename_i v' hv'
        rw [hv', sameV_eq h1]
      · cases h1
    · exact recheck_mem h.2 it v hm
section
variable {pre post : List PItem} {V : Tr Value} {σ : St} {ld : List (PItem × Value)} {listed : Array Bool} {a : Act} {w : World} {ρ : Ren} {nf : Nat → Nat}

theorem Inv.fresh {it : PItem} (h : Inv P gl w0 call ops tm0 n a0 ρ0 σ0 Vf σf pre (it :: post) V σ ld listed a w ρ nf) : (∀ x ∈ pre, x.i ≠ it.i) ∧ (∀ x ∈ pre, bitOf x.mask it.i = false) ∧ (∀ k, bitOf it.mask k = true → ∃ y ∈ pre, y.i = k) ∧ bitOf it.mask it.i = false := by
  obtain ⟨s, le, hc, hs⟩ := h.chk
  obtain ⟨h1, _, h3, _, _⟩ := chk_cons hc
  have hno : ¬ ∃ y ∈ pre, y.i = it.i := fun hy => by
    have := (hs it.i).2 hy
    rw [h1] at this; cases this
  refine ⟨fun x hx e => hno ⟨x, hx, e⟩, fun x hx => ?_, fun k hk => (hs k).1 (h3 k hk), ?_⟩
  · cases hb : bitOf x.mask it.i with
    | false => rfl
    | true => exact absurd (h.mpre x hx _ hb) hno
  · cases hb : bitOf it.mask it.i with
    | false => rfl
    | true => have := h3 _ hb; rw [h1] at this; cases this
/-- The plan's bookkeeping, one item further. -/
theorem Inv.chk' {it : PItem} (h : Inv P gl w0 call ops tm0 n a0 ρ0 σ0 Vf σf pre (it :: post) V σ ld listed a w ρ nf) : ∃ s le, chkPlan ops.size post s le = true ∧ (∀ k, bitOf s k = true ↔ ∃ x ∈ pre ++ [it], x.i = k) := by
  obtain ⟨s, le, hc, hs⟩ := h.chk
  obtain ⟨_, _, _, _, h5⟩ := chk_cons hc
  refine ⟨_, _, h5, fun k => ?_⟩
  rw [bitOf_lor, Bool.or_eq_true, bitOf_one, decide_eq_true_eq, hs k]
  simp only [List.mem_append, List.mem_singleton]
  constructor
  · rintro (⟨x, hx, e⟩ | e)
    · exact ⟨x, Or.inl hx, e⟩
    · exact ⟨it, Or.inr rfl, e⟩
  · rintro ⟨x, hx | rfl, e⟩
    · exact Or.inl ⟨x, hx, e⟩
    · exact Or.inr e
theorem Inv.mpre' {it : PItem} (h : Inv P gl w0 call ops tm0 n a0 ρ0 σ0 Vf σf pre (it :: post) V σ ld listed a w ρ nf) : ∀ x ∈ pre ++ [it], ∀ k, bitOf x.mask k = true → ∃ y ∈ pre ++ [it], y.i = k := by
  intro x hx k hk
  rw [List.mem_append, List.mem_singleton] at hx
  have : ∃ y ∈ pre, y.i = k := by
    rcases hx with hx | rfl
    · exact h.mpre x hx k hk
    · exact h.fresh.2.2.1 k hk
  obtain ⟨y, hy, e⟩ := this
  exact ⟨y, List.mem_append_left _ hy, e⟩
/-- The run goes on by an operation that turns nothing; the world waits. -/
theorem Inv.advance {it : PItem} (h : Inv P gl w0 call ops tm0 n a0 ρ0 σ0 Vf σf pre (it :: post) V σ ld listed a w ρ nf) (he : it.eff = false) :
    ∃ V' σ' ld' nf', Inv P gl w0 call ops tm0 n a0 ρ0 σ0 Vf σf (pre ++ [it]) post V' σ' ld' listed a w ρ nf' := by
  obtain ⟨hf1, hf2, hf3, hf4⟩ := h.fresh
  have hrun := h.run
  simp only [evPlan] at hrun
  have hun := h.un it (by simp)
  -- what stays for those before
  have stay : ∀ (v : Value), (∀ x ∈ pre, (V.put it.i (some v)).get x.i = V.get x.i) ∧ (∀ x ∈ pre, wantedR ops x.mask (V.put it.i (some v)) x.o = wantedR ops x.mask V x.o) ∧ (∀ x ∈ pre, regEnv gl tm0 ops (masks ops.toList []) x.i x.mask (V.put it.i (some v)) = regEnv gl tm0 ops (masks ops.toList []) x.i x.mask V) := fun v =>
    ⟨fun x hx => Tr.get_put_other _ _ (hf1 x hx), fun x hx => wantedR_put (hf2 x hx), fun x hx => regEnv_put (hf2 x hx)⟩
  have item' : ∀ x, x ∈ pre ++ [it] ∨ x ∈ post → Item ops x := fun x hx => h.item x (by
    rcases hx with hx | hx
    · rw [List.mem_append, List.mem_singleton] at hx
      rcases hx with hx | rfl
      · exact Or.inl hx
      · exact Or.inr (by simp)
    · exact Or.inr (List.mem_cons_of_mem _ hx))
  have effs' : ∀ x ∈ pre ++ [it], x.eff = true → Ls listed x.i := fun x hx hxe => by
    rw [List.mem_append, List.mem_singleton] at hx
    rcases hx with hx | rfl
    · exact h.effs x hx hxe
    · rw [he] at hxe; cases hxe
  -- the general end
  have fin : ∀ (v : Value) (σ' : St) (ld' : List (PItem × Value)) (nf' : Nat → Nat), evPlan P gl call tm0 ops (masks ops.toList []) post (V.put it.i (some v)) σ' ld' = some (Vf, σf) → SR gl w0 ρ σ' w → Ext ρ0 σ0 ρ σ' → σ.next ≤ σ'.next → (∀ l, l < σ.next → σ'.mem.get l = σ.mem.get l) →
      (∀ x ∈ pre, nf' x.i = nf x.i) → (∀ p, p ∈ ld → p ∈ ld') →
      (∀ x ∈ pre, ¬ Ls listed x.i → readsMem x.o = true → wantedR ops x.mask V x.o = some true → ∀ u, V.get x.i = some u → ∀ nx, evNE P (regEnv gl tm0 ops (masks ops.toList []) x.i x.mask V) ⟨σ'.mem, nx⟩ x.o = some (u, none)) →
      (∃ b, wantedR ops it.mask V it.o = some b ∧ (b = false → v = undef) ∧ (b = true → (∃ ob, evNE P (regEnv gl tm0 ops (masks ops.toList []) it.i it.mask V) ⟨σ'.mem, nf' it.i⟩ it.o = some (v, ob) ∧ ∀ B, ob = some B → ρ (nf' it.i) = none ∧ nf' it.i < σ'.next ∧ σ'.mem.get (nf' it.i) = some B) ∧ (readsMem it.o = true → (it, v) ∈ ld') ∧ (isNew it.o = true → (nf' it.i < σ'.next ∧ σ0.next ≤ nf' it.i) ∧ ∀ x ∈ pre, isNew x.o = true → wantedR ops x.mask V x.o = some true → nf x.i ≠ nf' it.i))) →
      Inv P gl w0 call ops tm0 n a0 ρ0 σ0 Vf σf (pre ++ [it]) post (V.put it.i (some v)) σ' ld' listed a w ρ nf' := by
    intro v σ' ld' nf' hr hsr hext hnx hmem hnf hld hre hit
    obtain ⟨st1, st2, st3⟩ := stay v
    obtain ⟨b, hb, hb0, hb1⟩ := hit
    have wit : wantedR ops it.mask (V.put it.i (some v)) it.o = some b := by rw [wantedR_put hf4]; exact hb
    refine ⟨hr, h.chk', item', h.mpre', h.size, h.closed, effs', fun x hx => h.un x (List.mem_cons_of_mem _ hx), hsr, hext, h.defers, h.tsz, h.old, ?_, ?_, ?_, ?_, ?_⟩
    · intro x hx hl
      rw [List.mem_append, List.mem_singleton] at hx
      rcases hx with hx | rfl
      · obtain ⟨u, hu, hd⟩ := h.done x hx hl
        exact ⟨u, by rw [st1 x hx]; exact hu, hd⟩
      · exact absurd hl hun
    · intro x hx hl
      rw [List.mem_append, List.mem_singleton] at hx
      rcases hx with hx | rfl
      · obtain ⟨p1, b', p2, p3, p4⟩ := h.pend x hx hl
        refine ⟨p1, b', by rw [st2 x hx]; exact p2, fun hb' => by rw [st1 x hx]; exact p3 hb', fun hb' => ?_⟩
        obtain ⟨u, ob, q1, q2, q3⟩ := p4 hb'
        rw [st1 x hx, st3 x hx, hnf x hx]
        cases hrm : readsMem x.o with
        | true =>
          subst hb'
          exact ⟨u, none, q1, hre x hx hl hrm p2 u q1 _, fun B hB => by cases hB⟩
        | false =>
          refine ⟨u, ob, q1, ?_, fun B hB => ?_⟩
          · rw [ne_mem (m2 := σ.mem) hrm]; exact q2
          · obtain ⟨r1, r2, r3⟩ := q3 B hB
            exact ⟨r1, Nat.lt_of_lt_of_le r2 hnx, by rw [hmem _ r2]; exact r3⟩
      · refine ⟨he, b, wit, fun hb' => by rw [Tr.get_put_same, hb0 hb'], fun hb' => ?_⟩
        obtain ⟨⟨ob, q2, q3⟩, _, _⟩ := hb1 hb'
        rw [regEnv_put hf4]
        exact ⟨v, ob, Tr.get_put_same _ _ _, q2, q3⟩
    · intro x hx hl hrm hw
      rw [List.mem_append, List.mem_singleton] at hx
      rcases hx with hx | rfl
      · rw [st2 x hx] at hw
        obtain ⟨u, h1, h2⟩ := h.ldok x hx hl hrm hw
        exact ⟨u, hld _ h1, by rw [st1 x hx]; exact h2⟩
      · rw [wit] at hw
        obtain ⟨_, h2, _⟩ := hb1 (Option.some.inj hw)
        exact ⟨v, h2 hrm, Tr.get_put_same _ _ _⟩
    · intro x hx y hy hxn hyn hxw hyw hne
      rw [List.mem_append, List.mem_singleton] at hx hy
      rcases hx with hx | rfl
      · rw [st2 x hx] at hxw
        rcases hy with hy | rfl
        · rw [st2 y hy] at hyw
          rw [hnf x hx, hnf y hy]
          exact h.nfinj x hx y hy hxn hyn hxw hyw hne
        · rw [wit] at hyw
          obtain ⟨_, _, h3⟩ := hb1 (Option.some.inj hyw)
          rw [hnf x hx]
          exact (h3 hyn).2 x hx hxn hxw
      · rw [wit] at hxw
        obtain ⟨_, _, h3⟩ := hb1 (Option.some.inj hxw)
        rcases hy with hy | rfl
        · rw [st2 y hy] at hyw
          rw [hnf y hy]
          exact Ne.symm ((h3 hxn).2 y hy hyn hyw)
        · exact absurd rfl hne
    · intro x hx hxn hxw hxe
      rw [List.mem_append, List.mem_singleton] at hx
      rcases hx with hx | rfl
      · rw [st2 x hx] at hxw
        rw [hnf x hx]
        exact ⟨Nat.lt_of_lt_of_le (h.nfb x hx hxn hxw hxe).1 hnx, (h.nfb x hx hxn hxw hxe).2⟩
      · rw [wit] at hxw
        obtain ⟨_, _, h3⟩ := hb1 (Option.some.inj hxw)
        exact (h3 hxn).1
  -- what reads memory, at the same memory
  have reSame' : ∀ x ∈ pre, ¬ Ls listed x.i → readsMem x.o = true → wantedR ops x.mask V x.o = some true → ∀ u, V.get x.i = some u → ∀ nx, evNE P (regEnv gl tm0 ops (masks ops.toList []) x.i x.mask V) ⟨σ.mem, nx⟩ x.o = some (u, none) := fun x hx hl hrm hw u hu nx => by
    obtain ⟨p1, b', p2, p3, p4⟩ := h.pend x hx hl
    obtain rfl : b' = true := Option.some.inj (p2.symm.trans hw)
    obtain ⟨u', ob, q1, q2, q3⟩ := p4 rfl
    obtain rfl := Option.some.inj (q1.symm.trans hu)
    rw [ne_next (n2 := nf x.i) hrm, q2]
    cases ob with
    | none => rfl
    | some B =>
      have := isNew_reads (ne_new q2)
      rw [this] at hrm; cases hrm
  cases hw : wantedR ops it.mask V it.o with
  | none => rw [hw] at hrun; cases hrun
  | some b =>
    rw [hw] at hrun
    cases b with
    | false =>
      simp only [plStep] at hrun
      exact ⟨_, σ, ld, nf, fin undef σ ld nf hrun h.sr h.ext (Nat.le_refl _) (fun _ _ => rfl) (fun _ _ => rfl) (fun _ h => h) reSame' ⟨false, hw, fun _ => rfl, (fun h => by cases h)⟩⟩
    | true =>
      simp only [plStep, he, cond_false] at hrun
      cases hne : evNE P (regEnv gl tm0 ops (masks ops.toList []) it.i it.mask V) σ it.o with
      | none => rw [hne] at hrun; cases hrun
      | some r =>
        obtain ⟨v, ob⟩ := r
        rw [hne] at hrun
        cases ob with
        | none =>
          simp only [plNE] at hrun
          let nf' : Nat → Nat := fun k => if k = it.i then σ.next else nf k
          have hnf' : ∀ x ∈ pre, nf' x.i = nf x.i := fun x hx => if_neg (hf1 x hx)
          have hnew : isNew it.o = true → False := fun hn => by
            unfold isNew at hn
            unfold evNE at hne
            cases ho : it.o.op <;> simp only [ho] at hn hne <;> first | (cases hn; done) | skip
            all_goals (simp only [neAlloc, neBox, neRow, neRow1, neRow2, neMake, neMake1, cond_eq_ite] at hne; (repeat' split at hne) <;> cases hne)
          refine ⟨_, σ, _, nf', fin v σ _ nf' hrun h.sr h.ext (Nat.le_refl _) (fun _ _ => rfl) hnf' (fun p hp => ?_) reSame' ⟨true, hw, (fun h => by cases h), fun _ => ⟨⟨none, ?_, (fun B hB => by cases hB)⟩, fun hrm => ?_, fun hn => (hnew hn).elim⟩⟩⟩
          · cases readsMem it.o <;> simp [hp]
          · show evNE P _ ⟨σ.mem, nf' it.i⟩ it.o = _
            rw [show nf' it.i = σ.next from if_pos rfl]
            exact hne
          · rw [hrm]; simp
        | some B =>
          simp only [plNE] at hrun
          cases hrc : recheck P gl tm0 ops (masks ops.toList []) (V.put it.i (some v)) (σ.new B) ld with
          | false => rw [hrc] at hrun; cases hrun
          | true =>
            rw [hrc] at hrun
            simp only [cond_true] at hrun
            have hrm := isNew_reads (ne_new hne)
            let nf' : Nat → Nat := fun k => if k = it.i then σ.next else nf k
            have hnf' : ∀ x ∈ pre, nf' x.i = nf x.i := fun x hx => if_neg (hf1 x hx)
            have hnit : nf' it.i = σ.next := if_pos rfl
            have hnone : ρ σ.next = none := by
              cases hq : ρ σ.next with
              | none => rfl
              | some X => exact absurd (h.sr.dom _ _ hq) (Nat.lt_irrefl _)
            refine ⟨_, σ.new B, ld, nf', fin v (σ.new B) ld nf' hrun (h.sr.phantom B) (h.ext.trans (Ext.phantom ρ σ B)) (Nat.le_succ _) (fun l hl => Tr.get_put_other _ _ (Nat.ne_of_lt hl)) hnf' (fun _ h => h) ?_ ⟨true, hw, (fun h => by cases h), fun _ => ⟨⟨some B, ?_, fun B' hB' => ?_⟩, (fun hr => by rw [hrm] at hr; cases hr), fun _ => ⟨by rw [hnit]; exact ⟨Nat.lt_succ_self _, h.ext.next⟩, fun x hx hxn hxw => ?_⟩⟩⟩⟩
            · intro x hx hl hxrm hw' u hu nx
              obtain ⟨u', h1, h2⟩ := h.ldok x hx hl hxrm hw'
              obtain rfl := Option.some.inj (h2.symm.trans hu)
              have := recheck_mem hrc x u' h1
              rw [(stay v).2.2 x hx] at this
              rw [ne_next (n2 := (σ.new B).next) hxrm]
              exact this
            · rw [hnit, ne_mem (m2 := σ.mem) hrm]
              exact hne
            · obtain rfl := Option.some.inj hB'
              rw [hnit]
              exact ⟨hnone, Nat.lt_succ_self _, Tr.get_put_same _ _ _⟩
            · rw [hnit]
              cases hxe : x.eff with
              | false => exact Nat.ne_of_lt (h.nfb x hx hxn hxw hxe).1
              | true =>
                have h9 := (h.item x (Or.inl hx)).eff
                rw [hxe] at h9
                unfold isNew at hxn
                unfold isEff at h9
                cases ho : x.o.op <;> simp only [ho] at hxn h9 <;> first | (cases hxn; done) | cases h9

/-- What is waited for is done. -/
theorem Inv.waited {x : PItem} (h : Inv P gl w0 call ops tm0 n a0 ρ0 σ0 Vf σf pre post V σ ld listed a w ρ nf) (hx : Item ops x) (hp : ∀ k, preds x.o k → Ls listed k) : ∀ k, bitOf x.mask k = true → Ls listed k :=
  hx.ok.sub (Ls listed) h.closed (fun o ho k hk => by obtain rfl := Option.some.inj (hx.op.symm.trans ho); exact hp k hk)
theorem Inv.env {x : PItem} (h : Inv P gl w0 call ops tm0 n a0 ρ0 σ0 Vf σf pre post V σ ld listed a w ρ nf) (hx : Item ops x) (hp : ∀ k, preds x.o k → Ls listed k) (hl : ¬ Ls listed x.i) (hm : ∀ k, bitOf x.mask k = true → ∃ y ∈ pre, y.i = k) :
    Env.rel ρ (regEnv gl tm0 ops (masks ops.toList []) x.i x.mask V) a.eval := by
  intro y v hy
  cases y with
  | tmp t =>
    simp only [regEnv] at hy
    have eval : ∀ c, a.tmps[t]? = some c → a.eval (.tmp t) = c := fun c hc => by simp [Act.eval, hc]
    cases hw : writerOf ops.toList 0 t with
    | none =>
      rw [hw] at hy
      obtain ⟨c, h1, h2⟩ := h.old t v hy (fun z hz => by rw [hw] at hz; cases hz)
      rw [eval c h1]; exact h2
    | some z =>
      rw [hw] at hy
      simp only at hy
      cases hb : bitOf x.mask z with
      | true =>
        rw [hb] at hy
        simp only [cond_true] at hy
        obtain ⟨q, hq, rfl⟩ := hm z hb
        obtain ⟨u, hu, hd⟩ := h.done q hq (h.waited hx hp _ hb)
        obtain rfl := Option.some.inj (hu.symm.trans hy)
        obtain ⟨j, o, e1, e2, e3⟩ := writer_some _ _ _ _ hw
        rw [Nat.zero_add] at e1
        subst e1
        rw [Array.getElem?_toList] at e2
        obtain rfl := Option.some.inj ((h.item q (Or.inl hq)).op.symm.trans e2)
        obtain ⟨c, h1, h2⟩ := hd t e3
        rw [eval c h1]; exact h2
      | false =>
        rw [hb] at hy
        simp only [cond_false] at hy
        obtain ⟨hc, hy⟩ := bif_some hy
        have hz : ¬ Ls listed z := fun hlz => by
          rw [Bool.or_eq_true] at hc
          rcases hc with hc | hc
          · rw [Nat.eq_of_beq_eq_true hc] at hlz; exact hl hlz
          · rw [List.getD_eq_getElem?_getD] at hc
            cases hmz : (masks ops.toList [])[z]? with
            | none => rw [hmz] at hc; simp only [Option.getD_none] at hc; rw [bitOf_zero] at hc; cases hc
            | some m =>
              rw [hmz] at hc
              have hok := masks_ok ops ops.toList [] [] rfl rfl (fun _ _ h => by simp at h) z m hmz
              exact hl (hok.sub (Ls listed) h.closed (fun o ho k hk => h.closed z o ho hlz k hk) x.i hc)
        obtain ⟨c, h1, h2⟩ := h.old t v hy (fun z' hz' => by rw [hw] at hz'; obtain rfl := Option.some.inj hz'; exact hz)
        rw [eval c h1]; exact h2
  | const u =>
    obtain ⟨h1, h2⟩ := bif_some hy
    obtain rfl := Option.some.inj h2
    exact .refl h1
  | global g => exact glob_rel h.sr hy
  | func f =>
    obtain rfl := Option.some.inj hy
    exact .refl rfl
theorem Inv.wanted {x : PItem} (h : Inv P gl w0 call ops tm0 n a0 ρ0 σ0 Vf σf pre post V σ ld listed a w ρ nf) (hx : Item ops x) (hp : ∀ k, preds x.o k → Ls listed k) (hm : ∀ k, bitOf x.mask k = true → ∃ y ∈ pre, y.i = k) {b : Bool} (hw : wantedR ops x.mask V x.o = some b) :
    Region.wanted x.o (yielded ops a.tmps) = b := by
  unfold wantedR at hw
  unfold Region.wanted
  split at hw
  · rename_i hg
    obtain rfl := Option.some.inj hw
    rw [hg]
  · rename_i j want hg
    rw [hg]
    split at hw
    · rename_i g hj
      split at hw
      · rename_i d hd
        obtain ⟨hb, hw⟩ := bif_some hw
        obtain ⟨q, hq, rfl⟩ := hm j hb
        obtain ⟨u, hu, hdd⟩ := h.done q hq (h.waited hx hp _ hb)
        obtain rfl := Option.some.inj ((h.item q (Or.inl hq)).op.symm.trans hj)
        obtain ⟨c, h1, h2⟩ := hdd d hd
        have hy : yielded ops a.tmps q.i = match c with | .bool b => some b | _ => none := by
          simp only [yielded, hj, Option.bind_some, hd, h1]
          cases c <;> rfl
        rw [hu] at hw
        split at hw
        · rename_i t ht
          obtain rfl := Option.some.inj hw
          obtain rfl := Option.some.inj ht
          obtain rfl := h2.bool_inv
          simp only [hy]
          cases t <;> cases want <;> rfl
        · rename_i v hnb ht
          obtain rfl := Option.some.inj hw
          obtain rfl := Option.some.inj ht
          simp only [hy]
          cases c <;> first | rfl | (exfalso; exact hnb _ (VR.bool_iff h2))
        · rename_i hno
          cases hno
      · cases hw
    · cases hw
/-- Every temporary has one writer. -/
def OneWriter (ops : Array Oper) : Prop := ∀ (i j : Nat) (o o' : Oper) (d : Tmp), ops[i]? = some o → ops[j]? = some o' → i ≠ j → o.dst = some d → o'.dst ≠ some d
omit [Syms] in
theorem put_other {a : Act} {o : Oper} {cv : Value} {t : Nat} (h : o.dst ≠ some t) : (a.put o.dst cv).tmps[t]? = a.tmps[t]? := by
  cases hd : o.dst with
  | none => rfl
  | some d =>
    have : d ≠ t := fun e => h (by rw [hd, e])
    simp only [Act.put]
    rw [Array.getElem?_setIfInBounds_ne this]
omit [Syms] in
theorem put_same {a : Act} {o : Oper} {cv : Value} {d : Nat} (h : o.dst = some d) (hlt : d < a.tmps.size) : (a.put o.dst cv).tmps[d]? = some cv := by
  rw [h]
  simp only [Act.put]
  rw [Array.getElem?_setIfInBounds_self_of_lt hlt]
omit [Syms] in
theorem put_size {a : Act} {o : Oper} {cv : Value} : (a.put o.dst cv).tmps.size = a.tmps.size := by
  cases o.dst <;> simp [Act.put]
omit [Syms] in
theorem put_defers {a : Act} {o : Oper} {cv : Value} : (a.put o.dst cv).defers = a.defers := by
  cases o.dst <;> rfl
/-- What stays in the temporaries behind an operation. -/
theorem Inv.tmps {x : PItem} (h : Inv P gl w0 call ops tm0 n a0 ρ0 σ0 Vf σf pre post V σ ld listed a w ρ nf) (h1w : OneWriter ops) (hx : Item ops x) (hlt : x.i < ops.size) {ρ' : Ren} (hle : Le ρ ρ') (cv : Value) :
    (∀ t v, tm0.get t = some v → (∀ y, writerOf ops.toList 0 t = some y → ¬ Ls (listed.setIfInBounds x.i true) y) → ∃ c, (a.put x.o.dst cv).tmps[t]? = some c ∧ VR ρ' v c) ∧
    (∀ it ∈ pre, it.i ≠ x.i → Ls (listed.setIfInBounds x.i true) it.i → ∃ v, V.get it.i = some v ∧ ∀ d, it.o.dst = some d → ∃ c, (a.put x.o.dst cv).tmps[d]? = some c ∧ VR ρ' v c) := by
  have hsz : x.i < listed.size := by rw [h.size]; exact hlt
  refine ⟨fun t v hv hw => ?_, fun it hit hne hl => ?_⟩
  · have hnd : x.o.dst ≠ some t := fun hd => by
      cases hwr : writerOf ops.toList 0 t with
      | none => exact writer_none _ _ _ hwr x.i x.o (by rw [Array.getElem?_toList]; exact hx.op) hd
      | some y =>
        obtain ⟨j, o, e1, e2, e3⟩ := writer_some _ _ _ _ hwr
        rw [Nat.zero_add] at e1
        subst e1
        rw [Array.getElem?_toList] at e2
        by_cases hjx : y = x.i
        · exact hw y hwr ((Ls.set hsz).2 (Or.inl hjx))
        · exact h1w y x.i o x.o t e2 hx.op hjx e3 hd
    obtain ⟨c, h1, h2⟩ := h.old t v hv (fun y hy hly => hw y hy ((Ls.set hsz).2 (Or.inr hly)))
    exact ⟨c, by rw [put_other hnd]; exact h1, h2.mono hle⟩
  · have hl' : Ls listed it.i := by
      rcases (Ls.set hsz).1 hl with e | e
      · exact absurd e hne
      · exact e
    obtain ⟨v, h1, h2⟩ := h.done it hit hl'
    refine ⟨v, h1, fun d hd => ?_⟩
    obtain ⟨c, h3, h4⟩ := h2 d hd
    exact ⟨c, by rw [put_other (h1w it.i x.i it.o x.o d (h.item it (Or.inl hit)).op hx.op hne hd)]; exact h3, h4.mono hle⟩
theorem Inv.closed' {x : PItem} (h : Inv P gl w0 call ops tm0 n a0 ρ0 σ0 Vf σf pre post V σ ld listed a w ρ nf) (hx : Item ops x) (hlt : x.i < ops.size) (hp : ∀ k, preds x.o k → Ls listed k) : Closed ops (Ls (listed.setIfInBounds x.i true)) := by
  have hsz : x.i < listed.size := by rw [h.size]; exact hlt
  intro i o ho hl k hk
  rcases (Ls.set hsz).1 hl with e | e
  · subst e
    obtain rfl := Option.some.inj (hx.op.symm.trans ho)
    exact (Ls.set hsz).2 (Or.inr (hp k hk))
  · exact (Ls.set hsz).2 (Or.inr (h.closed i o ho e k hk))
/-- The world comes after. -/
theorem Inv.did {x : PItem} (h : Inv P gl w0 call ops tm0 n a0 ρ0 σ0 Vf σf pre post V σ ld listed a w ρ nf) (h1w : OneWriter ops) (hdst : ∀ o, o ∈ ops.toList → dstOk n o = true) (hx : x ∈ pre) (hlt : x.i < ops.size) (hp : ∀ k, preds x.o k → Ls listed k)
    {v cv : Value} {ρ' : Ren} {w' : World} (hv : V.get x.i = some v) (hle : Le ρ ρ') (hr : VR ρ' v cv) (hs : SR gl w0 ρ' σ w') (hext : Ext ρ0 σ0 ρ' σ) (hρ : ∀ y ∈ pre, y.i ≠ x.i → isNew y.o = true → wantedR ops y.mask V y.o = some true → ρ (nf y.i) = none → ρ' (nf y.i) = none) :
    Inv P gl w0 call ops tm0 n a0 ρ0 σ0 Vf σf pre post V σ ld (listed.setIfInBounds x.i true) (a.put x.o.dst cv) w' ρ' nf := by
  have hxi := h.item x (Or.inl hx)
  have hsz : x.i < listed.size := by rw [h.size]; exact hlt
  obtain ⟨t1, t2⟩ := h.tmps h1w hxi hlt hle cv
  have hne : ∀ y ∈ pre, ¬ Ls (listed.setIfInBounds x.i true) y.i → y.i ≠ x.i ∧ ¬ Ls listed y.i := fun y _ hl => ⟨fun e => hl ((Ls.set hsz).2 (Or.inl e)), fun e => hl ((Ls.set hsz).2 (Or.inr e))⟩
  refine ⟨h.run, h.chk, h.item, h.mpre, by simp [h.size], h.closed' hxi hlt hp, fun y hy hye => (Ls.set hsz).2 (Or.inr (h.effs y hy hye)), fun y hy hl => ?_, hs, hext, by rw [put_defers]; exact h.defers, by rw [put_size]; exact h.tsz, t1, ?_, ?_, ?_, h.nfinj, h.nfb⟩
  · rcases (Ls.set hsz).1 hl with e | e
    · obtain ⟨s, le, hc, hss⟩ := h.chk
      have h1 := chk_fresh hc y hy
      have h2 := (hss y.i).2 ⟨x, hx, e.symm⟩
      rw [h1] at h2; cases h2
    · exact h.un y hy e
  · intro y hy hl
    by_cases e : y.i = x.i
    · obtain rfl := Item.eq (h.item y (Or.inl hy)) hxi e
      refine ⟨v, hv, fun d hd => ⟨cv, put_same hd ?_, hr⟩⟩
      have := hdst y.o (Array.mem_toList_iff.2 (Array.mem_of_getElem? hxi.op))
      unfold dstOk at this
      rw [hd] at this
      rw [h.tsz]
      exact Nat.le_of_ble_eq_true this
    · exact t2 y hy e hl
  · intro y hy hl
    obtain ⟨hyx, hyl⟩ := hne y hy hl
    obtain ⟨p1, b, p2, p3, p4⟩ := h.pend y hy hyl
    refine ⟨p1, b, p2, p3, fun hb => ?_⟩
    obtain ⟨u, ob, q1, q2, q3⟩ := p4 hb
    refine ⟨u, ob, q1, q2, fun B hB => ?_⟩
    obtain ⟨r1, r2, r3⟩ := q3 B hB
    subst hb hB
    exact ⟨hρ y hy hyx (ne_new q2) p2 r1, r2, r3⟩
  · intro y hy hl hrm hw
    exact h.ldok y hy (hne y hy hl).2 hrm hw
/-- The run and the world go on by an effect. -/
theorem Inv.acted {it : PItem} (h : Inv P gl w0 call ops tm0 n a0 ρ0 σ0 Vf σf pre (it :: post) V σ ld listed a w ρ nf) (h1w : OneWriter ops) (hdst : ∀ o, o ∈ ops.toList → dstOk n o = true) (he : it.eff = true) (hlt : it.i < ops.size) (hp : ∀ k, preds it.o k → Ls listed k)
    {v cv : Value} {ρ' : Ren} {σ' : St} {w' : World} {ld' : List (PItem × Value)} (hrun : evPlan P gl call tm0 ops (masks ops.toList []) post (V.put it.i (some v)) σ' ld' = some (Vf, σf)) (hext : Ext ρ σ ρ' σ') (hr : VR ρ' v cv) (hs : SR gl w0 ρ' σ' w')
    (hre : ∀ x ∈ pre, ¬ Ls listed x.i → readsMem x.o = true → wantedR ops x.mask V x.o = some true → ∀ u, V.get x.i = some u → (x, u) ∈ ld' ∧ ∀ nx, evNE P (regEnv gl tm0 ops (masks ops.toList []) x.i x.mask V) ⟨σ'.mem, nx⟩ x.o = some (u, none)) :
    Inv P gl w0 call ops tm0 n a0 ρ0 σ0 Vf σf (pre ++ [it]) post (V.put it.i (some v)) σ' ld' (listed.setIfInBounds it.i true) (a.put it.o.dst cv) w' ρ' nf := by
  obtain ⟨hf1, hf2, hf3, hf4⟩ := h.fresh
  have hxi := h.item it (Or.inr (by simp))
  have hsz : it.i < listed.size := by rw [h.size]; exact hlt
  have hle := hext.le h.sr
  obtain ⟨t1, t2⟩ := h.tmps h1w hxi hlt hle cv
  have st1 : ∀ x ∈ pre, (V.put it.i (some v)).get x.i = V.get x.i := fun x hx => Tr.get_put_other _ _ (hf1 x hx)
  have st2 : ∀ x ∈ pre, wantedR ops x.mask (V.put it.i (some v)) x.o = wantedR ops x.mask V x.o := fun x hx => wantedR_put (hf2 x hx)
  have st3 : ∀ x ∈ pre, regEnv gl tm0 ops (masks ops.toList []) x.i x.mask (V.put it.i (some v)) = regEnv gl tm0 ops (masks ops.toList []) x.i x.mask V := fun x hx => regEnv_put (hf2 x hx)
  have notnew : ∀ o, isEff o = true → isNew o = false := fun o ho => by
    unfold isEff at ho
    unfold isNew
    cases hq : o.op <;> simp only [hq] at ho ⊢ <;> cases ho
  have notread : ∀ o, isEff o = true → readsMem o = false := fun o ho => by
    unfold isEff at ho
    unfold readsMem
    cases hq : o.op <;> simp only [hq] at ho ⊢ <;> cases ho
  have hitl : Ls (listed.setIfInBounds it.i true) it.i := (Ls.set hsz).2 (Or.inl rfl)
  have unl : ∀ x ∈ pre, ¬ Ls (listed.setIfInBounds it.i true) x.i → ¬ Ls listed x.i := fun x _ hl e => hl ((Ls.set hsz).2 (Or.inr e))
  refine ⟨hrun, h.chk', fun x hx => h.item x ?_, h.mpre', by simp [h.size], h.closed' hxi hlt hp, fun y hy hye => ?_, fun y hy hl => ?_, hs, h.ext.trans hext, by rw [put_defers]; exact h.defers, by rw [put_size]; exact h.tsz, t1, ?_, ?_, ?_, ?_, ?_⟩
  · rcases hx with hx | hx
    · rw [List.mem_append, List.mem_singleton] at hx
      rcases hx with hx | rfl
      · exact Or.inl hx
      · exact Or.inr (by simp)
    · exact Or.inr (List.mem_cons_of_mem _ hx)
  · rw [List.mem_append, List.mem_singleton] at hy
    rcases hy with hy | rfl
    · exact (Ls.set hsz).2 (Or.inr (h.effs y hy hye))
    · exact hitl
  · rcases (Ls.set hsz).1 hl with e | e
    · obtain ⟨s, le, hc, hss⟩ := h.chk'
      have h1 := chk_fresh hc y hy
      have h2 := (hss y.i).2 ⟨it, by simp, e.symm⟩
      rw [h1] at h2; cases h2
    · exact h.un y (List.mem_cons_of_mem _ hy) e
  · intro y hy hl
    rw [List.mem_append, List.mem_singleton] at hy
    rcases hy with hy | rfl
    · obtain ⟨u, k1, k2⟩ := t2 y hy (hf1 y hy) hl
      exact ⟨u, by rw [st1 y hy]; exact k1, k2⟩
    · refine ⟨v, Tr.get_put_same _ _ _, fun d hd => ⟨cv, put_same hd ?_, hr⟩⟩
      have := hdst y.o (Array.mem_toList_iff.2 (Array.mem_of_getElem? hxi.op))
      unfold dstOk at this
      rw [hd] at this
      rw [h.tsz]
      exact Nat.le_of_ble_eq_true this
  · intro y hy hl
    rw [List.mem_append, List.mem_singleton] at hy
    rcases hy with hy | rfl
    · have hyl := unl y hy hl
      obtain ⟨p1, b, p2, p3, p4⟩ := h.pend y hy hyl
      refine ⟨p1, b, by rw [st2 y hy]; exact p2, fun hb => by rw [st1 y hy]; exact p3 hb, fun hb => ?_⟩
      obtain ⟨u, ob, q1, q2, q3⟩ := p4 hb
      subst hb
      rw [st1 y hy, st3 y hy]
      cases hrm : readsMem y.o with
      | true => exact ⟨u, none, q1, (hre y hy hyl hrm p2 u q1).2 _, fun B hB => by cases hB⟩
      | false =>
        refine ⟨u, ob, q1, by rw [ne_mem (m2 := σ.mem) hrm]; exact q2, fun B hB => ?_⟩
        obtain ⟨r1, r2, r3⟩ := q3 B hB
        exact ⟨(hext.same _ r2).trans r1, Nat.lt_of_lt_of_le r2 hext.next, (hext.mem _ r2 r1).trans r3⟩
    · exact absurd hitl hl
  · intro y hy hl hrm hw
    rw [List.mem_append, List.mem_singleton] at hy
    rcases hy with hy | rfl
    · rw [st2 y hy] at hw
      obtain ⟨u, _, k2⟩ := h.ldok y hy (unl y hy hl) hrm hw
      exact ⟨u, (hre y hy (unl y hy hl) hrm hw u k2).1, by rw [st1 y hy]; exact k2⟩
    · exact absurd hitl hl
  · intro x hx y hy hxn hyn hxw hyw hne
    have isin : ∀ z, z ∈ pre ++ [it] → isNew z.o = true → z ∈ pre := fun z hz hzn => by
      rw [List.mem_append, List.mem_singleton] at hz
      rcases hz with hz | rfl
      · exact hz
      · rw [notnew z.o (by rw [← hxi.eff]; exact he)] at hzn; cases hzn
    have hx' := isin x hx hxn
    have hy' := isin y hy hyn
    rw [st2 x hx'] at hxw
    rw [st2 y hy'] at hyw
    exact h.nfinj x hx' y hy' hxn hyn hxw hyw hne
  · intro x hx hxn hxw hxe
    rw [List.mem_append, List.mem_singleton] at hx
    rcases hx with hx | rfl
    · rw [st2 x hx] at hxw
      obtain ⟨k1, k2⟩ := h.nfb x hx hxn hxw hxe
      exact ⟨Nat.lt_of_lt_of_le k1 hext.next, k2⟩
    · rw [notnew x.o (by rw [← hxi.eff]; exact he)] at hxn; cases hxn
end
end
end Go.Proofs.YtcjolamfjgdgjaaGreatDoor.Ev
