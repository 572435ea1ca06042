/-
  The reference checker, by equations: names, limits.
-/
import Derived.Test.YtpkchglfgkkcbaaDoorVsChkA
import Derived.Attr

namespace Go.Proofs.YtpkchglfgkkcbaaDoor.Vs
open Go.Proofs.YtpkchglfgkkcbaaDoor.Ev
noncomputable section
set_option linter.unusedSimpArgs false
theorem isCell_p (x : PV) : isCell (.p x) = true := rfl
theorem isCell_ms (l g o n c : Nat) : isCell (.ms l g o n c) = true := rfl
theorem isCell_ptr (l g o : Nat) : isCell (.ptr l g o) = true := rfl
theorem okCell_p (x : PV) : okCell (.p x) = true := rfl
theorem okCell_ms (l g o n c : Nat) : okCell (.ms l g o n c) = true := rfl
theorem okCell_ptr (l g o : Nat) : okCell (.ptr l g o) = true := rfl
theorem at_c0 (τ L : St2) : (cleanT (τ ++ L))[τ.length]? = (cleanT L)[0]? := by rw [cleanT_app]; exact at_len' (cleanT_len τ)
theorem at_ck (τ L : St2) (k : Nat) : (cleanT (τ ++ L))[τ.length + k]? = (cleanT L)[k]? := by rw [cleanT_app, ← cleanT_len τ, at_add]

attribute [local go_sem] bodyS evS evL want chkV opV isEf neV efV env look put putO keep bi un1 v0 binC isSh binI wb next2 regS condS outS resS tmS nb nl blockS virts round trunc_same len_list len_nils len_ms len_str len_sl idx_list idx_ms idx_sl loadC one binS asN_nat faC cellsAt2 storeC cellsOf isCell_p isCell_ms isCell_ptr setAt buildC partsC fillC repC rowC toPs chunks at_len at_add set_len set_add at_c0 at_ck cleanT_get soil_clean pureAt okV okCell_p okCell_ms okCell_ptr nilChk callV ev2 fieldC unC pickC slcC slcP bnd obnd asN_lit asN_0 asN_1 asN_2 asN_mod asN_modl succ_ne succ_pos' leave3 leave_p undefC
theorem SV.cell {τ : St2} {c : C} {xs : List Str} (h : SV τ c xs) : isCell c = true := by cases h <;> rfl
theorem SV.ok {τ : St2} {c : C} {xs : List Str} (h : SV τ c xs) : okCell c = true := by cases h <;> rfl
mutual
def defE (vs as : List Str) : LE → Bool
  | .mk k _ s _ _ kids => defEs vs as kids && ((!decide (k = 2) || decide (s ∈ vs)) && (!decide (k = 3) || decide (s ∈ as)))
def defEs (vs as : List Str) : List LE → Bool
  | [] => true
  | e :: es => defE vs as e && defEs vs as es
end
theorem defEs_all (vs as : List Str) : ∀ l : List LE, defEs vs as l = l.all (defE vs as)
  | [] => rfl
  | e :: es => by simp [defEs, defEs_all vs as es]
def findAt (s : Str) : List LF → Option Nat
  | [] => none
  | f :: r => if f.name = s then some 0 else (findAt s r).map (· + 1)
def findL (fs : List LF) (s : Str) : Int := match findAt s fs with
  | some i => i
  | none => -1
section
variable {T : FuncId → Option SF}
structure HScope (T : FuncId → Option SF) : Prop where
  contains : T F_r3_contains = some sf_r3_contains
  defE : T F_r3_scope_definedExpr = some sf_r3_scope_definedExpr
  find : T F_r3_FindFunc = some sf_r3_FindFunc
  defS : T F_r3_scope_definedStmt = some sf_r3_scope_definedStmt
  check : T F_r3_scope_checkStmts = some sf_r3_scope_checkStmts
theorem defE_loop (call : Call2) (vs as : List Str) (nl : Option Bool) (kids : List LE) (a b c d : PV) (cv ca : C) (pA pF : PV) (τ : St2) (hv : SV τ cv vs) (ha : SV τ ca as) (hsz : kids.length ≤ big) (hk : ∀ k, k ∈ kids → ∀ τ, SV τ cv vs → SV τ ca as → call F_r3_scope_definedExpr [.agg [cv, ca, .p pA, .p pF], .agg (k.row.map .p)] τ = some (.b (defE vs as k), τ)) :
    (kids.all (defE vs as) = true → Loop (round [2, 3, 5] (evS ⟨fun _ => false, false⟩ call lb_r3_scope_definedExpr_0)) [(2, .ptr τ.length 4 0), (3, .ptr (τ.length + 1) 5 0), (5, .i (0 : Nat))] (τ ++ [⟨[cv, ca, .p pA, .p pF], .live, 4, true⟩, ⟨[.p a, .p b, .p c, .p d, .p (slP nl 5 (rowsE kids))], .live, 5, true⟩]) = some (.exit 0, [(2, .ptr τ.length 4 0), (3, .ptr (τ.length + 1) 5 0), (5, .i (kids.length : Nat)), (10, .b false)], τ ++ [⟨[cv, ca, .p pA, .p pF], .live, 4, true⟩, ⟨[.p a, .p b, .p c, .p d, .p (slP nl 5 (rowsE kids))], .live, 5, true⟩])) ∧
    (kids.all (defE vs as) = false → ∃ L, Loop (round [2, 3, 5] (evS ⟨fun _ => false, false⟩ call lb_r3_scope_definedExpr_0)) [(2, .ptr τ.length 4 0), (3, .ptr (τ.length + 1) 5 0), (5, .i (0 : Nat))] (τ ++ [⟨[cv, ca, .p pA, .p pF], .live, 4, true⟩, ⟨[.p a, .p b, .p c, .p d, .p (slP nl 5 (rowsE kids))], .live, 5, true⟩]) = some (.ret, [(4, .b false)], (τ ++ [⟨[cv, ca, .p pA, .p pF], .live, 4, true⟩, ⟨[.p a, .p b, .p c, .p d, .p (slP nl 5 (rowsE kids))], .live, 5, true⟩]) ++ L)) := by
  have hl := rowsE_lengths kids
  have hbig : 100 ≤ big := by decide
  have o1 := hv.ok
  have o2 := ha.ok
  refine search0 (E := fun i => [(2, .ptr τ.length 4 0), (3, .ptr (τ.length + 1) 5 0), (5, .i (i : Nat))]) (fun done k rest hd hp => ?_) (fun done k rest hd hp => ⟨[], ?_⟩) ?_
  · have hlt : done.length < kids.length := by rw [← hd]; simp
    have hat : (rowsE kids)[done.length]? = some k.row := by rw [← hd]; exact rowsE_at done rest k
    have h2 := fun L => hk k (by rw [← hd]; simp) (τ ++ L) (hv.app L) (ha.app L)
    have hw := wrap_b (n := done.length + 1) (by omega)
    obtain ⟨kk, nn, ss, oo, vv, hr⟩ := k.row5
    simp only [hr, List.map] at h2 hat
    have hat2 := at2 hat
    simp only [Int.natCast_add, Int.natCast_one] at hw
    simp [go_sem, lb_r3_scope_definedExpr_0, hl, hlt, hat, hat2, h2, hp, hw, o1, o2, -Bool.exists_bool]
  · have hlt : done.length < kids.length := by rw [← hd]; simp
    have hat : (rowsE kids)[done.length]? = some k.row := by rw [← hd]; exact rowsE_at done rest k
    have h2 := fun L => hk k (by rw [← hd]; simp) (τ ++ L) (hv.app L) (ha.app L)
    obtain ⟨kk, nn, ss, oo, vv, hr⟩ := k.row5
    simp only [hr, List.map] at h2 hat
    have hat2 := at2 hat
    simp [go_sem, lb_r3_scope_definedExpr_0, hl, hlt, hat, hat2, h2, hp, o1, o2, -Bool.exists_bool]
  · simp [go_sem, lb_r3_scope_definedExpr_0, hl, -Bool.exists_bool]
theorem defE_eq (H : HScope T) (vs as : List Str) (hvs : vs.length ≤ big) (has : as.length ≤ big) (cv ca : C) (pA pF : PV) : ∀ e : LE, szE e ≤ big → ∀ τ, SV τ cv vs → SV τ ca as → go T F_r3_scope_definedExpr [.agg [cv, ca, .p pA, .p pF], .agg (e.row.map .p)] τ = some (.b (defE vs as e), τ) := LE.ind fun k n s o nl kids ih hs τ hv ha => by
  simp only [szE] at hs
  have hlen := szEs_len kids
  obtain ⟨h1, h2⟩ := defE_loop (go T) vs as nl kids (.int .i64 k) (.int .i64 n) (.str s) (.int .i64 o) cv ca pA pF τ hv ha (by omega) (fun k hk => ih k hk (by have := szEs_mem hk; omega))
  simp only [Int.ofNat_zero] at h1 h2
  have i1 := hv.cell
  have i2 := ha.cell
  have c1 := fun L => contains_sv H.contains (hv.app L) hvs s
  have c2 := fun L => contains_sv H.contains (ha.app L) has s
  have hlv := fun L x => leave_pL τ L x
  rw [go_eq, H.defE]
  cases hall : kids.all (defE vs as) with
  | false =>
    obtain ⟨L, h2⟩ := h2 hall
    simp only [List.append_assoc, List.cons_append, List.nil_append] at h2
    simp [go_sem, sf_r3_scope_definedExpr, LE.row, h2, hlv, i1, i2, defE, defEs_all, hall, -Bool.exists_bool]
  | true =>
    have h1 := h1 hall
    by_cases k2 : k = 2
    · subst k2
      by_cases m1 : s ∈ vs
      · simp [go_sem, sf_r3_scope_definedExpr, LE.row, h1, hlv, i1, i2, defE, defEs_all, hall, c1, m1, -Bool.exists_bool]
      · simp [go_sem, sf_r3_scope_definedExpr, LE.row, h1, hlv, i1, i2, defE, defEs_all, hall, c1, m1, -Bool.exists_bool]
    · by_cases k3 : k = 3
      · subst k3
        by_cases m1 : s ∈ as
        · simp [go_sem, sf_r3_scope_definedExpr, LE.row, h1, hlv, i1, i2, defE, defEs_all, hall, c2, m1, -Bool.exists_bool]
        · simp [go_sem, sf_r3_scope_definedExpr, LE.row, h1, hlv, i1, i2, defE, defEs_all, hall, c2, m1, -Bool.exists_bool]
      · simp [go_sem, sf_r3_scope_definedExpr, LE.row, h1, hlv, i1, i2, defE, defEs_all, hall, k2, k3, -Bool.exists_bool]
theorem rowsF_at {done rest l : List LF} {s : LF} (hd : done ++ s :: rest = l) : (rowsF l)[done.length]? = some s.row := by
  rw [← hd]; unfold rowsF; rw [List.map_append, List.map_cons]; have := at_mid (done.map LF.row) (rest.map LF.row) s.row; rwa [List.length_map] at this
theorem LF.row9 (f : LF) : ∃ kv nv sv ov vv, f.value.row = [.int .i64 kv, .int .i64 nv, .str sv, .int .i64 ov, vv] ∧ f.row = [.str f.name, slP f.pnl 1 (rowsN f.params), slP f.lnl 1 (rowsN f.locals), slP f.bnl 17 (rowsS f.body), .int .i64 kv, .int .i64 nv, .str sv, .int .i64 ov, vv] := by
  obtain ⟨kv, nv, sv, ov, vv, hv⟩ := f.value.row5
  exact ⟨kv, nv, sv, ov, vv, hv, by simp [LF.row, hv]⟩
theorem find_loop (call : Call2) (s : Str) (pA : PV) (nl : Option Bool) (fs : List LF) (τ : St2) (hsz : fs.length ≤ big) : ∀ (rest done : List LF), done ++ rest = fs →
    (∀ i, findAt s rest = some i → Loop (round [1, 2, 5] (evS ⟨fun _ => false, false⟩ call lb_r3_FindFunc_0)) [(1, .s s), (2, .ptr τ.length 2 0), (5, .i (done.length : Nat))] (τ ++ [⟨[.p pA, .p (slP nl 9 (rowsF fs))], .live, 2, true⟩]) = some (.ret, [(4, .i ((done.length + i : Nat) : Int))], τ ++ [⟨[.p pA, .p (slP nl 9 (rowsF fs))], .live, 2, true⟩])) ∧
    (findAt s rest = none → ∃ tm, Loop (round [1, 2, 5] (evS ⟨fun _ => false, false⟩ call lb_r3_FindFunc_0)) [(1, .s s), (2, .ptr τ.length 2 0), (5, .i (done.length : Nat))] (τ ++ [⟨[.p pA, .p (slP nl 9 (rowsF fs))], .live, 2, true⟩]) = some (.exit 0, tm, τ ++ [⟨[.p pA, .p (slP nl 9 (rowsF fs))], .live, 2, true⟩])) := by
  have hl : (rowsF fs).length = fs.length := by simp [rowsF]
  have hbig : 100 ≤ big := by decide
  intro rest
  induction rest with
  | nil =>
    intro done hd
    obtain rfl : done = fs := by simpa using hd
    refine ⟨(fun i h => by cases h), fun _ => ⟨[(1, .s s), (2, .ptr τ.length 2 0), (5, .i (done.length : Nat)), (10, .b false)], Loop_exit ?_⟩⟩
    simp [go_sem, lb_r3_FindFunc_0, hl, -Bool.exists_bool]
  | cons f rest ih =>
    intro done hd
    have hlt : done.length < fs.length := by rw [← hd]; simp
    have hat := rowsF_at hd
    obtain ⟨kv, nv, sv, ov, vv, hv, hr⟩ := f.row9
    rw [hr] at hat
    have hat2 := at2 hat
    have hw := wrap_b (n := done.length + 1) (by omega)
    simp only [Int.natCast_add, Int.natCast_one] at hw
    by_cases q : f.name = s
    · have h1 : round [1, 2, 5] (evS ⟨fun _ => false, false⟩ call lb_r3_FindFunc_0) [(1, .s s), (2, .ptr τ.length 2 0), (5, .i (done.length : Nat))] (τ ++ [⟨[.p pA, .p (slP nl 9 (rowsF fs))], .live, 2, true⟩]) = some (.ret, [(4, .i ((done.length + 0 : Nat) : Int))], τ ++ [⟨[.p pA, .p (slP nl 9 (rowsF fs))], .live, 2, true⟩]) := by
        simp [go_sem, lb_r3_FindFunc_0, hl, hlt, hat, hat2, q, -Bool.exists_bool]
      refine ⟨fun i hi => ?_, fun h => ?_⟩
      · simp only [findAt, if_pos q, Option.some.injEq] at hi
        subst hi
        exact Loop_ret h1
      · simp [findAt, q] at h
    · have h1 : round [1, 2, 5] (evS ⟨fun _ => false, false⟩ call lb_r3_FindFunc_0) [(1, .s s), (2, .ptr τ.length 2 0), (5, .i (done.length : Nat))] (τ ++ [⟨[.p pA, .p (slP nl 9 (rowsF fs))], .live, 2, true⟩]) = some (.normal, [(1, .s s), (2, .ptr τ.length 2 0), (5, .i ((done ++ [f]).length : Nat))], τ ++ [⟨[.p pA, .p (slP nl 9 (rowsF fs))], .live, 2, true⟩]) := by
        simp [go_sem, lb_r3_FindFunc_0, hl, hlt, hat, hat2, q, hw, -Bool.exists_bool]
      rw [Loop_step h1]
      obtain ⟨ih1, ih2⟩ := ih (done ++ [f]) (by simpa using hd)
      refine ⟨fun i hi => ?_, fun h => ih2 ?_⟩
      · simp only [findAt, if_neg q, Option.map_eq_some_iff] at hi
        obtain ⟨j, hj, rfl⟩ := hi
        rw [ih1 j hj]
        simp only [List.length_append, List.length_singleton]
        rw [show done.length + 1 + j = done.length + (j + 1) by omega]
      · simpa [findAt, q] using h
theorem find_eq (H : HScope T) (s : Str) (pA : PV) (nl : Option Bool) (fs : List LF) (hsz : fs.length ≤ big) (τ : St2) : go T F_r3_FindFunc [.agg [.p pA, .p (slP nl 9 (rowsF fs))], .s s] τ = some (.i (findL fs s), τ) := by
  obtain ⟨h1, h2⟩ := find_loop (go T) s pA nl fs τ hsz fs [] rfl
  simp only [List.length_nil, Int.ofNat_zero, Nat.zero_add] at h1 h2
  have hlv := fun L x => leave_pL τ L x
  rw [go_eq, H.find]
  unfold findL
  cases hf : findAt s fs with
  | none =>
    obtain ⟨tm, h2⟩ := h2 hf
    simp [go_sem, sf_r3_FindFunc, h2, hlv, -Bool.exists_bool]
  | some i =>
    have h1 := h1 i hf
    simp [go_sem, sf_r3_FindFunc, h1, hlv, -Bool.exists_bool]
end
def findB (fs : List LF) (s : Str) : Bool := (findAt s fs).isSome
def shapeD (vs as : List Str) (fs : List LF) (s : LS) : Bool :=
  if s.kind = 1 then decide (s.name ∈ vs)
  else if s.kind = 6 then decide (s.name ∈ vs) && findB fs s.to
  else if s.kind = 2 then decide (s.name ∈ as)
  else true
def defS1 (vs as : List Str) (fs : List LF) (s : LS) : Bool := s.args.all (defE vs as) && (defE vs as s.at_ && (defE vs as s.val && shapeD vs as fs s))
theorem findL_nonneg (fs : List LF) (s : Str) : (0 ≤ findL fs s) ↔ findB fs s = true := by
  unfold findL findB
  cases findAt s fs with
  | none => simp
  | some i => simp
section
variable {T : FuncId → Option SF}
def SCB (cv ca : C) (pA pF : PV) : B2 := ⟨[cv, ca, .p pA, .p pF], .live, 4, true⟩
theorem defS_loop (call : Call2) (vs as : List Str) (s : LS) (cv ca : C) (pA pF : PV) (τ : St2) (hv : SV τ cv vs) (ha : SV τ ca as) (hsz : s.args.length ≤ big) (hk : ∀ k, k ∈ s.args → ∀ τ, SV τ cv vs → SV τ ca as → call F_r3_scope_definedExpr [.agg [cv, ca, .p pA, .p pF], .agg (k.row.map .p)] τ = some (.b (defE vs as k), τ)) :
    (s.args.all (defE vs as) = true → Loop (round [2, 3, 5] (evS ⟨fun _ => false, false⟩ call lb_r3_scope_definedStmt_0)) [(2, .ptr τ.length 4 0), (3, .ptr (τ.length + 1) 17 0), (5, .i (0 : Nat))] (τ ++ [SCB cv ca pA pF, SB s]) = some (.exit 0, [(2, .ptr τ.length 4 0), (3, .ptr (τ.length + 1) 17 0), (5, .i (s.args.length : Nat)), (10, .b false)], τ ++ [SCB cv ca pA pF, SB s])) ∧
    (s.args.all (defE vs as) = false → ∃ L, Loop (round [2, 3, 5] (evS ⟨fun _ => false, false⟩ call lb_r3_scope_definedStmt_0)) [(2, .ptr τ.length 4 0), (3, .ptr (τ.length + 1) 17 0), (5, .i (0 : Nat))] (τ ++ [SCB cv ca pA pF, SB s]) = some (.ret, [(4, .b false)], (τ ++ [SCB cv ca pA pF, SB s]) ++ L)) := by
  have hl := rowsE_lengths s.args
  have hbig : 100 ≤ big := by decide
  have o1 := hv.ok
  have o2 := ha.ok
  obtain ⟨ka, na, sa, oa, va, kv, nv, sv, ov, vv, ha', hv', hr⟩ := s.row17
  simp only [SB, SCB, hr, List.map]
  refine search0 (E := fun i => [(2, .ptr τ.length 4 0), (3, .ptr (τ.length + 1) 17 0), (5, .i (i : Nat))]) (fun done k rest hd hp => ?_) (fun done k rest hd hp => ⟨[], ?_⟩) ?_
  · have hlt : done.length < s.args.length := by rw [← hd]; simp
    have hat : (rowsE s.args)[done.length]? = some k.row := by rw [← hd]; exact rowsE_at done rest k
    have h2 := fun L => hk k (by rw [← hd]; simp) (τ ++ L) (hv.app L) (ha.app L)
    have hw := wrap_b (n := done.length + 1) (by omega)
    obtain ⟨kk, nn, ss, oo, vv, hr⟩ := k.row5
    simp only [hr, List.map] at h2 hat
    have hat2 := at2 hat
    simp only [Int.natCast_add, Int.natCast_one] at hw
    simp [go_sem, lb_r3_scope_definedStmt_0, hl, hlt, hat, hat2, h2, hp, hw, o1, o2, -Bool.exists_bool]
  · have hlt : done.length < s.args.length := by rw [← hd]; simp
    have hat : (rowsE s.args)[done.length]? = some k.row := by rw [← hd]; exact rowsE_at done rest k
    have h2 := fun L => hk k (by rw [← hd]; simp) (τ ++ L) (hv.app L) (ha.app L)
    obtain ⟨kk, nn, ss, oo, vv, hr⟩ := k.row5
    simp only [hr, List.map] at h2 hat
    have hat2 := at2 hat
    simp [go_sem, lb_r3_scope_definedStmt_0, hl, hlt, hat, hat2, h2, hp, o1, o2, -Bool.exists_bool]
  · simp [go_sem, lb_r3_scope_definedStmt_0, hl, -Bool.exists_bool]
theorem defS_eq (H : HScope T) (vs as : List Str) (hvs : vs.length ≤ big) (has : as.length ≤ big) (cv ca : C) (pA : PV) (nl : Option Bool) (fs : List LF) (hfs : fs.length ≤ big) (s : LS) (hs : szS s ≤ big) (τ : St2) (hv : SV τ cv vs) (ha : SV τ ca as) : go T F_r3_scope_definedStmt [.agg [cv, ca, .p pA, .p (slP nl 9 (rowsF fs))], .agg (s.row.map .p)] τ = some (.b (defS1 vs as fs s), τ) := by
  have h2 := szS_eq s
  have h3 := szEs_len s.args
  obtain ⟨i1, i2⟩ := defS_loop (go T) vs as s cv ca pA (slP nl 9 (rowsF fs)) τ hv ha (by omega) (fun k hk τ => defE_eq H vs as hvs has cv ca pA _ k (by have := szEs_mem hk; omega) τ)
  simp only [Int.ofNat_zero] at i1 i2
  have q1 := hv.cell
  have q2 := ha.cell
  have c1 := fun L => contains_sv H.contains (hv.app L) hvs s.name
  have c2 := fun L => contains_sv H.contains (ha.app L) has s.name
  have d1 := fun L => defE_eq H vs as hvs has cv ca pA (slP nl 9 (rowsF fs)) s.at_ (by omega) (τ ++ L) (hv.app L) (ha.app L)
  have d2 := fun L => defE_eq H vs as hvs has cv ca pA (slP nl 9 (rowsF fs)) s.val (by omega) (τ ++ L) (hv.app L) (ha.app L)
  have f1 := fun τ => find_eq H s.to pA nl fs hfs τ
  have hlv := fun L x => leave_pL τ L x
  have hfn := findL_nonneg fs s.to
  rw [go_eq, H.defS]
  unfold defS1
  obtain ⟨ka, na, sa, oa, va, kv, nv, sv, ov, vv, ha', hv', hr⟩ := s.row17
  simp only [SB, SCB, hr, ha', hv', List.map] at i1 i2 d1 d2 ⊢
  cases hall : s.args.all (defE vs as) with
  | false =>
    obtain ⟨L, j⟩ := i2 hall
    simp only [List.append_assoc, List.cons_append, List.nil_append] at j
    simp [go_sem, sf_r3_scope_definedStmt, j, hlv, q1, q2, -Bool.exists_bool]
  | true =>
    have j := i1 hall
    rw [body_cut 2 rfl _ _ _ rfl]
    have pre : ∃ tm, evS sf_r3_scope_definedStmt.fl (go T) (preS 2 sf_r3_scope_definedStmt.code) (tmS [.agg [cv, ca, .p pA, .p (slP nl 9 (rowsF fs))], .agg [.p (.int .i64 s.kind), .p (.str s.name), .p (.str s.to), .p (.int .i64 s.n), .p (.int .i64 ka), .p (.int .i64 na), .p (.str sa), .p (.int .i64 oa), .p va, .p (.int .i64 kv), .p (.int .i64 nv), .p (.str sv), .p (.int .i64 ov), .p vv, .p (slP s.anl 5 (rowsE s.args)), .p (slP s.tnl 17 (rowsS s.th)), .p (slP s.enl 17 (rowsS s.el))]] 0) τ = some (.normal, tm, τ ++ [⟨[cv, ca, .p pA, .p (slP nl 9 (rowsF fs))], .live, 4, true⟩, ⟨[.p (.int .i64 s.kind), .p (.str s.name), .p (.str s.to), .p (.int .i64 s.n), .p (.int .i64 ka), .p (.int .i64 na), .p (.str sa), .p (.int .i64 oa), .p va, .p (.int .i64 kv), .p (.int .i64 nv), .p (.str sv), .p (.int .i64 ov), .p vv, .p (slP s.anl 5 (rowsE s.args)), .p (slP s.tnl 17 (rowsS s.th)), .p (slP s.enl 17 (rowsS s.el))], .live, 17, true⟩]) ∧ look 2 tm = some (.ptr τ.length 4 0) ∧ look 3 tm = some (.ptr (τ.length + 1) 17 0) := by
      refine ⟨[(2, .ptr τ.length 4 0), (3, .ptr (τ.length + 1) 17 0), (5, .i (s.args.length : Nat)), (10, .b false)], ?_, rfl, rfl⟩
      simp [go_sem, sf_r3_scope_definedStmt, preS, j, q1, q2, -Bool.exists_bool]
    obtain ⟨tm, p1, t2, t3⟩ := pre
    rw [p1]
    clear p1 i1 i2 j
    by_cases qa : defE vs as s.at_ = true
    · by_cases qv : defE vs as s.val = true
      · by_cases k1 : s.kind = 1
        · by_cases qn : s.name ∈ vs
          · simp [go_sem, sf_r3_scope_definedStmt, postS, t2, t3, hlv, shapeD, k1, qa, qv, qn, d1, d2, c1, -Bool.exists_bool]
          · simp [go_sem, sf_r3_scope_definedStmt, postS, t2, t3, hlv, shapeD, k1, qa, qv, qn, d1, d2, c1, -Bool.exists_bool]
        by_cases k6 : s.kind = 6
        · by_cases qn : s.name ∈ vs
          · by_cases qf : findB fs s.to = true
            · have qfi : 0 ≤ findL fs s.to := hfn.2 qf
              simp [go_sem, sf_r3_scope_definedStmt, postS, t2, t3, hlv, shapeD, k1, k6, qa, qv, qn, qf, d1, d2, c1, f1, qfi, -Bool.exists_bool]
            · have qfi : ¬ 0 ≤ findL fs s.to := fun e => qf (hfn.1 e)
              simp [go_sem, sf_r3_scope_definedStmt, postS, t2, t3, hlv, shapeD, k1, k6, qa, qv, qn, qf, d1, d2, c1, f1, qfi, -Bool.exists_bool]
          · simp [go_sem, sf_r3_scope_definedStmt, postS, t2, t3, hlv, shapeD, k1, k6, qa, qv, qn, d1, d2, c1, -Bool.exists_bool]
        by_cases k2 : s.kind = 2
        · by_cases qm : s.name ∈ as
          · simp [go_sem, sf_r3_scope_definedStmt, postS, t2, t3, hlv, shapeD, k1, k6, k2, qa, qv, qm, d1, d2, c2, -Bool.exists_bool]
          · simp [go_sem, sf_r3_scope_definedStmt, postS, t2, t3, hlv, shapeD, k1, k6, k2, qa, qv, qm, d1, d2, c2, -Bool.exists_bool]
        simp [go_sem, sf_r3_scope_definedStmt, postS, t2, t3, hlv, shapeD, k1, k6, k2, qa, qv, d1, d2, -Bool.exists_bool]
      · simp [go_sem, sf_r3_scope_definedStmt, postS, t2, t3, hlv, shapeD, qa, qv, d1, d2, -Bool.exists_bool]
    · simp [go_sem, sf_r3_scope_definedStmt, postS, t2, t3, hlv, shapeD, qa, d1, -Bool.exists_bool]
mutual
def chkS (vs as : List Str) (fs : List LF) (cnt : Bool) : LS → Bool
  | .mk k s t n a v anl ar tnl th enl el => (if cnt then (!decide (k = 6) || decide (ar.length = ((findAt t fs).bind fun i => fs[i]?.map fun f => f.params.length).getD 0)) else defS1 vs as fs (.mk k s t n a v anl ar tnl th enl el)) && (chkSs vs as fs cnt th && chkSs vs as fs cnt el)
def chkSs (vs as : List Str) (fs : List LF) (cnt : Bool) : List LS → Bool
  | [] => true
  | s :: r => chkS vs as fs cnt s && chkSs vs as fs cnt r
end
def arityB (fs : List LF) (s : LS) : Bool := !decide (s.kind = 6) || decide (s.args.length = ((findAt s.to fs).bind fun i => fs[i]?.map fun f => f.params.length).getD 0)
theorem chkS_eq (vs as : List Str) (fs : List LF) (cnt : Bool) (s : LS) : chkS vs as fs cnt s = ((if cnt then arityB fs s else defS1 vs as fs s) && (chkSs vs as fs cnt s.th && chkSs vs as fs cnt s.el)) := by cases s; rfl
theorem chkSs_all (vs as : List Str) (fs : List LF) (cnt : Bool) : ∀ l : List LS, chkSs vs as fs cnt l = l.all (chkS vs as fs cnt)
  | [] => rfl
  | e :: es => by simp [chkSs, chkSs_all vs as fs cnt es]
theorem findAt_at {s : Str} : ∀ {fs : List LF} {i : Nat}, findAt s fs = some i → ∃ f, fs[i]? = some f ∧ f.name = s
  | f :: r, i, h => by
    by_cases q : f.name = s
    · simp only [findAt, if_pos q, Option.some.injEq] at h
      subst h
      exact ⟨f, rfl, q⟩
    · simp only [findAt, if_neg q, Option.map_eq_some_iff] at h
      obtain ⟨j, hj, rfl⟩ := h
      obtain ⟨g, h1, h2⟩ := findAt_at hj
      exact ⟨g, by simpa using h1, h2⟩
theorem defS1_call {vs as : List Str} {fs : List LF} {s : LS} (h : defS1 vs as fs s = true) (hk : s.kind = 6) : ∃ i f, findAt s.to fs = some i ∧ fs[i]? = some f := by
  unfold defS1 shapeD at h
  rw [hk] at h
  simp [findB, Option.isSome_iff_exists] at h
  obtain ⟨i, hi⟩ := h.2.2.2.2
  obtain ⟨f, hf, _⟩ := findAt_at hi
  exact ⟨i, f, hi, hf⟩
theorem chk_loop (call : Call2) (vs as : List Str) (cnt : Bool) (nl fnl : Option Bool) (l : List LS) (fs : List LF) (cv ca : C) (pA : PV) (τ : St2) (hv : SV τ cv vs) (ha : SV τ ca as) (hsz : l.length ≤ big) (_hfs : fs.length ≤ big)
    (hfind : ∀ (s : Str) (τ : St2), call F_r3_FindFunc [.agg [.p pA, .p (slP fnl 9 (rowsF fs))], .s s] τ = some (.i (findL fs s), τ))
    (hk : ∀ s, s ∈ l → (cnt = true → defS1 vs as fs s = true) ∧ s.args.length ≤ big ∧ (∀ τ, SV τ cv vs → SV τ ca as → call F_r3_scope_definedStmt [.agg [cv, ca, .p pA, .p (slP fnl 9 (rowsF fs))], .agg (s.row.map .p)] τ = some (.b (defS1 vs as fs s), τ)) ∧
      (∀ τ, SV τ cv vs → SV τ ca as → call F_r3_scope_checkStmts [.agg [cv, ca, .p pA, .p (slP fnl 9 (rowsF fs))], .p (slP s.tnl 17 (rowsS s.th)), .b cnt] τ = some (.b (chkSs vs as fs cnt s.th), τ)) ∧ (∀ τ, SV τ cv vs → SV τ ca as → call F_r3_scope_checkStmts [.agg [cv, ca, .p pA, .p (slP fnl 9 (rowsF fs))], .p (slP s.enl 17 (rowsS s.el)), .b cnt] τ = some (.b (chkSs vs as fs cnt s.el), τ))) :
    (l.all (chkS vs as fs cnt) = true → Loop (round [1, 2, 3, 7] (evS ⟨fun _ => false, false⟩ call lb_r3_scope_checkStmts_0)) [(1, .p (slP nl 17 (rowsS l))), (2, .b cnt), (3, .ptr τ.length 4 0), (7, .i (0 : Nat))] (τ ++ [SCB cv ca pA (slP fnl 9 (rowsF fs))]) = some (.exit 0, [(1, .p (slP nl 17 (rowsS l))), (2, .b cnt), (3, .ptr τ.length 4 0), (7, .i (l.length : Nat)), (12, .b false)], τ ++ [SCB cv ca pA (slP fnl 9 (rowsF fs))])) ∧
    (l.all (chkS vs as fs cnt) = false → ∃ L, Loop (round [1, 2, 3, 7] (evS ⟨fun _ => false, false⟩ call lb_r3_scope_checkStmts_0)) [(1, .p (slP nl 17 (rowsS l))), (2, .b cnt), (3, .ptr τ.length 4 0), (7, .i (0 : Nat))] (τ ++ [SCB cv ca pA (slP fnl 9 (rowsF fs))]) = some (.ret, [(6, .b false)], (τ ++ [SCB cv ca pA (slP fnl 9 (rowsF fs))]) ++ L)) := by
  have hl := rowsS_lengths l
  have hbig : 100 ≤ big := by decide
  have o1 := hv.ok
  have o2 := ha.ok
  have htr : ∀ (tm : Tm) (B : B2) (L : St2), tmB (τ.length + 1) tm = true → trunc tm (τ ++ [B]) (τ ++ B :: L) = τ ++ [B] := fun tm B L h => trunc1 h
  have key : ∀ done s rest, done ++ s :: rest = l → (chkS vs as fs cnt s = true → round [1, 2, 3, 7] (evS ⟨fun _ => false, false⟩ call lb_r3_scope_checkStmts_0) [(1, .p (slP nl 17 (rowsS l))), (2, .b cnt), (3, .ptr τ.length 4 0), (7, .i (done.length : Nat))] (τ ++ [SCB cv ca pA (slP fnl 9 (rowsF fs))]) = some (.normal, [(1, .p (slP nl 17 (rowsS l))), (2, .b cnt), (3, .ptr τ.length 4 0), (7, .i ((done.length + 1 : Nat) : Int))], τ ++ [SCB cv ca pA (slP fnl 9 (rowsF fs))])) ∧
      (chkS vs as fs cnt s = false → round [1, 2, 3, 7] (evS ⟨fun _ => false, false⟩ call lb_r3_scope_checkStmts_0) [(1, .p (slP nl 17 (rowsS l))), (2, .b cnt), (3, .ptr τ.length 4 0), (7, .i (done.length : Nat))] (τ ++ [SCB cv ca pA (slP fnl 9 (rowsF fs))]) = some (.ret, [(6, .b false)], τ ++ [SCB cv ca pA (slP fnl 9 (rowsF fs)), SB s])) := by
    intro done s rest hd
    have hlt : done.length < l.length := by rw [← hd]; simp
    have hat := rowsS_at' hd
    obtain ⟨m0, m1, m2, m3, m4⟩ := hk s (by rw [← hd]; simp)
    have m2 := fun L => m2 (τ ++ L) (hv.app L) (ha.app L)
    have m3 := fun L => m3 (τ ++ L) (hv.app L) (ha.app L)
    have m4 := fun L => m4 (τ ++ L) (hv.app L) (ha.app L)
    have hw := wrap_b (n := done.length + 1) (by omega)
    simp only [Int.natCast_add, Int.natCast_one] at hw
    have hce := chkS_eq vs as fs cnt s
    obtain ⟨ka, na, sa, oa, va, kv, nv, sv, ov, vv, ha', hv', hr⟩ := s.row17
    simp only [hr, SB, SCB, List.map] at m2 hat ⊢
    have hat2 := at2 hat
    have hla := rowsE_lengths s.args
    rw [hce]
    cases cnt with
    | false =>
      simp only [Bool.false_eq_true, if_false]
      by_cases qd : defS1 vs as fs s = true
      · by_cases qt : chkSs vs as fs false s.th = true
        · by_cases qe : chkSs vs as fs false s.el = true
          · refine ⟨fun _ => ?_, fun h => ?_⟩
            · simp [go_sem, lb_r3_scope_checkStmts_0, hl, hlt, hat, hat2, hw, htr, tmB, refsB, o1, o2, qd, qt, qe, m2, m3, m4, -Bool.exists_bool]
            · simp [qd, qt, qe] at h
          · refine ⟨fun h => ?_, fun _ => ?_⟩
            · simp [qd, qt, qe] at h
            · simp [go_sem, lb_r3_scope_checkStmts_0, hl, hlt, hat, hat2, hw, htr, tmB, refsB, o1, o2, qd, qt, qe, m2, m3, m4, -Bool.exists_bool]
        · refine ⟨fun h => ?_, fun _ => ?_⟩
          · simp [qd, qt] at h
          · simp [go_sem, lb_r3_scope_checkStmts_0, hl, hlt, hat, hat2, hw, htr, tmB, refsB, o1, o2, qd, qt, m2, m3, -Bool.exists_bool]
      · refine ⟨fun h => ?_, fun _ => ?_⟩
        · simp [qd] at h
        · simp [go_sem, lb_r3_scope_checkStmts_0, hl, hlt, hat, hat2, hw, htr, tmB, refsB, o1, o2, qd, m2, -Bool.exists_bool]
    | true =>
      simp only [if_true]
      by_cases k6 : s.kind = 6
      · obtain ⟨i, f, hi, hf⟩ := defS1_call (m0 rfl) k6
        have hfl : findL fs s.to = (i : Int) := by unfold findL; rw [hi]
        have hfn : ∀ τ, call F_r3_FindFunc [.agg [.p pA, .p (slP fnl 9 (rowsF fs))], .s s.to] τ = some (.i (i : Nat), τ) := fun τ => by rw [hfind, hfl]
        have hfa : (rowsF fs)[i]? = some f.row := by simp [rowsF, hf]
        obtain ⟨kv', nv', sv', ov', vv', hv', hr'⟩ := f.row9
        rw [hr'] at hfa
        have hfa2 := at2 hfa
        have hlf : (rowsF fs).length = fs.length := by simp [rowsF]
        have hfi : i < fs.length := (List.getElem?_eq_some_iff.1 hf).1
        have hlp : (rowsN f.params).length = f.params.length := by simp [rowsN]
        have ar : arityB fs s = decide (s.args.length = f.params.length) := by simp [arityB, k6, hi, hf]
        rw [ar]
        by_cases qn : s.args.length = f.params.length
        · have qni : (s.args.length : Int) = (f.params.length : Int) := by omega
          by_cases qt : chkSs vs as fs true s.th = true
          · by_cases qe : chkSs vs as fs true s.el = true
            · refine ⟨fun _ => ?_, fun h => ?_⟩
              · simp [go_sem, lb_r3_scope_checkStmts_0, hl, hlt, hat, hat2, hw, htr, tmB, refsB, o1, o2, k6, hla, hfn, hfa, hfa2, hlf, hfi, hlp, qn, qni, qt, qe, m3, m4, -Bool.exists_bool]
              · simp [qt, qe, qn] at h
            · refine ⟨fun h => ?_, fun _ => ?_⟩
              · simp [qt, qe] at h
              · simp [go_sem, lb_r3_scope_checkStmts_0, hl, hlt, hat, hat2, hw, htr, tmB, refsB, o1, o2, k6, hla, hfn, hfa, hfa2, hlf, hfi, hlp, qn, qni, qt, qe, m3, m4, -Bool.exists_bool]
          · refine ⟨fun h => ?_, fun _ => ?_⟩
            · simp [qt] at h
            · simp [go_sem, lb_r3_scope_checkStmts_0, hl, hlt, hat, hat2, hw, htr, tmB, refsB, o1, o2, k6, hla, hfn, hfa, hfa2, hlf, hfi, hlp, qn, qni, qt, m3, -Bool.exists_bool]
        · have qni : ¬ (s.args.length : Int) = (f.params.length : Int) := by omega
          refine ⟨fun h => ?_, fun _ => ?_⟩
          · simp [qn] at h
          · simp [go_sem, lb_r3_scope_checkStmts_0, hl, hlt, hat, hat2, hw, htr, tmB, refsB, o1, o2, k6, hla, hfn, hfa, hfa2, hlf, hfi, hlp, qn, qni, -Bool.exists_bool]
      · have ar : arityB fs s = true := by simp [arityB, k6]
        rw [ar]
        by_cases qt : chkSs vs as fs true s.th = true
        · by_cases qe : chkSs vs as fs true s.el = true
          · refine ⟨fun _ => ?_, fun h => ?_⟩
            · simp [go_sem, lb_r3_scope_checkStmts_0, hl, hlt, hat, hat2, hw, htr, tmB, refsB, o1, o2, k6, qt, qe, m3, m4, -Bool.exists_bool]
            · simp [qt, qe] at h
          · refine ⟨fun h => ?_, fun _ => ?_⟩
            · simp [qt, qe] at h
            · simp [go_sem, lb_r3_scope_checkStmts_0, hl, hlt, hat, hat2, hw, htr, tmB, refsB, o1, o2, k6, qt, qe, m3, m4, -Bool.exists_bool]
        · refine ⟨fun h => ?_, fun _ => ?_⟩
          · simp [qt] at h
          · simp [go_sem, lb_r3_scope_checkStmts_0, hl, hlt, hat, hat2, hw, htr, tmB, refsB, o1, o2, k6, qt, m3, -Bool.exists_bool]
  refine search0 (E := fun i => [(1, .p (slP nl 17 (rowsS l))), (2, .b cnt), (3, .ptr τ.length 4 0), (7, .i (i : Nat))]) (fun done k rest hd hp => ?_) (fun done k rest hd hp => ⟨[SB k], ?_⟩) ?_
  · exact (key done k rest hd).1 hp
  · rw [(key done k rest hd).2 hp]; simp
  · simp only [SCB]
    simp [go_sem, lb_r3_scope_checkStmts_0, hl, -Bool.exists_bool]
theorem chk_eq (H : HScope T) (vs as : List Str) (cnt : Bool) (hvs : vs.length ≤ big) (has : as.length ≤ big) (cv ca : C) (pA : PV) (fnl : Option Bool) (fs : List LF) (hfs : fs.length ≤ big) : ∀ (l : List LS) (nl : Option Bool), szSs l ≤ big → (cnt = true → chkSs vs as fs false l = true) → ∀ τ, SV τ cv vs → SV τ ca as → go T F_r3_scope_checkStmts [.agg [cv, ca, .p pA, .p (slP fnl 9 (rowsF fs))], .p (slP nl 17 (rowsS l)), .b cnt] τ = some (.b (chkSs vs as fs cnt l), τ) := LSs.ind fun l ih nl hs hd τ hv ha => by
  have hlen := szSs_len l
  have hdd : ∀ s, s ∈ l → cnt = true → defS1 vs as fs s = true ∧ chkSs vs as fs false s.th = true ∧ chkSs vs as fs false s.el = true := fun s hm hc => by
    have := hd hc
    rw [chkSs_all, List.all_eq_true] at this
    have := this s hm
    rw [chkS_eq] at this
    simpa using this
  obtain ⟨h1, h2⟩ := chk_loop (go T) vs as cnt nl fnl l fs cv ca pA τ hv ha (by omega) hfs (fun s τ => find_eq H s pA fnl fs hfs τ) (fun s hm => by
    have h1 := szSs_mem hm
    have h2 := szS_eq s
    have h3 := szEs_len s.args
    exact ⟨fun hc => (hdd s hm hc).1, by omega, fun τ hv ha => defS_eq H vs as hvs has cv ca pA fnl fs hfs s (by omega) τ hv ha, fun τ hv ha => (ih s hm).1 _ (by omega) (fun hc => (hdd s hm hc).2.1) τ hv ha, fun τ hv ha => (ih s hm).2 _ (by omega) (fun hc => (hdd s hm hc).2.2) τ hv ha⟩)
  simp only [Int.ofNat_zero, SCB] at h1 h2
  have i1 := hv.cell
  have i2 := ha.cell
  have hlv := fun L x => leave_pL τ L x
  rw [go_eq, H.check, chkSs_all]
  cases hall : l.all (chkS vs as fs cnt) with
  | true =>
    have h1 := h1 hall
    simp [go_sem, sf_r3_scope_checkStmts, h1, hlv, i1, i2, -Bool.exists_bool]
  | false =>
    obtain ⟨L, h2⟩ := h2 hall
    simp only [List.append_assoc, List.cons_append, List.nil_append] at h2
    simp [go_sem, sf_r3_scope_checkStmts, h2, hlv, i1, i2, -Bool.exists_bool]
end
def PB2 (p : LP) : B2 := ⟨[.p (slP p.anl 2 (rowsA p.arrays)), .p (slP p.fnl 9 (rowsF p.funcs))], .live, 2, true⟩
def FB (f : LF) : B2 := ⟨f.row.map .p, .live, 9, true⟩
def limF (f : LF) : Bool := decide (6 < f.params.length) || (decide (8 < f.locals.length) || (decide (200 < nSs f.body) || (decide (16 < wSs f.body) || (decide (20 < dSs 0 f.body) || (deepSs f.body || decide (20 < depthL f.value))))))
def okA (a : Str × Int) : Bool := decide (1 ≤ a.2) && decide (a.2 ≤ 16)
def limP (p : LP) : Bool := decide (4 < p.arrays.length) || (decide (8 < p.funcs.length) || (!p.arrays.all okA || !p.funcs.all fun f => !limF f))
def szF (f : LF) : Nat := 1 + f.name.length + f.params.length + (f.params.map List.length).sum + f.locals.length + (f.locals.map List.length).sum + szSs f.body + szE f.value
def szP (p : LP) : Nat := (p.arrays.map fun a => 1 + a.1.length).sum + (p.funcs.map szF).sum
theorem sum_mem {α : Type} (g : α → Nat) : ∀ {l : List α} {x : α}, x ∈ l → g x ≤ (l.map g).sum
  | y :: l, x, h => by
    rcases List.mem_cons.1 h with rfl | h
    · simp
    · have := sum_mem g h; simp; omega
theorem sum_len {α : Type} (g : α → Nat) (hg : ∀ x, 1 ≤ g x) : ∀ l : List α, l.length ≤ (l.map g).sum
  | [] => by simp
  | x :: l => by have := sum_len g hg l; have := hg x; simp; omega
theorem szP_fn {p : LP} {f : LF} (h : f ∈ p.funcs) : szF f ≤ szP p := by have := sum_mem szF h; unfold szP; omega
theorem szP_ar {p : LP} {a : Str × Int} (h : a ∈ p.arrays) : a.1.length ≤ szP p := by have : 1 + a.1.length ≤ _ := sum_mem (fun a : Str × Int => 1 + a.1.length) h; unfold szP; omega
theorem szP_len (p : LP) : p.arrays.length ≤ szP p ∧ p.funcs.length ≤ szP p := by
  have h1 := sum_len (fun a : Str × Int => 1 + a.1.length) (fun x => by omega) p.arrays
  have h2 := sum_len szF (fun x => by unfold szF; omega) p.funcs
  unfold szP
  omega
theorem rowsA_at {done rest l : List (Str × Int)} {s : Str × Int} (hd : done ++ s :: rest = l) : (rowsA l)[done.length]? = some [.str s.1, .int .i64 s.2] := by
  rw [← hd]; unfold rowsA; rw [List.map_append, List.map_cons]; have := at_mid (done.map fun a : Str × Int => [PV.str a.1, PV.int .i64 a.2]) (rest.map fun a => [.str a.1, .int .i64 a.2]) [.str s.1, .int .i64 s.2]; rwa [List.length_map] at this
section
variable {T : FuncId → Option SF}
structure HLim (T : FuncId → Option SF) : Prop where
  depth : T F_r3_depth = some sf_r3_depth
  count : T F_r3_countStmts = some sf_r3_countStmts
  deep : T F_r3_tooDeep = some sf_r3_tooDeep
  lim : T F_r3_exceedsLimits = some sf_r3_exceedsLimits
theorem limA_loop (call : Call2) (p : LP) (τ : St2) (hsz : p.arrays.length ≤ big) :
    (p.arrays.all okA = true → Loop (round [1, 3] (evS ⟨fun _ => false, false⟩ call lb_r3_exceedsLimits_0)) [(1, .ptr τ.length 2 0), (3, .i (0 : Nat))] (τ ++ [PB2 p]) = some (.exit 0, [(1, .ptr τ.length 2 0), (3, .i (p.arrays.length : Nat)), (23, .b false)], τ ++ [PB2 p])) ∧
    (p.arrays.all okA = false → ∃ L, Loop (round [1, 3] (evS ⟨fun _ => false, false⟩ call lb_r3_exceedsLimits_0)) [(1, .ptr τ.length 2 0), (3, .i (0 : Nat))] (τ ++ [PB2 p]) = some (.ret, [(2, .b true)], (τ ++ [PB2 p]) ++ L)) := by
  have hl : (rowsA p.arrays).length = p.arrays.length := by simp [rowsA]
  have hbig : 100 ≤ big := by decide
  simp only [PB2]
  refine search0 (E := fun i => [(1, .ptr τ.length 2 0), (3, .i (i : Nat))]) (fun done k rest hd hp => ?_) (fun done k rest hd hp => ⟨[], ?_⟩) ?_
  · have hlt : done.length < p.arrays.length := by rw [← hd]; simp
    have hat := rowsA_at hd
    have hat2 := at2 hat
    have hw := wrap_b (n := done.length + 1) (by omega)
    simp only [Int.natCast_add, Int.natCast_one] at hw
    have h1 : ¬ k.2 < 1 := by simp [okA] at hp; omega
    have h2 : ¬ 16 < k.2 := by simp [okA] at hp; omega
    simp [go_sem, lb_r3_exceedsLimits_0, hl, hlt, hat, hat2, hw, h1, h2, -Bool.exists_bool]
  · have hlt : done.length < p.arrays.length := by rw [← hd]; simp
    have hat := rowsA_at hd
    have hat2 := at2 hat
    by_cases h1 : k.2 < 1
    · simp [go_sem, lb_r3_exceedsLimits_0, hl, hlt, hat, hat2, h1, -Bool.exists_bool]
    · have h2 : 16 < k.2 := by
        have hp' : ¬ okA k = true := by rw [hp]; exact fun e => by cases e
        simp only [okA, Bool.and_eq_true, decide_eq_true_eq] at hp'
        omega
      simp [go_sem, lb_r3_exceedsLimits_0, hl, hlt, hat, hat2, h1, h2, -Bool.exists_bool]
  · simp [go_sem, lb_r3_exceedsLimits_0, hl, -Bool.exists_bool]
theorem limF_loop (call : Call2) (p : LP) (τ : St2) (hsz : p.funcs.length ≤ big)
    (hk : ∀ f, f ∈ p.funcs → (∀ τ, call F_r3_countStmts [.p (slP f.bnl 17 (rowsS f.body)), .i 0] τ = some (.tup [.i (nSs f.body), .i (wSs f.body), .i (dSs 0 f.body)], τ)) ∧ (∀ τ, call F_r3_tooDeep [.p (slP f.bnl 17 (rowsS f.body))] τ = some (.b (deepSs f.body), τ)) ∧ (∀ τ, call F_r3_depth [.agg (f.value.row.map .p)] τ = some (.i (depthL f.value), τ))) :
    (p.funcs.all (fun f => !limF f) = true → Loop (round [1, 4] (evS ⟨fun _ => false, false⟩ call lb_r3_exceedsLimits_1)) [(1, .ptr τ.length 2 0), (4, .i (0 : Nat))] (τ ++ [PB2 p]) = some (.exit 2, [(1, .ptr τ.length 2 0), (4, .i (p.funcs.length : Nat)), (46, .b false)], τ ++ [PB2 p])) ∧
    (p.funcs.all (fun f => !limF f) = false → ∃ L, Loop (round [1, 4] (evS ⟨fun _ => false, false⟩ call lb_r3_exceedsLimits_1)) [(1, .ptr τ.length 2 0), (4, .i (0 : Nat))] (τ ++ [PB2 p]) = some (.ret, [(2, .b true)], (τ ++ [PB2 p]) ++ L)) := by
  have hl : (rowsF p.funcs).length = p.funcs.length := by simp [rowsF]
  have hbig : 100 ≤ big := by decide
  have htr : ∀ (tm : Tm) (B : B2) (L : St2), tmB (τ.length + 1) tm = true → trunc tm (τ ++ [B]) (τ ++ B :: L) = τ ++ [B] := fun tm B L h => trunc1 h
  have key : ∀ done f rest, done ++ f :: rest = p.funcs → (limF f = false → round [1, 4] (evS ⟨fun _ => false, false⟩ call lb_r3_exceedsLimits_1) [(1, .ptr τ.length 2 0), (4, .i (done.length : Nat))] (τ ++ [PB2 p]) = some (.normal, [(1, .ptr τ.length 2 0), (4, .i ((done.length + 1 : Nat) : Int))], τ ++ [PB2 p])) ∧
      (limF f = true → round [1, 4] (evS ⟨fun _ => false, false⟩ call lb_r3_exceedsLimits_1) [(1, .ptr τ.length 2 0), (4, .i (done.length : Nat))] (τ ++ [PB2 p]) = some (.ret, [(2, .b true)], τ ++ [PB2 p, FB f])) := by
    intro done f rest hd
    have hlt : done.length < p.funcs.length := by rw [← hd]; simp
    have hat := rowsF_at hd
    obtain ⟨m1, m2, m3⟩ := hk f (by rw [← hd]; simp)
    have hw := wrap_b (n := done.length + 1) (by omega)
    simp only [Int.natCast_add, Int.natCast_one] at hw
    obtain ⟨kv, nv, sv, ov, vv, hv, hr⟩ := f.row9
    simp only [hr, hv, FB, PB2, List.map] at m3 hat ⊢
    have hat2 := at2 hat
    have l1 : (rowsN f.params).length = f.params.length := by simp [rowsN]
    have l2 : (rowsN f.locals).length = f.locals.length := by simp [rowsN]
    unfold limF
    by_cases q1 : (6 : Int) < (f.params.length : Int)
    · have q1n : 6 < f.params.length := by omega
      refine ⟨fun h => ?_, fun _ => ?_⟩
      · simp [q1n] at h
      · simp [go_sem, lb_r3_exceedsLimits_1, hl, hlt, hat, hat2, hw, htr, tmB, refsB, l1, l2, m1, m2, m3, extC, q1, q1n, -Bool.exists_bool]
    · have q1n : ¬ 6 < f.params.length := by omega
      by_cases q2 : (8 : Int) < (f.locals.length : Int)
      · have q2n : 8 < f.locals.length := by omega
        refine ⟨fun h => ?_, fun _ => ?_⟩
        · simp [q1n, q2n] at h
        · simp [go_sem, lb_r3_exceedsLimits_1, hl, hlt, hat, hat2, hw, htr, tmB, refsB, l1, l2, m1, m2, m3, extC, q1, q2, q1n, q2n, -Bool.exists_bool]
      · have q2n : ¬ 8 < f.locals.length := by omega
        by_cases q3 : (200 : Int) < (nSs f.body : Int)
        · have q3n : 200 < nSs f.body := by omega
          refine ⟨fun h => ?_, fun _ => ?_⟩
          · simp [q1n, q2n, q3n] at h
          · simp [go_sem, lb_r3_exceedsLimits_1, hl, hlt, hat, hat2, hw, htr, tmB, refsB, l1, l2, m1, m2, m3, extC, q1, q2, q3, q1n, q2n, q3n, -Bool.exists_bool]
        · have q3n : ¬ 200 < nSs f.body := by omega
          by_cases q4 : (16 : Int) < (wSs f.body : Int)
          · have q4n : 16 < wSs f.body := by omega
            refine ⟨fun h => ?_, fun _ => ?_⟩
            · simp [q1n, q2n, q3n, q4n] at h
            · simp [go_sem, lb_r3_exceedsLimits_1, hl, hlt, hat, hat2, hw, htr, tmB, refsB, l1, l2, m1, m2, m3, extC, q1, q2, q3, q4, q1n, q2n, q3n, q4n, -Bool.exists_bool]
          · have q4n : ¬ 16 < wSs f.body := by omega
            by_cases q5 : (20 : Int) < (dSs 0 f.body : Int)
            · have q5n : 20 < dSs 0 f.body := by omega
              refine ⟨fun h => ?_, fun _ => ?_⟩
              · simp [q1n, q2n, q3n, q4n, q5n] at h
              · simp [go_sem, lb_r3_exceedsLimits_1, hl, hlt, hat, hat2, hw, htr, tmB, refsB, l1, l2, m1, m2, m3, extC, q1, q2, q3, q4, q5, q1n, q2n, q3n, q4n, q5n, -Bool.exists_bool]
            · have q5n : ¬ 20 < dSs 0 f.body := by omega
              by_cases q6 : deepSs f.body = true
              · refine ⟨fun h => ?_, fun _ => ?_⟩
                · simp [q6, q1n, q2n, q3n, q4n, q5n] at h
                · simp [go_sem, lb_r3_exceedsLimits_1, hl, hlt, hat, hat2, hw, htr, tmB, refsB, l1, l2, m1, m2, m3, extC, q1, q2, q3, q4, q5, q6, q1n, q2n, q3n, q4n, q5n, -Bool.exists_bool]
              · by_cases q7 : (20 : Int) < (depthL f.value : Int)
                · have q7n : 20 < depthL f.value := by omega
                  refine ⟨fun h => ?_, fun _ => ?_⟩
                  · simp [q6, q1n, q2n, q3n, q4n, q5n, q7n] at h
                  · simp [go_sem, lb_r3_exceedsLimits_1, hl, hlt, hat, hat2, hw, htr, tmB, refsB, l1, l2, m1, m2, m3, extC, q1, q2, q3, q4, q5, q6, q7, q1n, q2n, q3n, q4n, q5n, q7n, -Bool.exists_bool]
                · have q7n : ¬ 20 < depthL f.value := by omega
                  refine ⟨fun _ => ?_, fun h => ?_⟩
                  · simp [go_sem, lb_r3_exceedsLimits_1, hl, hlt, hat, hat2, hw, htr, tmB, refsB, l1, l2, m1, m2, m3, extC, q1, q2, q3, q4, q5, q6, q7, q1n, q2n, q3n, q4n, q5n, q7n, -Bool.exists_bool]
                  · simp [q6, q1n, q2n, q3n, q4n, q5n, q7n] at h
  refine search0 (E := fun i => [(1, .ptr τ.length 2 0), (4, .i (i : Nat))]) (fun done k rest hd hp => ?_) (fun done k rest hd hp => ⟨[FB k], ?_⟩) ?_
  · exact (key done k rest hd).1 (by simpa using hp)
  · rw [(key done k rest hd).2 (by simpa using hp)]; simp
  · simp only [PB2]
    simp [go_sem, lb_r3_exceedsLimits_1, hl, -Bool.exists_bool]
theorem lim_eq (H : HLim T) (p : LP) (hs : szP p ≤ big) (τ : St2) : go T F_r3_exceedsLimits [.agg (p.row.map .p)] τ = some (.b (limP p), τ) := by
  have hlen := szP_len p
  obtain ⟨a1, a2⟩ := limA_loop (go T) p τ (by omega)
  obtain ⟨f1, f2⟩ := limF_loop (go T) p τ (by omega) (fun f hf => by
    have h1 := szP_fn hf
    have h2 : szSs f.body + szE f.value ≤ szF f := by unfold szF; omega
    exact ⟨fun τ => by simpa using count_eq H.count f.body f.bnl 0 (by omega) τ, tooDeep_eq H.depth H.deep f.body f.bnl (by omega), depth_eq H.depth f.value (by omega)⟩)
  simp only [PB2, Int.ofNat_zero] at a1 a2 f1 f2
  have l1 : (rowsA p.arrays).length = p.arrays.length := by simp [rowsA]
  have l2 : (rowsF p.funcs).length = p.funcs.length := by simp [rowsF]
  have hlv := fun L x => leave_pL τ L x
  rw [go_eq, H.lim]
  unfold limP
  by_cases q1 : 4 < p.arrays.length
  · have q1i : (4 : Int) < (p.arrays.length : Int) := by omega
    simp [go_sem, sf_r3_exceedsLimits, LP.row, l1, l2, hlv, q1, q1i, -Bool.exists_bool]
  · have q1i : ¬ (4 : Int) < (p.arrays.length : Int) := by omega
    by_cases q2 : 8 < p.funcs.length
    · have q2i : (8 : Int) < (p.funcs.length : Int) := by omega
      simp [go_sem, sf_r3_exceedsLimits, LP.row, l1, l2, hlv, q1, q1i, q2, q2i, -Bool.exists_bool]
    · have q2i : ¬ (8 : Int) < (p.funcs.length : Int) := by omega
      cases ha : p.arrays.all okA with
      | false =>
        obtain ⟨L, a2⟩ := a2 ha
        simp only [List.append_assoc, List.cons_append, List.nil_append] at a2
        simp [go_sem, sf_r3_exceedsLimits, LP.row, l1, l2, hlv, q1, q1i, q2, q2i, a2, -Bool.exists_bool]
      | true =>
        have a1 := a1 ha
        cases hf : p.funcs.all fun f => !limF f with
        | false =>
          obtain ⟨L, f2⟩ := f2 hf
          simp only [List.append_assoc, List.cons_append, List.nil_append] at f2
          simp [go_sem, sf_r3_exceedsLimits, LP.row, l1, l2, hlv, q1, q1i, q2, q2i, a1, f2, -Bool.exists_bool]
        | true =>
          have f1 := f1 hf
          simp [go_sem, sf_r3_exceedsLimits, LP.row, l1, l2, hlv, q1, q1i, q2, q2i, a1, f1, -Bool.exists_bool]
end
end
end Go.Proofs.YtpkchglfgkkcbaaDoor.Vs
namespace Go.Proofs.YtpkchglfgkkcbaaDoor.Vs
open Go.Proofs.YtpkchglfgkkcbaaDoor.Ev
noncomputable section
theorem rowsN_flat (xs : List Str) : (rowsN xs).flatten.map C.p = xs.map fun s => .p (.str s) := by
  induction xs with
  | nil => rfl
  | cons a l ih => simp only [rowsN, List.map_cons, List.flatten_cons, List.map_append] at ih ⊢; rw [ih]; rfl
theorem src_sl (τ : St2) (nl : Option Bool) (bs : List Str) : srcC τ 1 (.p (slP nl 1 (rowsN bs))) = some (bs.length, bs.map fun s => .p (.str s)) := by
  have h : ∀ x, srcC τ 1 (.p (.list x 1 (rowsN bs))) = some (bs.length, bs.map fun s => .p (.str s)) := fun x => by
    show (bif Nat.beq 1 1 then some ((rowsN bs).length, (rowsN bs).flatten.map C.p) else none) = _
    rw [rowsN_flat, show (rowsN bs).length = bs.length by simp [rowsN]]
    rfl
  cases nl with
  | some x => exact h x
  | none => cases bs with
    | nil => rfl
    | cons b bs => exact h false
theorem app_lit (τ : St2) (as bs : List Str) (nl : Option Bool) (hn : as.length + bs.length ≤ 1000000) :
    appC τ 1 (.p (.list true 1 (rowsN as))) (.p (slP nl 1 (rowsN bs))) = if bs = [] then some (.p (.list true 1 (rowsN as)), τ) else some (.ms τ.length (as ++ bs).length 0 (as ++ bs).length ucap, τ ++ [nb1 (as ++ bs) true]) := by
  have hr : (rowsN as).length = as.length := by simp [rowsN]
  have h1 : Nat.beq (bs.map fun s => C.p (.str s)).length (bs.length * 1) = true := by rw [List.length_map, Nat.mul_one]; exact Nat.beq_refl _
  have h2 : (Nat.beq 1 1 && Nat.ble ((rowsN as).length + bs.length) 1000000) = true := by rw [hr, Nat.ble_eq_true_of_le hn]; rfl
  simp only [appC, src_sl, h1, cond_true, appTo, h2]
  by_cases hb : bs = []
  · subst hb
    simp only [if_pos, List.length_nil, Nat.beq_refl, cond_true]
  · have h3 : Nat.beq bs.length 0 = false := by rw [nb]; simp [hb]
    rw [if_neg hb]
    simp only [h3, cond_false, newMs, rowsN_flat, hr]
    simp [nb1]
theorem app_own {τ : St2} {l : Nat} {as : List Str} {d : Bool} (h : τ[l]? = some (nb1 as d)) (bs : List Str) (nn : Option Bool) (hn : as.length + bs.length ≤ 1000000) :
    appC τ 1 (.ms l as.length 0 as.length ucap) (.p (slP nn 1 (rowsN bs))) = some (.ms l (as ++ bs).length 0 (as ++ bs).length ucap, if bs = [] then τ else τ.set l (nb1 (as ++ bs) true)) := by
  have h1 : Nat.beq (bs.map fun s => C.p (.str s)).length (bs.length * 1) = true := by rw [List.length_map, Nat.mul_one]; exact Nat.beq_refl _
  have h2 : Nat.ble (as.length + bs.length) 1000000 = true := Nat.ble_eq_true_of_le hn
  by_cases hb : bs = []
  · subst hb
    simp only [List.length_nil, Nat.add_zero] at h2
    rw [nl] at h2
    have h2 : as.length ≤ 1000000 := by simpa using h2
    simp [appC, src_sl, appTo, h, nb1, nl, h2]
  · have h3 : ¬ bs.length = 0 := by simp [hb]
    rw [nl] at h2
    have h2 : as.length + bs.length ≤ 1000000 := by simpa using h2
    simp [appC, src_sl, appTo, h, nb1, nb, nl, hb, h2]
theorem soil_more : ∀ (τ L : St2), soil τ (cleanT τ ++ L) = τ ++ L
  | [], L => by simp [cleanT, soil]
  | B :: τ, L => by
    have := soil_more τ L
    simp only [cleanT] at this
    simp [cleanT, soil, this]
theorem soil_one (τ : St2) (A B : B2) : soil (τ ++ [A]) (cleanT τ ++ [B]) = τ ++ [{ B with dirty := A.dirty || B.dirty }] := by
  rw [soil_app _ _ (by simp [cleanT_len]), soil_clean]
  rfl
theorem app2 (σ : St2) (as ps ls : List Str) (pn ln : Option Bool) (hn : as.length + ps.length + ls.length ≤ 1000000) :
    ∃ c1 L1 c2 L2 L3, appC (cleanT σ) 1 (.p (.list true 1 (rowsN as))) (.p (slP pn 1 (rowsN ps))) = some (c1, cleanT σ ++ L1) ∧ soil σ (cleanT σ ++ L1) = σ ++ L1 ∧
      appC (σ ++ L1) 1 c1 (.p (slP ln 1 (rowsN ls))) = some (c2, σ ++ L2) ∧ appC (cleanT (σ ++ L1)) 1 c1 (.p (slP ln 1 (rowsN ls))) = some (c2, cleanT σ ++ L3) ∧ soil (σ ++ L1) (cleanT σ ++ L3) = σ ++ L2 ∧
      (∀ σ2 L, σ2.length = σ.length → SV (σ2 ++ (L2 ++ L)) c2 (as ++ ps ++ ls)) ∧ L2.length ≤ 1 ∧ (∀ k, refsBs k (L2.flatMap fun B => B.cells) = true) := by
  have hpure : ∀ (xs : List Str) k, refsBs k (xs.map fun s => C.p (.str s)) = true := fun xs k => by
    have := refs_p k (xs.map PV.str)
    rwa [List.map_map] at this
  by_cases h1 : ps = []
  · subst h1
    by_cases h2 : ls = []
    · subst h2
      refine ⟨_, [], .p (.list true 1 (rowsN as)), [], [], by rw [app_lit _ _ _ _ (by simpa using hn), if_pos rfl, List.append_nil], soil_more σ [], by rw [List.append_nil, app_lit _ _ _ _ (by simpa using hn), if_pos rfl], by rw [List.append_nil, app_lit _ _ _ _ (by simpa using hn), if_pos rfl, List.append_nil], by rw [List.append_nil, List.append_nil]; exact soil_clean σ, fun σ2 L h => ?_, by simp, fun k => rfl⟩
      rw [List.append_nil, List.append_nil]
      exact .pure (some true) as
    · refine ⟨_, [], .ms σ.length (as ++ ls).length 0 (as ++ ls).length ucap, [nb1 (as ++ ls) true], [nb1 (as ++ ls) true], by rw [app_lit _ _ _ _ (by simp at hn ⊢; omega), if_pos rfl, List.append_nil], soil_more σ [], by rw [List.append_nil, app_lit _ _ _ _ (by simp at hn; omega), if_neg h2], by rw [List.append_nil, app_lit _ _ _ _ (by simp at hn; omega), if_neg h2, cleanT_len], by rw [List.append_nil]; exact soil_more σ _, fun σ2 L h => ?_, by simp, fun k => by simpa [nb1] using hpure (as ++ ls) k⟩
      rw [List.append_nil]
      exact .own (d := true) (by rw [← h, at_len]; rfl)
  · by_cases h2 : ls = []
    · subst h2
      refine ⟨.ms σ.length (as ++ ps).length 0 (as ++ ps).length ucap, [nb1 (as ++ ps) true], .ms σ.length (as ++ ps).length 0 (as ++ ps).length ucap, [nb1 (as ++ ps) true], [nb1 (as ++ ps) false], by rw [app_lit _ _ _ _ (by simp at hn; omega), if_neg h1, cleanT_len], soil_more σ _, ?_, ?_, ?_, fun σ2 L h => ?_, by simp, fun k => by simpa [nb1] using hpure (as ++ ps) k⟩
      · rw [app_own (d := true) (by rw [at_len]; rfl) _ _ (by simp at hn ⊢; omega)]
        simp
      · rw [app_own (d := false) (by rw [at_c0]; rfl) _ _ (by simp at hn ⊢; omega)]
        simp [cleanT, nb1]
      · rw [soil_one]; rfl
      · rw [List.append_nil]
        exact .own (d := true) (by rw [← h, at_len]; rfl)
    · refine ⟨.ms σ.length (as ++ ps).length 0 (as ++ ps).length ucap, [nb1 (as ++ ps) true], .ms σ.length (as ++ ps ++ ls).length 0 (as ++ ps ++ ls).length ucap, [nb1 (as ++ ps ++ ls) true], [nb1 (as ++ ps ++ ls) true], by rw [app_lit _ _ _ _ (by omega), if_neg h1, cleanT_len], soil_more σ _, ?_, ?_, ?_, fun σ2 L h => ?_, by simp, fun k => by simpa [nb1] using hpure (as ++ ps ++ ls) k⟩
      · rw [app_own (d := true) (by rw [at_len]; rfl) _ _ (by simp; omega), if_neg h2, set_len]
        rfl
      · rw [app_own (d := false) (by rw [at_c0]; rfl) _ _ (by simp; omega), if_neg h2, cleanT_app, ← cleanT_len σ, set_len]
        rfl
      · rw [soil_one]; rfl
      · exact .own (d := true) (by rw [← h, at_len]; rfl)
end
end Go.Proofs.YtpkchglfgkkcbaaDoor.Vs
namespace Go.Proofs.YtpkchglfgkkcbaaDoor.Vs
open Go.Proofs.YtpkchglfgkkcbaaDoor.Ev
noncomputable section
attribute [local go_sem] bodyS evS evL want chkV opV isEf neV efV env look put putO keep bi un1 v0 binC isSh binI wb next2 regS condS outS resS tmS nb nl blockS virts round trunc_same len_list len_nils len_ms len_str len_sl idx_list idx_ms idx_sl binS asN_nat faC storeC cellsOf setAt buildC partsC fillC repC rowC toPs chunks at_len at_add set_len set_add nilChk callV ev2 fieldC unC pickC slcC slcP bnd obnd asN_lit asN_0 asN_1 asN_2 asN_mod asN_modl succ_ne succ_pos' leave3 leave_p undefC
set_option linter.unusedSimpArgs false
def wfF (f : LF) : Bool := ([f.name] ++ f.params ++ f.locals).all validL && (wfSs f.body && wfE f.value)
def wfP (p : LP) : Bool := p.arrays.all (fun a => validL a.1) && p.funcs.all wfF
section
variable {T : FuncId → Option SF}
theorem wfA_loop (call : Call2) (p : LP) (τ : St2) (hsz : p.arrays.length ≤ big) (hk : ∀ a, a ∈ p.arrays → ∀ τ, call F_r3_ValidName [.s a.1] τ = some (.b (validL a.1), τ)) :
    (p.arrays.all (fun a => validL a.1) = true → Loop (round [1, 3] (evS ⟨fun _ => false, false⟩ call lb_r3_wellFormed_0)) [(1, .ptr τ.length 2 0), (3, .i (0 : Nat))] (τ ++ [PB2 p]) = some (.exit 0, [(1, .ptr τ.length 2 0), (3, .i (p.arrays.length : Nat)), (12, .b false)], τ ++ [PB2 p])) ∧
    (p.arrays.all (fun a => validL a.1) = false → ∃ L, Loop (round [1, 3] (evS ⟨fun _ => false, false⟩ call lb_r3_wellFormed_0)) [(1, .ptr τ.length 2 0), (3, .i (0 : Nat))] (τ ++ [PB2 p]) = some (.ret, [(2, .b false)], (τ ++ [PB2 p]) ++ L)) := by
  have hl : (rowsA p.arrays).length = p.arrays.length := by simp [rowsA]
  have hbig : 100 ≤ big := by decide
  simp only [PB2]
  refine search0 (E := fun i => [(1, .ptr τ.length 2 0), (3, .i (i : Nat))]) (fun done k rest hd hp => ?_) (fun done k rest hd hp => ⟨[], ?_⟩) ?_
  · have hlt : done.length < p.arrays.length := by rw [← hd]; simp
    have hat := rowsA_at hd
    have hat2 := at2 hat
    have hw := wrap_b (n := done.length + 1) (by omega)
    simp only [Int.natCast_add, Int.natCast_one] at hw
    have h1 := hk k (by rw [← hd]; simp)
    simp [go_sem, loadC, one, cellsAt2, isCell_p, isCell_ms, isCell_ptr, at_c0, at_ck, cleanT_get, soil_clean, pureAt, okV, okCell_p, okCell_ms, okCell_ptr, lb_r3_wellFormed_0, hl, hlt, hat, hat2, hw, h1, hp, -Bool.exists_bool]
  · have hlt : done.length < p.arrays.length := by rw [← hd]; simp
    have hat := rowsA_at hd
    have hat2 := at2 hat
    have h1 := hk k (by rw [← hd]; simp)
    simp [go_sem, loadC, one, cellsAt2, isCell_p, isCell_ms, isCell_ptr, at_c0, at_ck, cleanT_get, soil_clean, pureAt, okV, okCell_p, okCell_ms, okCell_ptr, lb_r3_wellFormed_0, hl, hlt, hat, hat2, h1, hp, -Bool.exists_bool]
  · simp [go_sem, loadC, one, cellsAt2, isCell_p, isCell_ms, isCell_ptr, at_c0, at_ck, cleanT_get, soil_clean, pureAt, okV, okCell_p, okCell_ms, okCell_ptr, lb_r3_wellFormed_0, hl, -Bool.exists_bool]
theorem wfN_loop (call : Call2) (xs : List Str) (c : C) (σ : St2) (hv : SV σ c xs) (i4 : Int) (v1 v5 : C) (hsz : xs.length ≤ big) (hk : ∀ x, x ∈ xs → ∀ τ, call F_r3_ValidName [.s x] τ = some (.b (validL x), τ)) :
    (xs.all validL = true → Loop (round [1, 4, 5, 6, 7] (evS ⟨fun _ => false, false⟩ call lb_r3_wellFormed_1)) [(1, v1), (4, .i i4), (5, v5), (6, c), (7, .i (0 : Nat))] σ = some (.exit 4, [(1, v1), (4, .i i4), (5, v5), (6, c), (7, .i (xs.length : Nat)), (47, .b false)], σ)) ∧
    (xs.all validL = false → ∃ L, Loop (round [1, 4, 5, 6, 7] (evS ⟨fun _ => false, false⟩ call lb_r3_wellFormed_1)) [(1, v1), (4, .i i4), (5, v5), (6, c), (7, .i (0 : Nat))] σ = some (.ret, [(2, .b false)], σ ++ L)) := by
  have hbig : 100 ≤ big := by decide
  have hlen := hv.len
  refine search0 (E := fun i => [(1, v1), (4, .i i4), (5, v5), (6, c), (7, .i (i : Nat))]) (fun done x rest hd hp => ?_) (fun done x rest hd hp => ⟨[], ?_⟩) ?_
  · have hlt : done.length < xs.length := by rw [← hd]; simp
    have hx : xs[done.length]? = some x := by rw [← hd]; exact at_mid done rest x
    obtain ⟨q, h1, h2⟩ := hv.at_ hx
    have h2 := h2 []
    rw [List.append_nil] at h2
    have h3 := hk x (by rw [← hd]; simp)
    have hw := wrap_b (n := done.length + 1) (by omega)
    simp only [Int.natCast_add, Int.natCast_one] at hw
    simp [go_sem, isCell, lb_r3_wellFormed_1, hlen, hlt, h1, h2, h3, hp, hw, -Bool.exists_bool]
  · have hlt : done.length < xs.length := by rw [← hd]; simp
    have hx : xs[done.length]? = some x := by rw [← hd]; exact at_mid done rest x
    obtain ⟨q, h1, h2⟩ := hv.at_ hx
    have h2 := h2 []
    rw [List.append_nil] at h2
    have h3 := hk x (by rw [← hd]; simp)
    simp [go_sem, isCell, lb_r3_wellFormed_1, hlen, hlt, h1, h2, h3, hp, -Bool.exists_bool]
  · simp [go_sem, isCell, lb_r3_wellFormed_1, hlen, -Bool.exists_bool]
theorem len1 {α : Type} {L : List α} (h : L.length ≤ 1) : L = [] ∨ ∃ x, L = [x] := by
  match L, h with
  | [], _ => exact .inl rfl
  | [x], _ => exact .inr ⟨x, rfl⟩
set_option maxHeartbeats 1000000 in
theorem wfF_loop (call : Call2) (p : LP) (τ : St2) (hsz : p.funcs.length ≤ big) (hk : ∀ f, f ∈ p.funcs → ([f.name] ++ f.params ++ f.locals).length ≤ 1000 ∧ (∀ x, x ∈ [f.name] ++ f.params ++ f.locals → ∀ τ, call F_r3_ValidName [.s x] τ = some (.b (validL x), τ)) ∧ (∀ τ, call F_r3_wellFormedStmts [.p (slP f.bnl 17 (rowsS f.body))] τ = some (.b (wfSs f.body), τ)) ∧ (∀ τ, call F_r3_wellFormedExpr [.agg (f.value.row.map .p)] τ = some (.b (wfE f.value), τ))) :
    (p.funcs.all wfF = true → Loop (round [1, 4] (evS ⟨fun _ => false, false⟩ call lb_r3_wellFormed_2)) [(1, .ptr τ.length 2 0), (4, .i (0 : Nat))] (τ ++ [PB2 p]) = some (.exit 2, [(1, .ptr τ.length 2 0), (4, .i (p.funcs.length : Nat)), (27, .b false)], τ ++ [PB2 p])) ∧
    (p.funcs.all wfF = false → ∃ L, Loop (round [1, 4] (evS ⟨fun _ => false, false⟩ call lb_r3_wellFormed_2)) [(1, .ptr τ.length 2 0), (4, .i (0 : Nat))] (τ ++ [PB2 p]) = some (.ret, [(2, .b false)], (τ ++ [PB2 p]) ++ L)) := by
  have hl : (rowsF p.funcs).length = p.funcs.length := by simp [rowsF]
  have hbig : 1000 ≤ big := by decide
  have htr : ∀ (tm : Tm) (B : B2) (L : St2), tmB (τ.length + 1) tm = true → trunc tm (τ ++ [B]) (τ ++ B :: L) = τ ++ [B] := fun tm B L h => trunc1 h
  have key : ∀ done f rest, done ++ f :: rest = p.funcs → (wfF f = true → round [1, 4] (evS ⟨fun _ => false, false⟩ call lb_r3_wellFormed_2) [(1, .ptr τ.length 2 0), (4, .i (done.length : Nat))] (τ ++ [PB2 p]) = some (.normal, [(1, .ptr τ.length 2 0), (4, .i ((done.length + 1 : Nat) : Int))], τ ++ [PB2 p])) ∧
      (wfF f = false → ∃ L, round [1, 4] (evS ⟨fun _ => false, false⟩ call lb_r3_wellFormed_2) [(1, .ptr τ.length 2 0), (4, .i (done.length : Nat))] (τ ++ [PB2 p]) = some (.ret, [(2, .b false)], τ ++ (PB2 p :: L))) := by
    intro done f rest hd
    have hlt : done.length < p.funcs.length := by rw [← hd]; simp
    have hat := rowsF_at hd
    obtain ⟨m0, m1, m2, m3⟩ := hk f (by rw [← hd]; simp)
    have hw := wrap_b (n := done.length + 1) (by omega)
    simp only [Int.natCast_add, Int.natCast_one] at hw
    obtain ⟨c1, L1, c2, L2, L3, a1, a2, a3, -, -, a6, a7, -⟩ := app2 (τ ++ [PB2 p, FB f]) [f.name] f.params f.locals f.pnl f.lnl (by simp at m0 ⊢; omega)
    have hv := a6 (τ ++ [PB2 p, FB f]) [] rfl
    rw [List.append_nil] at hv
    obtain ⟨w1, w2⟩ := wfN_loop call _ c2 (τ ++ [PB2 p, FB f] ++ L2) hv (done.length : Nat) (.ptr τ.length 2 0) (.ptr (τ.length + 1) 9 0) (by omega) m1
    obtain ⟨kv, nv, sv, ov, vv, hv', hr⟩ := f.row9
    simp only [hr, hv', FB, PB2, List.map, rowsN, List.map_cons, Int.ofNat_zero] at m3 hat a1 a2 a3 w1 w2 ⊢
    have hat2 := at2 hat
    have hP : (cleanT (τ ++ [⟨[.p (slP p.anl 2 (rowsA p.arrays)), .p (slP p.fnl 9 (rowsF p.funcs))], .live, 2, true⟩, ⟨[.p (.str f.name), .p (slP f.pnl 1 (f.params.map fun s => [.str s])), .p (slP f.lnl 1 (f.locals.map fun s => [.str s])), .p (slP f.bnl 17 (rowsS f.body)), .p (.int .i64 kv), .p (.int .i64 nv), .p (.str sv), .p (.int .i64 ov), .p vv], .live, 9, true⟩]) ++ L1)[τ.length + 1]? = some ⟨[.p (.str f.name), .p (slP f.pnl 1 (f.params.map fun s => [.str s])), .p (slP f.lnl 1 (f.locals.map fun s => [.str s])), .p (slP f.bnl 17 (rowsS f.body)), .p (.int .i64 kv), .p (.int .i64 nv), .p (.str sv), .p (.int .i64 ov), .p vv], .live, 9, false⟩ := by
      rw [List.getElem?_append_left (by simp [cleanT_len]), at_ck]; rfl
    simp only [List.append_assoc, List.cons_append, List.nil_append] at a2 a3 w1 w2
    unfold wfF
    cases hn : ([f.name] ++ f.params ++ f.locals).all validL with
    | false =>
      obtain ⟨L, w2⟩ := w2 hn
      refine ⟨(fun h => by simp at h), fun _ => ⟨⟨[.p (.str f.name), .p (slP f.pnl 1 (f.params.map fun s => [.str s])), .p (slP f.lnl 1 (f.locals.map fun s => [.str s])), .p (slP f.bnl 17 (rowsS f.body)), .p (.int .i64 kv), .p (.int .i64 nv), .p (.str sv), .p (.int .i64 ov), .p vv], .live, 9, true⟩ :: (L2 ++ L), ?_⟩⟩
      simp [go_sem, loadC, one, cellsAt2, isCell_p, isCell_ms, isCell_ptr, at_c0, at_ck, cleanT_get, soil_clean, pureAt, okV, okCell_p, okCell_ms, okCell_ptr, lb_r3_wellFormed_2, hl, hlt, hat, hat2, hw, htr, tmB, refsB, a1, a2, a3, hP, w2, -Bool.exists_bool]
    | true =>
      have w1 := w1 hn
      cases q1 : wfSs f.body with
      | false =>
        refine ⟨(fun h => by simp at h), fun _ => ⟨⟨[.p (.str f.name), .p (slP f.pnl 1 (f.params.map fun s => [.str s])), .p (slP f.lnl 1 (f.locals.map fun s => [.str s])), .p (slP f.bnl 17 (rowsS f.body)), .p (.int .i64 kv), .p (.int .i64 nv), .p (.str sv), .p (.int .i64 ov), .p vv], .live, 9, true⟩ :: L2, ?_⟩⟩
        simp [go_sem, loadC, one, cellsAt2, isCell_p, isCell_ms, isCell_ptr, at_c0, at_ck, cleanT_get, soil_clean, pureAt, okV, okCell_p, okCell_ms, okCell_ptr, lb_r3_wellFormed_2, hl, hlt, hat, hat2, hw, htr, tmB, refsB, a1, a2, a3, hP, w1, m2, q1, -Bool.exists_bool]
      | true =>
        cases q2 : wfE f.value with
        | false =>
          refine ⟨(fun h => by simp at h), fun _ => ⟨⟨[.p (.str f.name), .p (slP f.pnl 1 (f.params.map fun s => [.str s])), .p (slP f.lnl 1 (f.locals.map fun s => [.str s])), .p (slP f.bnl 17 (rowsS f.body)), .p (.int .i64 kv), .p (.int .i64 nv), .p (.str sv), .p (.int .i64 ov), .p vv], .live, 9, true⟩ :: L2, ?_⟩⟩
          simp [go_sem, loadC, one, cellsAt2, isCell_p, isCell_ms, isCell_ptr, at_c0, at_ck, cleanT_get, soil_clean, pureAt, okV, okCell_p, okCell_ms, okCell_ptr, lb_r3_wellFormed_2, hl, hlt, hat, hat2, hw, htr, tmB, refsB, a1, a2, a3, hP, w1, m2, m3, q1, q2, -Bool.exists_bool]
        | true =>
          refine ⟨fun _ => ?_, fun h => by simp at h⟩
          simp [go_sem, loadC, one, cellsAt2, isCell_p, isCell_ms, isCell_ptr, at_c0, at_ck, cleanT_get, soil_clean, pureAt, okV, okCell_p, okCell_ms, okCell_ptr, lb_r3_wellFormed_2, hl, hlt, hat, hat2, hw, htr, tmB, refsB, a1, a2, a3, hP, w1, m2, m3, q1, q2, -Bool.exists_bool]
  refine search0 (E := fun i => [(1, .ptr τ.length 2 0), (4, .i (i : Nat))]) (fun done k rest hd hp => ?_) (fun done k rest hd hp => ?_) ?_
  · exact (key done k rest hd).1 (by simpa using hp)
  · obtain ⟨L, h⟩ := (key done k rest hd).2 (by simpa using hp)
    exact ⟨L, by rw [h]; simp⟩
  · simp only [PB2]
    simp [go_sem, loadC, one, cellsAt2, isCell_p, isCell_ms, isCell_ptr, at_c0, at_ck, cleanT_get, soil_clean, pureAt, okV, okCell_p, okCell_ms, okCell_ptr, lb_r3_wellFormed_2, hl, -Bool.exists_bool]
end
end
end Go.Proofs.YtpkchglfgkkcbaaDoor.Vs
namespace Go.Proofs.YtpkchglfgkkcbaaDoor.Vs
open Go.Proofs.YtpkchglfgkkcbaaDoor.Ev
noncomputable section
attribute [local go_sem] bodyS evS evL want chkV opV isEf neV efV env look put putO keep bi un1 v0 binC isSh binI wb next2 regS condS outS resS tmS nb nl blockS virts round trunc_same len_list len_nils len_ms len_str len_sl idx_list idx_ms idx_sl loadC one binS asN_nat faC cellsAt2 storeC cellsOf isCell_p isCell_ms isCell_ptr setAt buildC partsC fillC repC rowC toPs chunks at_len at_add set_len set_add at_c0 at_ck cleanT_get soil_clean pureAt okV okCell_p okCell_ms okCell_ptr nilChk callV ev2 fieldC unC pickC slcC slcP bnd obnd asN_lit asN_0 asN_1 asN_2 asN_mod asN_modl succ_ne succ_pos' leave3 leave_p undefC
set_option linter.unusedSimpArgs false
def dupFrom : List Str → List Str → Bool
  | _, [] => false
  | seen, x :: r => decide (x ∈ seen) || dupFrom (seen ++ [x]) r
def dupG (arrs : List Str) : List Str → List LF → Bool
  | _, [] => false
  | fn, f :: r => decide (f.name ∈ fn) || (dupFrom arrs (f.params ++ f.locals) || dupG arrs (fn ++ [f.name]) r)
def anames (p : LP) : List Str := p.arrays.map (·.1)
def dupP (p : LP) : Bool := dupFrom [] (anames p) || dupG (anames p) [] p.funcs
theorem acc_nb {xs : List Str} (h : xs ≠ []) : acc 1 (rowsN xs) = nb1 xs true := by
  cases xs with
  | nil => exact absurd rfl h
  | cons x xs =>
    have := rowsN_flat (x :: xs)
    simp only [acc, nb1]
    rw [this]
    rfl
theorem SV.acc {τ : St2} {l : Nat} {xs : List Str} (h : τ[l]? = some (Go.Proofs.YtpkchglfgkkcbaaDoor.Vs.acc 1 (rowsN xs))) : SV τ (accV l 1 (rowsN xs)) xs := by
  have hl : (rowsN xs).length = xs.length := by simp [rowsN]
  unfold accV
  rw [hl, Nat.mul_one]
  by_cases hx : xs = []
  · subst hx
    exact .virt h
  · rw [acc_nb hx] at h
    exact .own h
theorem rowsN_one (xs : List Str) : ∀ r, r ∈ rowsN xs → r.length = 1 := fun r hr => by
  simp only [rowsN, List.mem_map] at hr
  obtain ⟨x, _, rfl⟩ := hr
  rfl
theorem app_acc1 {τ : St2} {l : Nat} {xs : List Str} (h : τ[l]? = some (acc 1 (rowsN xs))) (x : Str) (hn : xs.length ≤ 1000) : appC τ 1 (accV l 1 (rowsN xs)) (.p (.list true 1 [[.str x]])) = some (accV l 1 (rowsN (xs ++ [x])), τ.set l (acc 1 (rowsN (xs ++ [x])))) := by
  have hl : (rowsN xs).length = xs.length := by simp [rowsN]
  have := app_acc (τ := τ) (l := l) (es := 1) (rows := rowsN xs) (new := [[.str x]]) (x := true) h (rowsN_one xs) (by simp) (by rw [hl]; simp; omega) (by simp)
  rw [this]
  simp [rowsN]
section
variable {T : FuncId → Option SF}
theorem dupA_loop (hc : T F_r3_contains = some sf_r3_contains) (p : LP) (τ : St2) (hsz : p.arrays.length ≤ 900) : ∀ (rest done : List (Str × Int)), done ++ rest = p.arrays →
    (dupFrom (done.map (·.1)) (rest.map (·.1)) = false → Loop (round [1, 3, 4, 5] (evS ⟨fun _ => false, false⟩ (go T) lb_r3_hasDuplicates_0)) [(1, .ptr τ.length 2 0), (3, accV (τ.length + 1) 1 (rowsN (done.map (·.1)))), (4, .p .nils), (5, .i (done.length : Nat))] (τ ++ [PB2 p, acc 1 (rowsN (done.map (·.1)))]) = some (.exit 0, [(1, .ptr τ.length 2 0), (3, accV (τ.length + 1) 1 (rowsN (anames p))), (4, .p .nils), (5, .i (p.arrays.length : Nat)), (15, .b false)], τ ++ [PB2 p, acc 1 (rowsN (anames p))])) ∧
    (dupFrom (done.map (·.1)) (rest.map (·.1)) = true → ∃ L, Loop (round [1, 3, 4, 5] (evS ⟨fun _ => false, false⟩ (go T) lb_r3_hasDuplicates_0)) [(1, .ptr τ.length 2 0), (3, accV (τ.length + 1) 1 (rowsN (done.map (·.1)))), (4, .p .nils), (5, .i (done.length : Nat))] (τ ++ [PB2 p, acc 1 (rowsN (done.map (·.1)))]) = some (.ret, [(2, .b true)], τ ++ L)) := by
  have hl : (rowsA p.arrays).length = p.arrays.length := by simp [rowsA]
  have hbig : 1000 ≤ big := by decide
  intro rest
  induction rest with
  | nil =>
    intro done hd
    obtain rfl : done = p.arrays := by simpa using hd
    refine ⟨fun _ => Loop_exit ?_, fun h => by cases h⟩
    simp only [PB2, anames]
    simp [go_sem, lb_r3_hasDuplicates_0, hl, -Bool.exists_bool]
  | cons a rest ih =>
    intro done hd
    have hlt : done.length < p.arrays.length := by rw [← hd]; simp
    have hat := rowsA_at hd
    have hat2 := at2 hat
    have hw := wrap_b (n := done.length + 1) (by omega)
    simp only [Int.natCast_add, Int.natCast_one] at hw
    have hsv : ∀ B, SV (τ ++ [B, acc 1 (rowsN (done.map (·.1)))]) (accV (τ.length + 1) 1 (rowsN (done.map (·.1)))) (done.map (·.1)) := fun B => SV.acc (by rw [at_add]; rfl)
    have h1 := fun B => contains_sv hc (hsv B) (by simp; omega) a.1
    have happ : ∀ B : B2, appC (τ ++ [B, acc 1 (rowsN (done.map (·.1)))]) 1 (accV (τ.length + 1) 1 (rowsN (done.map (·.1)))) (.p (.list true 1 [[.str a.1]])) = some (accV (τ.length + 1) 1 (rowsN ((done ++ [a]).map (·.1))), τ ++ [B, acc 1 (rowsN ((done ++ [a]).map (·.1)))]) := fun B => by
      rw [app_acc1 (by rw [at_add]; rfl) _ (by simp; omega), set_add]
      simp
    have htr : ∀ (tm : Tm) (B : B2) xs ys, tmB (τ.length + 2) tm = true → trunc tm (τ ++ [B, acc 1 xs]) (τ ++ [B, acc 1 ys]) = τ ++ [B, acc 1 ys] := fun tm B xs ys h => by
      rw [trunc_app (L0 := [B, acc 1 xs]) h (by simp) (fun j hj => ?_)]
      · rfl
      · match j, hj with
        | 0, _ => exact .inl rfl
        | 1, _ => exact .inr fun T hT => by obtain rfl := Option.some.inj hT; exact refs_p _ _
    have hrf : ∀ (k l : Nat) (rows : List (List PV)), refsB k (accV l 1 rows) = decide (l + 1 ≤ k) := fun k l rows => nl _ _
    obtain ⟨ih1, ih2⟩ := ih (done ++ [a]) (by simpa using hd)
    simp only [PB2] at ih1 ih2 ⊢
    simp only [List.map_append, List.map_cons, List.map_nil, List.length_append, List.length_singleton] at ih1 ih2 happ
    simp only [List.map_cons, dupFrom]
    by_cases q : a.1 ∈ done.map (·.1)
    · refine ⟨(fun h => by simp [q] at h), fun _ => ⟨_, Loop_ret (τ' := τ ++ [⟨[.p (slP p.anl 2 (rowsA p.arrays)), .p (slP p.fnl 9 (rowsF p.funcs))], .live, 2, true⟩, acc 1 (rowsN (done.map (·.1)))]) ?_⟩⟩
      simp [go_sem, lb_r3_hasDuplicates_0, hl, hlt, hat, hat2, h1, q, -Bool.exists_bool]
    · rw [Loop_step (tm' := [(1, .ptr τ.length 2 0), (3, accV (τ.length + 1) 1 (rowsN (done.map (·.1) ++ [a.1]))), (4, .p .nils), (5, .i ((done.length + 1 : Nat) : Int))]) (τ' := τ ++ [⟨[.p (slP p.anl 2 (rowsA p.arrays)), .p (slP p.fnl 9 (rowsF p.funcs))], .live, 2, true⟩, acc 1 (rowsN (done.map (·.1) ++ [a.1]))])]
      · simp only [q, decide_false, Bool.false_or]
        exact ⟨ih1, ih2⟩
      · simp [go_sem, lb_r3_hasDuplicates_0, hl, hlt, hat, hat2, h1, q, happ, hw, htr, hrf, tmB, refsB, -Bool.exists_bool]
end
end
end Go.Proofs.YtpkchglfgkkcbaaDoor.Vs
