/-
  The reference checker, by equations: the whole.
-/
import Derived.Test.YtpkchglfgkkcbaaDoorVsChkB
import Derived.Attr

namespace Go.Proofs.YtpkchglfgkkcbaaDoor.Vs
open Go.Proofs.YtpkchglfgkkcbaaDoor.Ev
noncomputable section
attribute [local go_sem] bodyS evS evL want chkV opV isEf neV efV env look put putO keep bi un1 v0 binC isSh binI wb next2 regS condS outS resS tmS nb nl blockS virts round trunc_same len_list len_nils len_ms len_str len_sl idx_list idx_ms idx_sl binS asN_nat faC storeC cellsOf isCell setAt buildC partsC fillC repC rowC toPs chunks at_len at_add set_len set_add nilChk callV ev2 fieldC unC pickC slcC slcP bnd obnd asN_lit asN_0 asN_1 asN_2 asN_mod asN_modl succ_ne succ_pos' leave3 leave_p undefC
set_option linter.unusedSimpArgs false
section
variable {T : FuncId → Option SF}
theorem dup_inner (hc : T F_r3_contains = some sf_r3_contains) (names : List Str) (P A F K : B2) (L2 : St2) (v1 v3 v4 c9 : C) (i6 : Int) (τ : St2) (_hL2 : ∀ k, refsBs k (L2.flatMap fun B => B.cells) = true)
    (r1 : refsB (τ.length + (5 + L2.length)) v1 = true) (r3 : refsB (τ.length + (5 + L2.length)) v3 = true) (r4 : refsB (τ.length + (5 + L2.length)) v4 = true) (hv9 : ∀ B, SV (τ ++ (P :: A :: F :: K :: B :: L2)) c9 names) (hn : names.length ≤ 900) : ∀ (rest done seen : List Str), done ++ rest = names → seen.length + rest.length ≤ 100000 →
    (dupFrom seen rest = false → ∃ tm' seen', Loop (round [1, 3, 4, 6, 8, 9, 10] (evS ⟨fun _ => false, false⟩ (go T) lb_r3_hasDuplicates_1)) [(1, v1), (3, v3), (4, v4), (6, .i i6), (8, .ms (τ.length + 4) seen.length 0 seen.length ucap), (9, c9), (10, .i (done.length : Nat))] (τ ++ (P :: A :: F :: K :: nb1 seen true :: L2)) = some (.exit 4, tm', τ ++ (P :: A :: F :: K :: nb1 seen' true :: L2)) ∧ look 1 tm' = some v1 ∧ look 3 tm' = some v3 ∧ look 4 tm' = some v4 ∧ look 6 tm' = some (.i i6)) ∧
    (dupFrom seen rest = true → ∃ seen', Loop (round [1, 3, 4, 6, 8, 9, 10] (evS ⟨fun _ => false, false⟩ (go T) lb_r3_hasDuplicates_1)) [(1, v1), (3, v3), (4, v4), (6, .i i6), (8, .ms (τ.length + 4) seen.length 0 seen.length ucap), (9, c9), (10, .i (done.length : Nat))] (τ ++ (P :: A :: F :: K :: nb1 seen true :: L2)) = some (.ret, [(2, .b true)], τ ++ (P :: A :: F :: K :: nb1 seen' true :: L2))) := by
  have hbig : 100000 ≤ big := by decide
  have hpure : ∀ (xs : List Str) k, refsBs k (xs.map fun s => C.p (.str s)) = true := fun xs k => by
    have := refs_p k (xs.map PV.str)
    rwa [List.map_map] at this
  intro rest
  induction rest with
  | nil =>
    intro done seen hd hs
    obtain rfl : done = names := by simpa using hd
    refine ⟨fun _ => ⟨[(1, v1), (3, v3), (4, v4), (6, .i i6), (8, .ms (τ.length + 4) seen.length 0 seen.length ucap), (9, c9), (10, .i (done.length : Nat)), (69, .b false)], seen, Loop_exit ?_, by simp [look, nb], by simp [look, nb], by simp [look, nb], by simp [look, nb]⟩, fun h => by cases h⟩
    have hlen := (hv9 P).len
    simp [go_sem, lb_r3_hasDuplicates_1, hlen, -Bool.exists_bool]
  | cons x rest ih =>
    intro done seen hd hs
    have hlt : done.length < names.length := by rw [← hd]; simp
    have hx : names[done.length]? = some x := by rw [← hd]; exact at_mid done rest x
    have hlen := (hv9 (nb1 seen true)).len
    obtain ⟨q, h1, h2⟩ := (hv9 (nb1 seen true)).at_ hx
    have h2 := h2 []
    rw [List.append_nil] at h2
    have hrc := (hv9 (nb1 seen true)).refs
    have hll : (τ ++ (P :: A :: F :: K :: nb1 seen true :: L2)).length = τ.length + (5 + L2.length) := by simp; omega
    rw [hll] at hrc
    have hsv : SV (τ ++ (P :: A :: F :: K :: nb1 seen true :: L2)) (.ms (τ.length + 4) seen.length 0 seen.length ucap) seen := .own (d := true) (by rw [at_add]; rfl)
    have hcc := contains_sv hc hsv (by simp at hs; omega) x
    have happ := app_own (τ := τ ++ (P :: A :: F :: K :: nb1 seen true :: L2)) (l := τ.length + 4) (as := seen) (d := true) (by rw [at_add]; rfl) [x] (some true) (by simp at hs ⊢; omega)
    rw [if_neg (by simp), set_add] at happ
    have happ' : appC (τ ++ (P :: A :: F :: K :: nb1 seen true :: L2)) 1 (.ms (τ.length + 4) seen.length 0 seen.length ucap) (.p (.list true 1 [[.str x]])) = some (.ms (τ.length + 4) (seen ++ [x]).length 0 (seen ++ [x]).length ucap, τ ++ (P :: A :: F :: K :: nb1 (seen ++ [x]) true :: L2)) := happ
    have hw := wrap_b (n := done.length + 1) (by omega)
    simp only [Int.natCast_add, Int.natCast_one] at hw
    have htr : ∀ (tm : Tm), tmB (τ.length + (5 + L2.length)) tm = true → trunc tm (τ ++ (P :: A :: F :: K :: nb1 seen true :: L2)) (τ ++ (P :: A :: F :: K :: nb1 (seen ++ [x]) true :: L2)) = τ ++ (P :: A :: F :: K :: nb1 (seen ++ [x]) true :: L2) := fun tm h => by
      rw [trunc_app (L0 := P :: A :: F :: K :: nb1 seen true :: L2) (by simpa [Nat.add_comm, Nat.add_left_comm] using h) (by simp) (fun j hj => ?_)]
      · rw [List.take_of_length_le (by simp)]
      · match j with
        | 0 => exact .inl rfl
        | 1 => exact .inl rfl
        | 2 => exact .inl rfl
        | 3 => exact .inl rfl
        | 4 => exact .inr fun T hT => by obtain rfl := Option.some.inj hT; exact hpure _ _
        | j + 5 => exact .inl rfl
    have hl4 : τ.length + 5 ≤ τ.length + (5 + L2.length) := by omega
    obtain ⟨ih1, ih2⟩ := ih (done ++ [x]) (seen ++ [x]) (by simpa using hd) (by simp at hs ⊢; omega)
    simp only [dupFrom]
    by_cases qx : x ∈ seen
    · refine ⟨(fun h => by simp [qx] at h), fun _ => ⟨seen, Loop_ret ?_⟩⟩
      simp [go_sem, lb_r3_hasDuplicates_1, hlen, hlt, h1, h2, hcc, qx, -Bool.exists_bool]
    · rw [Loop_step (tm' := [(1, v1), (3, v3), (4, v4), (6, .i i6), (8, .ms (τ.length + 4) (seen ++ [x]).length 0 (seen ++ [x]).length ucap), (9, c9), (10, .i ((done ++ [x]).length : Nat))]) (τ' := τ ++ (P :: A :: F :: K :: nb1 (seen ++ [x]) true :: L2))]
      · simp only [qx, decide_false, Bool.false_or]
        exact ⟨ih1, ih2⟩
      · simp only [List.length_append, List.length_singleton] at happ' ⊢
        simp [go_sem, lb_r3_hasDuplicates_1, hlen, hlt, h1, h2, hcc, qx, happ', hw, htr, tmB, refsB, r1, r3, r4, hrc, hl4, -Bool.exists_bool]
end
end
end Go.Proofs.YtpkchglfgkkcbaaDoor.Vs
namespace Go.Proofs.YtpkchglfgkkcbaaDoor.Vs
open Go.Proofs.YtpkchglfgkkcbaaDoor.Ev
noncomputable section
attribute [local go_sem] bodyS evS evL want chkV opV isEf neV efV env look put putO keep bi un1 v0 binC isSh binI wb next2 regS condS outS resS tmS nb nl blockS virts round trunc_same len_list len_nils len_ms len_str len_sl idx_list idx_ms idx_sl loadC one binS asN_nat faC cellsAt2 storeC cellsOf isCell_p isCell_ms isCell_ptr setAt buildC partsC fillC repC rowC toPs chunks at_len at_add set_len set_add at_c0 at_ck cleanT_get soil_clean pureAt okV okCell_p okCell_ms okCell_ptr nilChk callV ev2 fieldC unC pickC slcC slcP bnd obnd asN_lit asN_0 asN_1 asN_2 asN_mod asN_modl succ_ne succ_pos' leave3 leave_p undefC
set_option linter.unusedSimpArgs false
section
variable {T : FuncId → Option SF}
theorem rowsN_nil : rowsN [] = [] := rfl
theorem app_lit_acc {σ : St2} {l : Nat} {xs : List Str} (h : σ[l]? = some (acc 1 (rowsN xs))) (hx : xs ≠ []) (hn : xs.length ≤ 1000) : appC σ 1 (.p (.list true 1 [])) (accV l 1 (rowsN xs)) = some (.ms σ.length xs.length 0 xs.length ucap, σ ++ [nb1 xs true]) := by
  have hl : (rowsN xs).length = xs.length := by simp [rowsN]
  have h0 : ¬ xs.length = 0 := by simp [hx]
  have hc : xs.all (isCell ∘ fun s => C.p (.str s)) = true := by simp [isCell]
  rw [acc_nb hx] at h
  have htk : List.take xs.length (xs.map fun s => C.p (.str s)) = xs.map fun s => C.p (.str s) := List.take_of_length_le (by simp)
  have hn2 : xs.length ≤ 1000000 := by omega
  simp [appC, accV, hl, srcC, cellsAt2, h, nb1, nb, nl, htk, hc, appTo, hn2, hx, newMs]
set_option maxHeartbeats 1000000 in
theorem dupF_loop (hc : T F_r3_contains = some sf_r3_contains) (p : LP) (τ : St2) (arrs : List Str) (hx : arrs ≠ []) (hsa : arrs.length ≤ 900) (hsz : p.funcs.length ≤ 900) (hN : ∀ f, f ∈ p.funcs → f.params.length + f.locals.length ≤ 900) : ∀ (rest done : List LF), done ++ rest = p.funcs →
    (dupG arrs (done.map (·.name)) rest = false → ∃ tm L, Loop (round [1, 3, 4, 6] (evS ⟨fun _ => false, false⟩ (go T) lb_r3_hasDuplicates_2)) [(1, .ptr τ.length 2 0), (3, accV (τ.length + 1) 1 (rowsN arrs)), (4, accV (τ.length + 2) 1 (rowsN (done.map (·.name)))), (6, .i (done.length : Nat))] (τ ++ [PB2 p, acc 1 (rowsN arrs), acc 1 (rowsN (done.map (·.name)))]) = some (.exit 2, tm, τ ++ L)) ∧
    (dupG arrs (done.map (·.name)) rest = true → ∃ L, Loop (round [1, 3, 4, 6] (evS ⟨fun _ => false, false⟩ (go T) lb_r3_hasDuplicates_2)) [(1, .ptr τ.length 2 0), (3, accV (τ.length + 1) 1 (rowsN arrs)), (4, accV (τ.length + 2) 1 (rowsN (done.map (·.name)))), (6, .i (done.length : Nat))] (τ ++ [PB2 p, acc 1 (rowsN arrs), acc 1 (rowsN (done.map (·.name)))]) = some (.ret, [(2, .b true)], τ ++ L)) := by
  have hl : (rowsF p.funcs).length = p.funcs.length := by simp [rowsF]
  have hbig : 1000 ≤ big := by decide
  intro rest
  induction rest with
  | nil =>
    intro done hd
    obtain rfl : done = p.funcs := by simpa using hd
    refine ⟨fun _ => ⟨[(1, .ptr τ.length 2 0), (3, accV (τ.length + 1) 1 (rowsN arrs)), (4, accV (τ.length + 2) 1 (rowsN (p.funcs.map (·.name)))), (6, .i (p.funcs.length : Nat)), (39, .b false)], [PB2 p, acc 1 (rowsN arrs), acc 1 (rowsN (p.funcs.map (·.name)))], Loop_exit ?_⟩, fun h => by cases h⟩
    simp only [PB2]
    simp [go_sem, lb_r3_hasDuplicates_2, hl, -Bool.exists_bool]
  | cons f rest ih =>
    intro done hd
    have hlt : done.length < p.funcs.length := by rw [← hd]; simp
    have hat := rowsF_at hd
    have hfN := hN f (by rw [← hd]; simp)
    have hw := wrap_b (n := done.length + 1) (by omega)
    simp only [Int.natCast_add, Int.natCast_one] at hw
    obtain ⟨kv, nv, sv, ov, vv, hv', hr⟩ := f.row9
    rw [hr] at hat
    have hat2 := at2 hat
    have hsv : ∀ P A K, SV (τ ++ [P, A, acc 1 (rowsN (done.map (·.name))), K]) (accV (τ.length + 2) 1 (rowsN (done.map (·.name)))) (done.map (·.name)) := fun P A K => SV.acc (by rw [at_add]; rfl)
    have hcc := fun P A K => contains_sv hc (hsv P A K) (by simp; omega) f.name
    have happ : ∀ P A K, appC (τ ++ [P, A, acc 1 (rowsN (done.map (·.name))), K]) 1 (accV (τ.length + 2) 1 (rowsN (done.map (·.name)))) (.p (.list true 1 [[.str f.name]])) = some (accV (τ.length + 2) 1 (rowsN (done.map (·.name) ++ [f.name])), τ ++ [P, A, acc 1 (rowsN (done.map (·.name) ++ [f.name])), K]) := fun P A K => by
      rw [app_acc1 (by rw [at_add]; rfl) _ (by simp; omega), set_add]
      rfl
    have happ2 : ∀ P F K, appC (τ ++ [P, acc 1 (rowsN arrs), F, K]) 1 (.p (.list true 1 [])) (accV (τ.length + 1) 1 (rowsN arrs)) = some (.ms (τ.length + 4) arrs.length 0 arrs.length ucap, τ ++ [P, acc 1 (rowsN arrs), F, K, nb1 arrs true]) := fun P F K => by
      rw [app_lit_acc (by rw [at_add]; rfl) hx (by omega)]
      simp
    obtain ⟨c1, L1, c2, L2, L3, a1, a2, a3, -, -, a6, a7, a8⟩ := app2 (τ ++ [PB2 p, acc 1 (rowsN arrs), acc 1 (rowsN (done.map (·.name) ++ [f.name])), FB f, nb1 arrs true]) [] f.params f.locals f.pnl f.lnl (by simp; omega)
    have hP : (cleanT (τ ++ [PB2 p, acc 1 (rowsN arrs), acc 1 (rowsN (done.map (·.name) ++ [f.name])), FB f, nb1 arrs true]) ++ L1)[τ.length + 3]? = some { FB f with dirty := false } := by
      rw [List.getElem?_append_left (by simp [cleanT_len]), at_ck]; rfl
    have hv9 : ∀ B, SV (τ ++ (PB2 p :: acc 1 (rowsN arrs) :: acc 1 (rowsN (done.map (·.name) ++ [f.name])) :: FB f :: B :: L2)) c2 (f.params ++ f.locals) := fun B => by
      have := a6 (τ ++ [PB2 p, acc 1 (rowsN arrs), acc 1 (rowsN (done.map (·.name) ++ [f.name])), FB f, B]) [] (by simp)
      simpa using this
    have hrf : ∀ (k l : Nat) (rows : List (List PV)), refsB k (accV l 1 rows) = decide (l + 1 ≤ k) := fun k l rows => nl _ _
    obtain ⟨j1, j2⟩ := dup_inner hc (f.params ++ f.locals) (PB2 p) (acc 1 (rowsN arrs)) (acc 1 (rowsN (done.map (·.name) ++ [f.name]))) (FB f) L2 (.ptr τ.length 2 0) (accV (τ.length + 1) 1 (rowsN arrs)) (accV (τ.length + 2) 1 (rowsN (done.map (·.name) ++ [f.name]))) c2 (done.length : Nat) τ a8
      (by simp only [refsB]; exact Nat.ble_eq_true_of_le (by omega)) (by rw [hrf]; simp; omega) (by rw [hrf]; simp; omega) hv9 (by simp; omega) (f.params ++ f.locals) [] arrs rfl (by simp; omega)
    have htr : ∀ (tm : Tm) (P A : B2) xs ys (L : St2), tmB (τ.length + 3) tm = true → trunc tm (τ ++ [P, A, acc 1 xs]) (τ ++ (P :: A :: acc 1 ys :: L)) = τ ++ [P, A, acc 1 ys] := fun tm P A xs ys L h => by
      rw [trunc_app (L0 := [P, A, acc 1 xs]) h (by simp) (fun j hj => ?_)]
      · rfl
      · match j, hj with
        | 0, _ => exact .inl rfl
        | 1, _ => exact .inl rfl
        | 2, _ => exact .inr fun T hT => by obtain rfl := Option.some.inj hT; exact refs_p _ _
    obtain ⟨ih1, ih2⟩ := ih (done ++ [f]) (by simpa using hd)
    simp only [List.map_append, List.map_cons, List.map_nil, List.length_append, List.length_singleton] at ih1 ih2
    simp only [PB2, FB, hr, List.map] at ih1 ih2 hP a1 a2 a3 j1 j2 ⊢
    simp only [List.append_assoc, List.cons_append, List.nil_append, List.length_nil, Int.ofNat_zero, rowsN_nil] at a1 a2 a3 j1 j2
    simp only [dupG]
    by_cases q : f.name ∈ done.map (·.name)
    · refine ⟨(fun h => by simp [q] at h), fun _ => ⟨_, Loop_ret (τ' := τ ++ [⟨[.p (slP p.anl 2 (rowsA p.arrays)), .p (slP p.fnl 9 (rowsF p.funcs))], .live, 2, true⟩, acc 1 (rowsN arrs), acc 1 (rowsN (done.map (·.name))), ⟨[.p (.str f.name), .p (slP f.pnl 1 (rowsN f.params)), .p (slP f.lnl 1 (rowsN f.locals)), .p (slP f.bnl 17 (rowsS f.body)), .p (.int .i64 kv), .p (.int .i64 nv), .p (.str sv), .p (.int .i64 ov), .p vv], .live, 9, true⟩]) ?_⟩⟩
      simp [go_sem, lb_r3_hasDuplicates_2, hl, hlt, hat, hat2, hcc, q, -Bool.exists_bool]
    · cases hdq : dupFrom arrs (f.params ++ f.locals) with
      | true =>
        obtain ⟨seen', j2⟩ := j2 hdq
        refine ⟨(fun h => by simp at h), fun _ => ⟨_, Loop_ret (τ' := τ ++ (⟨[.p (slP p.anl 2 (rowsA p.arrays)), .p (slP p.fnl 9 (rowsF p.funcs))], .live, 2, true⟩ :: acc 1 (rowsN arrs) :: acc 1 (rowsN (done.map (·.name) ++ [f.name])) :: ⟨[.p (.str f.name), .p (slP f.pnl 1 (rowsN f.params)), .p (slP f.lnl 1 (rowsN f.locals)), .p (slP f.bnl 17 (rowsS f.body)), .p (.int .i64 kv), .p (.int .i64 nv), .p (.str sv), .p (.int .i64 ov), .p vv], .live, 9, true⟩ :: nb1 seen' true :: L2)) ?_⟩⟩
        simp [go_sem, lb_r3_hasDuplicates_2, hl, hlt, hat, hat2, hw, hcc, happ, happ2, htr, hrf, tmB, refsB, a1, a2, a3, hP, q, j2, -Bool.exists_bool]
      | false =>
        obtain ⟨tm', seen', j1, t1, t3, t4, t6⟩ := j1 hdq
        rw [Loop_step (tm' := [(1, .ptr τ.length 2 0), (3, accV (τ.length + 1) 1 (rowsN arrs)), (4, accV (τ.length + 2) 1 (rowsN (done.map (·.name) ++ [f.name]))), (6, .i ((done.length + 1 : Nat) : Int))]) (τ' := τ ++ [⟨[.p (slP p.anl 2 (rowsA p.arrays)), .p (slP p.fnl 9 (rowsF p.funcs))], .live, 2, true⟩, acc 1 (rowsN arrs), acc 1 (rowsN (done.map (·.name) ++ [f.name]))])]
        · simp only [q, decide_false, Bool.false_or]
          exact ⟨ih1, ih2⟩
        · simp [go_sem, lb_r3_hasDuplicates_2, hl, hlt, hat, hat2, hw, hcc, happ, happ2, htr, hrf, tmB, refsB, a1, a2, a3, hP, q, j1, t1, t3, t4, t6, -Bool.exists_bool]
theorem dup_eq (hc : T F_r3_contains = some sf_r3_contains) (hT : T F_r3_hasDuplicates = some sf_r3_hasDuplicates) (p : LP) (hx : p.arrays ≠ []) (hsa : p.arrays.length ≤ 900) (hsz : p.funcs.length ≤ 900) (hN : ∀ f, f ∈ p.funcs → f.params.length + f.locals.length ≤ 900) (τ : St2) : go T F_r3_hasDuplicates [.agg (p.row.map .p)] τ = some (.b (dupP p), τ) := by
  obtain ⟨a1, a2⟩ := dupA_loop hc p τ hsa p.arrays [] rfl
  obtain ⟨f1, f2⟩ := dupF_loop hc p τ (anames p) (by simpa [anames] using hx) (by simpa [anames] using hsa) hsz hN p.funcs [] rfl
  simp only [List.map_nil, List.length_nil, Int.ofNat_zero, PB2, rowsN_nil, ← acc_start, ← accV_start] at a1 a2 f1 f2
  have hlv := fun L x => leave_pL τ L x
  rw [go_eq, hT]
  unfold dupP
  have hAn : p.arrays.map (·.1) = anames p := rfl
  rw [hAn] at a1 a2
  cases ha : dupFrom [] (anames p) with
  | true =>
    obtain ⟨L, a2⟩ := a2 ha
    simp [go_sem, sf_r3_hasDuplicates, LP.row, hlv, a2, -Bool.exists_bool]
  | false =>
    have a1 := a1 ha
    cases hf : dupG (anames p) [] p.funcs with
    | true =>
      obtain ⟨L, f2⟩ := f2 hf
      simp [go_sem, sf_r3_hasDuplicates, LP.row, hlv, a1, f2, -Bool.exists_bool]
    | false =>
      obtain ⟨tm, L, f1⟩ := f1 hf
      simp [go_sem, sf_r3_hasDuplicates, LP.row, hlv, a1, f1, -Bool.exists_bool]
structure HWfP (T : FuncId → Option SF) : Prop extends HWfS T where
  wfP : T F_r3_wellFormed = some sf_r3_wellFormed
theorem wf_eq (H : HWfP T) (p : LP) (hs : szP p ≤ big) (hN : ∀ f, f ∈ p.funcs → f.params.length + f.locals.length ≤ 900) (τ : St2) : go T F_r3_wellFormed [.agg (p.row.map .p)] τ = some (.b (wfP p), τ) := by
  have hlen := szP_len p
  obtain ⟨a1, a2⟩ := wfA_loop (go T) p τ (by omega) (fun a ha => valid_eq H.toHName a.1 (by have := szP_ar ha; omega))
  obtain ⟨f1, f2⟩ := wfF_loop (go T) p τ (by omega) (fun f hf => by
    have h1 := szP_fn hf
    have h2 : f.name.length + (f.params.map List.length).sum + (f.locals.map List.length).sum + szSs f.body + szE f.value ≤ szF f := by unfold szF; omega
    refine ⟨by have := hN f hf; simp; omega, fun x hx => valid_eq H.toHName x ?_, wfSs_eq H.toHWfS f.body f.bnl (by omega), wfE_eq H.toHWf f.value (by omega)⟩
    simp only [List.mem_append, List.mem_singleton] at hx
    rcases hx with (rfl | hx) | hx
    · omega
    · have := sum_mem List.length hx; omega
    · have := sum_mem List.length hx; omega)
  simp only [PB2, Int.ofNat_zero] at a1 a2 f1 f2
  have hlv := fun L x => leave_pL τ L x
  rw [go_eq, H.wfP]
  unfold Go.Proofs.YtpkchglfgkkcbaaDoor.Vs.wfP
  cases ha : p.arrays.all fun a => validL a.1 with
  | false =>
    obtain ⟨L, a2⟩ := a2 ha
    simp only [List.append_assoc, List.cons_append, List.nil_append] at a2
    simp [go_sem, sf_r3_wellFormed, LP.row, hlv, a2, -Bool.exists_bool]
  | true =>
    have a1 := a1 ha
    cases hf : p.funcs.all wfF with
    | false =>
      obtain ⟨L, f2⟩ := f2 hf
      simp only [List.append_assoc, List.cons_append, List.nil_append] at f2
      simp [go_sem, sf_r3_wellFormed, LP.row, hlv, a1, f2, -Bool.exists_bool]
    | true =>
      have f1 := f1 hf
      simp [go_sem, sf_r3_wellFormed, LP.row, hlv, a1, f1, -Bool.exists_bool]
end
section
variable {T : FuncId → Option SF}
def XB (cv ca : C) (p : LP) : B2 := ⟨[cv, ca, .p (slP p.anl 2 (rowsA p.arrays)), .p (slP p.fnl 9 (rowsF p.funcs))], .live, 4, true⟩
def tmA (τ : St2) (r j i : Int) : Tm := [(1, .ptr τ.length 2 0), (3, .i r), (4, .i j), (5, .ptr (τ.length + 1) 9 0), (6, .ptr (τ.length + 2) 4 0), (7, .i i)]
theorem arr_first (call : Call2) (p : LP) (τ : St2) (K : B2) (cv : C) (_hcv : isCell cv = true) (L2 : St2) (r j : Int) (a : Str × Int) (rest : List (Str × Int)) (hd : p.arrays = a :: rest) :
    round [1, 3, 4, 5, 6, 7] (evS ⟨fun _ => false, false⟩ call lb_r3_Check_0) (tmA τ r j 0) (τ ++ (PB2 p :: K :: XB cv (.p .nils) p :: L2)) = some (.normal, tmA τ r j 1, τ ++ (PB2 p :: K :: XB cv (.ms (τ.length + (3 + L2.length)) 1 0 1 ucap) p :: (L2 ++ [nb1 [a.1] true]))) := by
  have hl : (rowsA p.arrays).length = p.arrays.length := by simp [rowsA]
  have hat : (rowsA p.arrays)[0]? = some [.str a.1, .int .i64 a.2] := by rw [hd]; rfl
  have hat2 := at2 hat
  have hlt : (0 : Int) < (p.arrays.length : Int) := by rw [hd]; simp only [List.length_cons]; omega
  have hlt0 : 0 < p.arrays.length := by rw [hd]; simp
  have happ : appC (τ ++ (PB2 p :: K :: XB cv (.p .nils) p :: L2)) 1 (.p .nils) (.p (.list true 1 [[.str a.1]])) = some (.ms (τ.length + (3 + L2.length)) 1 0 1 ucap, τ ++ (PB2 p :: K :: XB cv (.p .nils) p :: (L2 ++ [nb1 [a.1] true]))) := by
    simp [appC, srcC, appTo, newMs, nb1, nb, nl, isCell]
    omega
  have htr : ∀ tm, trunc tm (τ ++ (PB2 p :: K :: XB cv (.p .nils) p :: L2)) (τ ++ (PB2 p :: K :: XB cv (.ms (τ.length + (3 + L2.length)) 1 0 1 ucap) p :: (L2 ++ [nb1 [a.1] true]))) = τ ++ (PB2 p :: K :: XB cv (.ms (τ.length + (3 + L2.length)) 1 0 1 ucap) p :: (L2 ++ [nb1 [a.1] true])) := fun tm =>
    trunc_no (i := τ.length + 2) (by simp) (by rw [at_add]; rfl) (by rw [at_add]; rfl) (fun e => by have := congrArg B2.cells e; simp [XB] at this) (by simp [XB, refsBs, refsB, nl]; omega)
  have hw1 : IntKind.i64.wrap 1 = 1 := rfl
  simp only [tmA, PB2, XB] at happ htr ⊢
  simp [go_sem, lb_r3_Check_0, hl, hat, hat2, hlt, hlt0, happ, htr, hw1, -Bool.exists_bool]
theorem at_end (τ : St2) (P K X : B2) (L2 : St2) (N : B2) : (τ ++ (P :: K :: X :: (L2 ++ [N])))[τ.length + (3 + L2.length)]? = some N := by
  rw [at_add, show 3 + L2.length = L2.length + 3 by omega]
  simp
theorem set_end (τ : St2) (P K X : B2) (L2 : St2) (N N' : B2) : (τ ++ (P :: K :: X :: (L2 ++ [N]))).set (τ.length + (3 + L2.length)) N' = τ ++ (P :: K :: X :: (L2 ++ [N'])) := by
  rw [set_add, show 3 + L2.length = L2.length + 3 by omega]
  simp
theorem arr_next (call : Call2) (p : LP) (τ : St2) (K : B2) (cv : C) (_hcv : isCell cv = true) (L2 : St2) (hrv : refsB (τ.length + (4 + L2.length)) cv = true) (_hL2 : ∀ k, refsBs k (L2.flatMap fun B => B.cells) = true) (r j : Int) (done : List (Str × Int)) (a : Str × Int) (rest : List (Str × Int)) (hd : done ++ a :: rest = p.arrays) (hn : p.arrays.length ≤ 900) :
    round [1, 3, 4, 5, 6, 7] (evS ⟨fun _ => false, false⟩ call lb_r3_Check_0) (tmA τ r j (done.length : Nat)) (τ ++ (PB2 p :: K :: XB cv (.ms (τ.length + (3 + L2.length)) done.length 0 done.length ucap) p :: (L2 ++ [nb1 (done.map (·.1)) true]))) = some (.normal, tmA τ r j ((done.length + 1 : Nat) : Int), τ ++ (PB2 p :: K :: XB cv (.ms (τ.length + (3 + L2.length)) (done.length + 1) 0 (done.length + 1) ucap) p :: (L2 ++ [nb1 (done.map (·.1) ++ [a.1]) true]))) := by
  have hbig : 1000 ≤ big := by decide
  have hl : (rowsA p.arrays).length = p.arrays.length := by simp [rowsA]
  have hat := rowsA_at hd
  have hat2 := at2 hat
  have hlt : done.length < p.arrays.length := by rw [← hd]; simp
  have hw := wrap_b (n := done.length + 1) (by omega)
  simp only [Int.natCast_add, Int.natCast_one] at hw
  have happ0 := app_own (τ := τ ++ (PB2 p :: K :: XB cv (.ms (τ.length + (3 + L2.length)) done.length 0 done.length ucap) p :: (L2 ++ [nb1 (done.map (·.1)) true]))) (l := τ.length + (3 + L2.length)) (as := done.map (·.1)) (d := true) (at_end ..) [a.1] (some true) (by simp; omega)
  rw [if_neg (by simp), set_end] at happ0
  have happ : appC (τ ++ (PB2 p :: K :: XB cv (.ms (τ.length + (3 + L2.length)) done.length 0 done.length ucap) p :: (L2 ++ [nb1 (done.map (·.1)) true]))) 1 (.ms (τ.length + (3 + L2.length)) done.length 0 done.length ucap) (.p (.list true 1 [[.str a.1]])) = some (.ms (τ.length + (3 + L2.length)) (done.length + 1) 0 (done.length + 1) ucap, τ ++ (PB2 p :: K :: XB cv (.ms (τ.length + (3 + L2.length)) done.length 0 done.length ucap) p :: (L2 ++ [nb1 (done.map (·.1) ++ [a.1]) true]))) := by
    have happ1 : appC (τ ++ (PB2 p :: K :: XB cv (.ms (τ.length + (3 + L2.length)) done.length 0 done.length ucap) p :: (L2 ++ [nb1 (done.map (·.1)) true]))) 1 (.ms (τ.length + (3 + L2.length)) (done.map (·.1)).length 0 (done.map (·.1)).length ucap) (.p (.list true 1 [[.str a.1]])) = _ := happ0
    simpa using happ1
  have hpure : ∀ (xs : List Str) k, refsBs k (xs.map fun s => C.p (.str s)) = true := fun xs k => by
    have := refs_p k (xs.map PV.str)
    rwa [List.map_map] at this
  have htr : ∀ tm, tmB (τ.length + (4 + L2.length)) tm = true → trunc tm (τ ++ (PB2 p :: K :: XB cv (.ms (τ.length + (3 + L2.length)) done.length 0 done.length ucap) p :: (L2 ++ [nb1 (done.map (·.1)) true]))) (τ ++ (PB2 p :: K :: XB cv (.ms (τ.length + (3 + L2.length)) (done.length + 1) 0 (done.length + 1) ucap) p :: (L2 ++ [nb1 (done.map (·.1) ++ [a.1]) true]))) = τ ++ (PB2 p :: K :: XB cv (.ms (τ.length + (3 + L2.length)) (done.length + 1) 0 (done.length + 1) ucap) p :: (L2 ++ [nb1 (done.map (·.1) ++ [a.1]) true])) := fun tm h => by
    have hlen : (PB2 p :: K :: XB cv (.ms (τ.length + (3 + L2.length)) done.length 0 done.length ucap) p :: (L2 ++ [nb1 (done.map (·.1)) true])).length = 4 + L2.length := by simp; omega
    rw [trunc_app (L0 := PB2 p :: K :: XB cv (.ms (τ.length + (3 + L2.length)) done.length 0 done.length ucap) p :: (L2 ++ [nb1 (done.map (·.1)) true])) (by rw [hlen]; exact h) (by simp) (fun i hi => ?_)]
    · rw [List.take_of_length_le (by simp)]
    · rw [hlen] at hi ⊢
      match i with
      | 0 => exact .inl rfl
      | 1 => exact .inl rfl
      | 2 => exact .inr fun T hT => by obtain rfl := Option.some.inj hT; simp only [XB, refsBs, hrv, refsB, nl]; simp; omega
      | i + 3 =>
        simp only [List.getElem?_cons_succ]
        by_cases hi2 : i < L2.length
        · left
          rw [List.getElem?_append_left hi2, List.getElem?_append_left hi2]
        · right
          intro T hT
          obtain rfl : i = L2.length := by omega
          rw [List.getElem?_append_right (Nat.le_refl _), Nat.sub_self] at hT
          obtain rfl := Option.some.inj hT
          exact hpure _ _
  have h1 : τ.length + 1 ≤ τ.length + (4 + L2.length) := by omega
  have h2 : τ.length + 2 ≤ τ.length + (4 + L2.length) := by omega
  have h3 : τ.length + 3 ≤ τ.length + (4 + L2.length) := by omega
  simp only [tmA, PB2, XB] at happ htr ⊢
  simp [go_sem, lb_r3_Check_0, hl, hlt, hat, hat2, happ, htr, hw, tmB, refsB, h1, h2, h3, -Bool.exists_bool]
theorem arr_end (call : Call2) (p : LP) (τ : St2) (r j : Int) (L : St2) : round [1, 3, 4, 5, 6, 7] (evS ⟨fun _ => false, false⟩ call lb_r3_Check_0) (tmA τ r j (p.arrays.length : Nat)) (τ ++ (PB2 p :: L)) = some (.exit 5, tmA τ r j (p.arrays.length : Nat) ++ [(47, .b false)], τ ++ (PB2 p :: L)) := by
  have hl : (rowsA p.arrays).length = p.arrays.length := by simp [rowsA]
  simp only [tmA, PB2]
  simp [go_sem, lb_r3_Check_0, hl, -Bool.exists_bool]
theorem arr_loop (call : Call2) (p : LP) (hx : p.arrays ≠ []) (hn : p.arrays.length ≤ 900) (τ : St2) (K : B2) (cv : C) (hcv : isCell cv = true) (L2 : St2) (hrv : refsB (τ.length + (4 + L2.length)) cv = true) (hL2 : ∀ k, refsBs k (L2.flatMap fun B => B.cells) = true) (r j : Int) :
    Loop (round [1, 3, 4, 5, 6, 7] (evS ⟨fun _ => false, false⟩ call lb_r3_Check_0)) (tmA τ r j 0) (τ ++ (PB2 p :: K :: XB cv (.p .nils) p :: L2)) = some (.exit 5, tmA τ r j (p.arrays.length : Nat) ++ [(47, .b false)], τ ++ (PB2 p :: K :: XB cv (.ms (τ.length + (3 + L2.length)) (anames p).length 0 (anames p).length ucap) p :: (L2 ++ [nb1 (anames p) true]))) := by
  have key : ∀ (rest done : List (Str × Int)), done ++ rest = p.arrays → Loop (round [1, 3, 4, 5, 6, 7] (evS ⟨fun _ => false, false⟩ call lb_r3_Check_0)) (tmA τ r j (done.length : Nat)) (τ ++ (PB2 p :: K :: XB cv (.ms (τ.length + (3 + L2.length)) done.length 0 done.length ucap) p :: (L2 ++ [nb1 (done.map (·.1)) true]))) = some (.exit 5, tmA τ r j (p.arrays.length : Nat) ++ [(47, .b false)], τ ++ (PB2 p :: K :: XB cv (.ms (τ.length + (3 + L2.length)) (anames p).length 0 (anames p).length ucap) p :: (L2 ++ [nb1 (anames p) true]))) := by
    intro rest
    induction rest with
    | nil =>
      intro done hd
      obtain rfl : done = p.arrays := by simpa using hd
      rw [Loop_exit (arr_end call p τ r j _)]
      simp [anames]
    | cons a rest ih =>
      intro done hd
      rw [Loop_step (arr_next call p τ K cv hcv L2 hrv hL2 r j done a rest hd hn)]
      have := ih (done ++ [a]) (by simpa using hd)
      simpa using this
  cases hA : p.arrays with
  | nil => exact absurd hA hx
  | cons a rest =>
    rw [Loop_step (arr_first call p τ K cv hcv L2 r j a rest hA)]
    have := key rest [a] (by rw [hA]; rfl)
    rw [hA] at this
    simpa using this
end
def def1F (p : LP) (f : LF) : Bool := chkSs (f.params ++ f.locals) (anames p) p.funcs false f.body && defE (f.params ++ f.locals) (anames p) f.value
def def2F (p : LP) (f : LF) : Bool := chkSs (f.params ++ f.locals) (anames p) p.funcs true f.body
def checkL (p : LP) : Int := if limP p then 6 else if !wfP p then 2 else if dupP p then 4 else if !p.funcs.all (def1F p) then 3 else if !p.funcs.all (def2F p) then 5 else 0
def X0B : B2 := ⟨[.p .nils, .p .nils, .p .nils, .p .nils], .live, 4, true⟩
theorem SV.shape {τ : St2} {c : C} {xs : List Str} (h : SV τ c xs) : (∃ x, c = .p x) ∨ ∃ l n, c = .ms l n 0 n ucap := by
  cases h with
  | pure nl xs => exact .inl ⟨_, rfl⟩
  | own h => exact .inr ⟨_, _, rfl⟩
  | virt h => exact .inr ⟨_, 0, rfl⟩
section
variable {T : FuncId → Option SF}
set_option maxHeartbeats 2000000 in
theorem fn_round (HS : HScope T) (p : LP) (hs : szP p ≤ big) (hx : p.arrays ≠ []) (hn : p.arrays.length ≤ 900) (hfs : p.funcs.length ≤ 900) (hN : ∀ f, f ∈ p.funcs → f.params.length + f.locals.length ≤ 900) (τ : St2) (r : Nat) (hr2 : r = 0 ∨ r = 1) (hdef : r = 1 → ∀ f, f ∈ p.funcs → def1F p f = true)
    (done : List LF) (f : LF) (rest : List LF) (hd : done ++ f :: rest = p.funcs) :
    ((if r = 0 then def1F p f else def2F p f) = true → round [1, 3, 4] (evS ⟨fun _ => false, false⟩ (go T) lb_r3_Check_1) [(1, .ptr τ.length 2 0), (3, .i (r : Nat)), (4, .i (done.length : Nat))] (τ ++ [PB2 p]) = some (.normal, [(1, .ptr τ.length 2 0), (3, .i (r : Nat)), (4, .i ((done.length + 1 : Nat) : Int))], τ ++ [PB2 p])) ∧
    ((if r = 0 then def1F p f else def2F p f) = false → ∃ L, round [1, 3, 4] (evS ⟨fun _ => false, false⟩ (go T) lb_r3_Check_1) [(1, .ptr τ.length 2 0), (3, .i (r : Nat)), (4, .i (done.length : Nat))] (τ ++ [PB2 p]) = some (.ret, [(2, .i (if r = 0 then 3 else 5))], τ ++ (PB2 p :: L))) := by
  have hl : (rowsF p.funcs).length = p.funcs.length := by simp [rowsF]
  have hbig : 1000 ≤ big := by decide
  have hlt : done.length < p.funcs.length := by rw [← hd]; simp
  have hmem : f ∈ p.funcs := by rw [← hd]; simp
  have hat := rowsF_at hd
  have hfN := hN f hmem
  have hw := wrap_b (n := done.length + 1) (by omega)
  simp only [Int.natCast_add, Int.natCast_one] at hw
  have hsz := szP_fn hmem
  have hsz2 : szSs f.body + szE f.value ≤ szF f := by unfold szF; omega
  obtain ⟨c1, L1, c2, L2, L3, a1, a2, -, a4, a5, a6, a7, a8⟩ := app2 (τ ++ [PB2 p, FB f, X0B]) [] f.params f.locals f.pnl f.lnl (by simp; omega)
  have hP1 : (cleanT (τ ++ [PB2 p, FB f, X0B]) ++ L1)[τ.length]? = some { PB2 p with dirty := false } := by
    rw [List.getElem?_append_left (by simp [cleanT_len]), at_c0]; rfl
  have hP2 : (cleanT (τ ++ [PB2 p, FB f, X0B]) ++ L1)[τ.length + 1]? = some { FB f with dirty := false } := by
    rw [List.getElem?_append_left (by simp [cleanT_len]), at_ck]; rfl
  have hP3 : (cleanT (τ ++ [PB2 p, FB f, X0B]) ++ L3)[τ.length]? = some { PB2 p with dirty := false } := by
    rw [List.getElem?_append_left (by simp [cleanT_len]), at_c0]; rfl
  have sv2 : ∀ X N, SV (τ ++ (PB2 p :: FB f :: X :: (L2 ++ [N]))) c2 (f.params ++ f.locals) := fun X N => by
    have := a6 (τ ++ [PB2 p, FB f, X]) [N] (by simp)
    simpa using this
  have sva : ∀ X, SV (τ ++ (PB2 p :: FB f :: X :: (L2 ++ [nb1 (anames p) true]))) (.ms (τ.length + (3 + L2.length)) (anames p).length 0 (anames p).length ucap) (anames p) := fun X => .own (at_end ..)
  have hcv := (sv2 X0B X0B).cell
  have hrv : refsB (τ.length + (4 + L2.length)) c2 = true := by
    have := (sv2 X0B X0B).refs
    rw [show (τ ++ (PB2 p :: FB f :: X0B :: (L2 ++ [X0B]))).length = τ.length + (4 + L2.length) by simp; omega] at this
    exact this
  have hloop := arr_loop (go T) p hx hn τ (FB f) c2 hcv L2 hrv a8 (r : Nat) (done.length : Nat)
  have han : (anames p).length ≤ big := by simp [anames]; omega
  have hvs : (f.params ++ f.locals).length ≤ big := by simp; omega
  have e1 := fun X => chk_eq HS (f.params ++ f.locals) (anames p) false hvs han c2 (.ms (τ.length + (3 + L2.length)) (anames p).length 0 (anames p).length ucap) (slP p.anl 2 (rowsA p.arrays)) p.fnl p.funcs (by omega) f.body f.bnl (by omega) (fun h => by cases h) _ (sv2 X (nb1 (anames p) true)) (sva X)
  have e2 := fun X => defE_eq HS (f.params ++ f.locals) (anames p) hvs han c2 (.ms (τ.length + (3 + L2.length)) (anames p).length 0 (anames p).length ucap) (slP p.anl 2 (rowsA p.arrays)) (slP p.fnl 9 (rowsF p.funcs)) f.value (by omega) _ (sv2 X (nb1 (anames p) true)) (sva X)
  have e3 := fun (hc : r = 1) X => chk_eq HS (f.params ++ f.locals) (anames p) true hvs han c2 (.ms (τ.length + (3 + L2.length)) (anames p).length 0 (anames p).length ucap) (slP p.anl 2 (rowsA p.arrays)) p.fnl p.funcs (by omega) f.body f.bnl (by omega) (fun _ => by
    have := hdef hc f hmem
    unfold def1F at this
    rw [Bool.and_eq_true] at this
    exact this.1) _ (sv2 X (nb1 (anames p) true)) (sva X)
  have htr : ∀ (tm : Tm) (B : B2) (L : St2), tmB (τ.length + 1) tm = true → trunc tm (τ ++ [B]) (τ ++ B :: L) = τ ++ [B] := fun tm B L h => trunc1 h
  obtain ⟨kv, nv, sv, ov, vv, hv', hr⟩ := f.row9
  rw [hr] at hat
  have hat2 := at2 hat
  have hsh := (sv2 X0B X0B).shape
  obtain ⟨cc, hcc⟩ : ∃ cc, cc = c2 := ⟨_, rfl⟩
  clear sv2 sva a6 a7 a8 hrv hsz hsz2
  simp only [PB2, FB, hr, hv', X0B, XB, tmA, List.map] at hP1 hP2 hP3 a1 a2 a4 a5 hloop e1 e2 e3 ⊢
  simp only [List.append_assoc, List.cons_append, List.nil_append, rowsN_nil] at a1 a2 a4 a5 hloop
  have i1 : ((1 : Nat) : Int) = 1 := rfl
  have i0 : ((0 : Nat) : Int) = 0 := rfl
  rcases hr2 with rfl | rfl
  · simp only [if_true, i0] at hloop ⊢
    clear e3
    unfold def1F
    rcases hsh with ⟨x, rfl⟩ | ⟨lx, nx, rfl⟩
    all_goals
      cases q1 : chkSs (f.params ++ f.locals) (anames p) p.funcs false f.body with
      | false =>
        refine ⟨(fun h => by simp at h), fun _ => ⟨⟨[.p (.str f.name), .p (slP f.pnl 1 (rowsN f.params)), .p (slP f.lnl 1 (rowsN f.locals)), .p (slP f.bnl 17 (rowsS f.body)), .p (.int .i64 kv), .p (.int .i64 nv), .p (.str sv), .p (.int .i64 ov), .p vv], .live, 9, true⟩ :: ⟨[cc, .ms (τ.length + (3 + L2.length)) (anames p).length 0 (anames p).length ucap, .p (slP p.anl 2 (rowsA p.arrays)), .p (slP p.fnl 9 (rowsF p.funcs))], .live, 4, true⟩ :: (L2 ++ [nb1 (anames p) true]), ?_⟩⟩
        simp [go_sem, lb_r3_Check_1, hl, hlt, hat, hat2, hw, htr, tmB, refsB, a1, a2, a4, a5, hP1, hP2, hP3, hloop, e1, q1, hcc, -Bool.exists_bool]
      | true =>
        cases q2 : defE (f.params ++ f.locals) (anames p) f.value with
        | false =>
          refine ⟨(fun h => by simp at h), fun _ => ⟨⟨[.p (.str f.name), .p (slP f.pnl 1 (rowsN f.params)), .p (slP f.lnl 1 (rowsN f.locals)), .p (slP f.bnl 17 (rowsS f.body)), .p (.int .i64 kv), .p (.int .i64 nv), .p (.str sv), .p (.int .i64 ov), .p vv], .live, 9, true⟩ :: ⟨[cc, .ms (τ.length + (3 + L2.length)) (anames p).length 0 (anames p).length ucap, .p (slP p.anl 2 (rowsA p.arrays)), .p (slP p.fnl 9 (rowsF p.funcs))], .live, 4, true⟩ :: (L2 ++ [nb1 (anames p) true]), ?_⟩⟩
          simp [go_sem, lb_r3_Check_1, hl, hlt, hat, hat2, hw, htr, tmB, refsB, a1, a2, a4, a5, hP1, hP2, hP3, hloop, e1, e2, q1, q2, hcc, -Bool.exists_bool]
        | true =>
          refine ⟨fun _ => ?_, fun h => by simp at h⟩
          simp [go_sem, lb_r3_Check_1, hl, hlt, hat, hat2, hw, htr, tmB, refsB, a1, a2, a4, a5, hP1, hP2, hP3, hloop, e1, e2, q1, q2, -Bool.exists_bool]
  · simp only [i1] at hloop ⊢
    have e3 := e3 rfl
    unfold def2F
    rcases hsh with ⟨x, rfl⟩ | ⟨lx, nx, rfl⟩
    all_goals
      cases q1 : chkSs (f.params ++ f.locals) (anames p) p.funcs true f.body with
      | false =>
        refine ⟨(fun h => by simp at h), fun _ => ⟨⟨[.p (.str f.name), .p (slP f.pnl 1 (rowsN f.params)), .p (slP f.lnl 1 (rowsN f.locals)), .p (slP f.bnl 17 (rowsS f.body)), .p (.int .i64 kv), .p (.int .i64 nv), .p (.str sv), .p (.int .i64 ov), .p vv], .live, 9, true⟩ :: ⟨[cc, .ms (τ.length + (3 + L2.length)) (anames p).length 0 (anames p).length ucap, .p (slP p.anl 2 (rowsA p.arrays)), .p (slP p.fnl 9 (rowsF p.funcs))], .live, 4, true⟩ :: (L2 ++ [nb1 (anames p) true]), ?_⟩⟩
        simp [go_sem, lb_r3_Check_1, hl, hlt, hat, hat2, hw, htr, tmB, refsB, a1, a2, a4, a5, hP1, hP2, hP3, hloop, e3, q1, hcc, -Bool.exists_bool]
      | true =>
        refine ⟨fun _ => ?_, fun h => by simp at h⟩
        simp [go_sem, lb_r3_Check_1, hl, hlt, hat, hat2, hw, htr, tmB, refsB, a1, a2, a4, a5, hP1, hP2, hP3, hloop, e3, q1, -Bool.exists_bool]
end
section
variable {T : FuncId → Option SF}
theorem fn_loop (HS : HScope T) (p : LP) (hs : szP p ≤ big) (hx : p.arrays ≠ []) (hn : p.arrays.length ≤ 900) (hfs : p.funcs.length ≤ 900) (hN : ∀ f, f ∈ p.funcs → f.params.length + f.locals.length ≤ 900) (τ : St2) (r : Nat) (hr2 : r = 0 ∨ r = 1) (hdef : r = 1 → ∀ f, f ∈ p.funcs → def1F p f = true) :
    (p.funcs.all (fun f => if r = 0 then def1F p f else def2F p f) = true → Loop (round [1, 3, 4] (evS ⟨fun _ => false, false⟩ (go T) lb_r3_Check_1)) [(1, .ptr τ.length 2 0), (3, .i (r : Nat)), (4, .i (0 : Nat))] (τ ++ [PB2 p]) = some (.exit 3, [(1, .ptr τ.length 2 0), (3, .i (r : Nat)), (4, .i (p.funcs.length : Nat)), (26, .b false)], τ ++ [PB2 p])) ∧
    (p.funcs.all (fun f => if r = 0 then def1F p f else def2F p f) = false → ∃ L, Loop (round [1, 3, 4] (evS ⟨fun _ => false, false⟩ (go T) lb_r3_Check_1)) [(1, .ptr τ.length 2 0), (3, .i (r : Nat)), (4, .i (0 : Nat))] (τ ++ [PB2 p]) = some (.ret, [(2, .i (if r = 0 then 3 else 5))], (τ ++ [PB2 p]) ++ L)) := by
  have hl : (rowsF p.funcs).length = p.funcs.length := by simp [rowsF]
  refine search0 (E := fun i => [(1, .ptr τ.length 2 0), (3, .i (r : Nat)), (4, .i (i : Nat))]) (fun done f rest hd hp => ?_) (fun done f rest hd hp => ?_) ?_
  · exact (fn_round HS p hs hx hn hfs hN τ r hr2 hdef done f rest hd).1 hp
  · obtain ⟨L, h⟩ := (fn_round HS p hs hx hn hfs hN τ r hr2 hdef done f rest hd).2 hp
    exact ⟨L, by rw [h]; simp⟩
  · simp only [PB2]
    simp [go_sem, lb_r3_Check_1, hl, -Bool.exists_bool]
structure HCheck (T : FuncId → Option SF) : Prop extends HScope T, HWfP T, HLim T where
  dup : T F_r3_hasDuplicates = some sf_r3_hasDuplicates
  chk : T F_r3_Check = some sf_r3_Check
theorem limP_false {p : LP} (h : limP p = false) : p.arrays.length ≤ 4 ∧ p.funcs.length ≤ 8 ∧ ∀ f, f ∈ p.funcs → f.params.length ≤ 6 ∧ f.locals.length ≤ 8 := by
  unfold limP at h
  simp only [Bool.or_eq_false_iff, decide_eq_false_iff_not, Bool.not_eq_false', List.all_eq_true] at h
  obtain ⟨h1, h2, h3, h4⟩ := h
  refine ⟨by omega, by omega, fun f hf => ?_⟩
  have := h4 f hf
  unfold limF at this
  simp only [Bool.not_eq_true', Bool.or_eq_false_iff, decide_eq_false_iff_not] at this
  omega
theorem check_rounds (H : HCheck T) (p : LP) (hs : szP p ≤ big) (hx : p.arrays ≠ []) (hn : p.arrays.length ≤ 900) (hfs : p.funcs.length ≤ 900) (hN : ∀ f, f ∈ p.funcs → f.params.length + f.locals.length ≤ 900) (τ : St2) :
    (p.funcs.all (def1F p) = true → p.funcs.all (def2F p) = true → Loop (round [1, 3] (evS ⟨fun _ => false, false⟩ (go T) lb_r3_Check_2)) [(1, .ptr τ.length 2 0), (3, .i 0)] (τ ++ [PB2 p]) = some (.exit 1, [(1, .ptr τ.length 2 0), (3, .i 2), (19, .b false)], τ ++ [PB2 p])) ∧
    (p.funcs.all (def1F p) = false → ∃ L, Loop (round [1, 3] (evS ⟨fun _ => false, false⟩ (go T) lb_r3_Check_2)) [(1, .ptr τ.length 2 0), (3, .i 0)] (τ ++ [PB2 p]) = some (.ret, [(2, .i 3)], τ ++ L)) ∧
    (p.funcs.all (def1F p) = true → p.funcs.all (def2F p) = false → ∃ L, Loop (round [1, 3] (evS ⟨fun _ => false, false⟩ (go T) lb_r3_Check_2)) [(1, .ptr τ.length 2 0), (3, .i 0)] (τ ++ [PB2 p]) = some (.ret, [(2, .i 5)], τ ++ L)) := by
  obtain ⟨a1, a2⟩ := fn_loop H.toHScope p hs hx hn hfs hN τ 0 (.inl rfl) (fun h => by cases h)
  have hw1 : IntKind.i64.wrap 1 = 1 := rfl
  have hw2 : IntKind.i64.wrap 2 = 2 := rfl
  have i1 : ((1 : Nat) : Int) = 1 := rfl
  simp only [if_true, Int.ofNat_zero] at a1 a2
  have s0 : p.funcs.all (def1F p) = true → round [1, 3] (evS ⟨fun _ => false, false⟩ (go T) lb_r3_Check_2) [(1, .ptr τ.length 2 0), (3, .i 0)] (τ ++ [PB2 p]) = some (.normal, [(1, .ptr τ.length 2 0), (3, .i 1)], τ ++ [PB2 p]) := fun h => by
    have a1 := a1 h
    simp [go_sem, lb_r3_Check_2, a1, hw1, -Bool.exists_bool]
  have s2 : round [1, 3] (evS ⟨fun _ => false, false⟩ (go T) lb_r3_Check_2) [(1, .ptr τ.length 2 0), (3, .i 2)] (τ ++ [PB2 p]) = some (.exit 1, [(1, .ptr τ.length 2 0), (3, .i 2), (19, .b false)], τ ++ [PB2 p]) := by
    simp [go_sem, lb_r3_Check_2, -Bool.exists_bool]
  refine ⟨fun h1 h2 => ?_, fun h1 => ?_, fun h1 h2 => ?_⟩
  · have hd : ∀ f, f ∈ p.funcs → def1F p f = true := List.all_eq_true.1 h1
    obtain ⟨b1, b2⟩ := fn_loop H.toHScope p hs hx hn hfs hN τ 1 (.inr rfl) (fun _ => hd)
    have b1 := b1 (by simpa using h2)
    simp only [i1, Int.ofNat_zero] at b1
    rw [Loop_step (s0 h1)]
    refine (Loop_step ?_).trans (Loop_exit s2)
    simp [go_sem, lb_r3_Check_2, b1, hw2, -Bool.exists_bool]
  · obtain ⟨L, a2⟩ := a2 h1
    simp only [List.append_assoc, List.cons_append, List.nil_append] at a2
    refine ⟨PB2 p :: L, Loop_ret ?_⟩
    simp [go_sem, lb_r3_Check_2, a2, -Bool.exists_bool]
  · have hd : ∀ f, f ∈ p.funcs → def1F p f = true := List.all_eq_true.1 h1
    obtain ⟨b1, b2⟩ := fn_loop H.toHScope p hs hx hn hfs hN τ 1 (.inr rfl) (fun _ => hd)
    obtain ⟨L, b2⟩ := b2 (by simpa using h2)
    simp only [i1, Int.ofNat_zero, List.append_assoc, List.cons_append, List.nil_append] at b2
    rw [Loop_step (s0 h1)]
    refine ⟨PB2 p :: L, Loop_ret ?_⟩
    simp [go_sem, lb_r3_Check_2, b2, -Bool.exists_bool]
theorem check_eq (H : HCheck T) (p : LP) (hs : szP p ≤ big) (hx : p.arrays ≠ []) (τ : St2) : go T F_r3_Check [.agg (p.row.map .p)] τ = some (.i (checkL p), τ) := by
  have h1 := fun τ => lim_eq H.toHLim p hs τ
  have hlv := fun L x => leave_pL τ L x
  rw [go_eq, H.chk]
  unfold checkL
  simp only [LP.row, List.map] at h1
  cases hlim : limP p with
  | true =>
    rw [hlim] at h1
    simp [go_sem, sf_r3_Check, LP.row, h1, hlv, -Bool.exists_bool]
  | false =>
    rw [hlim] at h1
    obtain ⟨b1, b2, b3⟩ := limP_false hlim
    have hN : ∀ f, f ∈ p.funcs → f.params.length + f.locals.length ≤ 900 := fun f hf => by have := b3 f hf; omega
    have h2 := fun τ => wf_eq H.toHWfP p hs hN τ
    have h3 := fun τ => dup_eq H.contains H.dup p hx (by omega) (by omega) hN τ
    obtain ⟨c1, c2, c3⟩ := check_rounds H p hs hx (by omega) (by omega) hN τ
    simp only [LP.row, List.map, PB2] at h2 h3 c1 c2 c3
    cases hw : wfP p with
    | false =>
      rw [hw] at h2
      simp [go_sem, sf_r3_Check, LP.row, h1, h2, hlv, -Bool.exists_bool]
    | true =>
      rw [hw] at h2
      cases hd : dupP p with
      | true =>
        rw [hd] at h3
        simp [go_sem, sf_r3_Check, LP.row, h1, h2, h3, hlv, -Bool.exists_bool]
      | false =>
        rw [hd] at h3
        cases ha : p.funcs.all (def1F p) with
        | false =>
          obtain ⟨L, c2⟩ := c2 ha
          simp [go_sem, sf_r3_Check, LP.row, h1, h2, h3, hlv, c2, -Bool.exists_bool]
        | true =>
          cases hb : p.funcs.all (def2F p) with
          | false =>
            obtain ⟨L, c3⟩ := c3 ha hb
            simp [go_sem, sf_r3_Check, LP.row, h1, h2, h3, hlv, c3, -Bool.exists_bool]
          | true =>
            have c1 := c1 ha hb
            simp [go_sem, sf_r3_Check, LP.row, h1, h2, h3, hlv, c1, -Bool.exists_bool]
end
end
end Go.Proofs.YtpkchglfgkkcbaaDoor.Vs
