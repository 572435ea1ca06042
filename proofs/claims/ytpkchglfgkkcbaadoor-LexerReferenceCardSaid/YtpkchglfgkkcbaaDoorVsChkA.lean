/-
  The reference checker, by equations: sizes, depths, forms.
-/
import Derived.Test.YtpkchglfgkkcbaaDoorVsGen
import Derived.Attr

namespace Go.Proofs.YtpkchglfgkkcbaaDoor.Vs
open Go.Proofs.YtpkchglfgkkcbaaDoor.Ev
noncomputable section
attribute [local go_sem] bodyS evS evL want chkV opV isEf neV efV env look put putO keep bi un1 v0 binC isSh binI wb next2 regS condS outS resS tmS nb nl blockS virts round trunc_same len_list len_nils len_ms len_str len_sl idx_list idx_ms idx_sl loadC one binS asN_nat faC cellsAt2 storeC cellsOf isCell setAt buildC partsC fillC repC rowC toPs chunks at_len at_add set_len set_add nilChk callV ev2 fieldC unC pickC slcC slcP bnd obnd asN_lit asN_0 asN_1 asN_2 asN_mod asN_modl succ_ne succ_pos' leave3 leave_p undefC
set_option linter.unusedSimpArgs false
mutual
def szE : LE → Nat
  | .mk _ _ s _ _ kids => 1 + s.length + szEs kids
def szEs : List LE → Nat
  | [] => 0
  | e :: es => szE e + szEs es
end
theorem szE_pos (e : LE) : 0 < szE e := by cases e; simp only [szE]; omega
theorem szEs_mem {k : LE} : ∀ {l : List LE}, k ∈ l → szE k ≤ szEs l
  | e :: es, h => by
    rcases List.mem_cons.1 h with rfl | h
    · simp [szEs]
    · have := szEs_mem h; simp [szEs]; omega
theorem szEs_len : ∀ l : List LE, l.length ≤ szEs l
  | [] => by simp [szEs]
  | e :: es => by have := szEs_len es; have := szE_pos e; simp [szEs]; omega
mutual
def depthL : LE → Nat
  | .mk _ _ _ _ _ kids => depthK kids
def depthK : List LE → Nat
  | [] => 0
  | e :: es => max (1 + depthL e) (depthK es)
end
theorem depth_lt : ∀ e : LE, depthL e < szE e := LE.ind fun k n s o nl kids ih => by
  have : ∀ l : List LE, (∀ e, e ∈ l → depthL e < szE e) → depthK l ≤ szEs l := fun l => by
    induction l with
    | nil => intro _; simp [depthK, szEs]
    | cons e es ih2 =>
      intro h
      have h1 := h e (List.mem_cons_self ..)
      have h2 := ih2 fun x hx => h x (List.mem_cons_of_mem _ hx)
      simp only [depthK, szEs]
      omega
  have := this kids ih
  simp only [depthL, szE]
  omega
abbrev big : Nat := 1099511627776
theorem wrap_b {n : Nat} (h : n ≤ 4 * big) : IntKind.i64.wrap (n : Int) = (n : Int) := wrap_nat (by unfold big at h; omega)
theorem at_mid {α : Type} (a b : List α) (x : α) : (a ++ x :: b)[a.length]? = some x := by simp
theorem at2 {α : Type} {l : List α} {i : Nat} {x : α} (h : l[i]? = some x) : ∀ h' : i < l.length, l[i]'h' = x := fun h' => Option.some.inj ((List.getElem?_eq_getElem h').symm.trans h)
theorem rowsE_at (a b : List LE) (x : LE) : (rowsE (a ++ x :: b))[a.length]? = some x.row := by rw [rowsE_map, List.map_append, List.map_cons]; have := at_mid (a.map LE.row) (b.map LE.row) x.row; rwa [List.length_map] at this
theorem rowsE_lengths (l : List LE) : (rowsE l).length = l.length := by rw [rowsE_map, List.length_map]
section
variable {T : FuncId → Option SF}
theorem depth_loop (call : Call2) (nl : Option Bool) (kids : List LE) (a b c d : PV) (τ : St2) (hsz : kids.length ≤ big) (hk : ∀ k, k ∈ kids → depthL k ≤ big ∧ ∀ τ, call F_r3_depth [.agg (k.row.map .p)] τ = some (.i (depthL k), τ)) : ∀ (rest done : List LE) (m : Nat), done ++ rest = kids → m ≤ big + 1 →
    ∃ tm, Loop (round [1, 3, 4] (evS ⟨fun _ => false, false⟩ call lb_r3_depth_0)) [(1, .ptr τ.length 5 0), (3, .i m), (4, .i done.length)] (τ ++ [⟨[.p a, .p b, .p c, .p d, .p (slP nl 5 (rowsE kids))], .live, 5, true⟩]) = some (.exit 0, tm, τ ++ [⟨[.p a, .p b, .p c, .p d, .p (slP nl 5 (rowsE kids))], .live, 5, true⟩]) ∧ look 3 tm = some (.i ((max m (depthK rest) : Nat) : Int)) := by
  intro rest
  induction rest with
  | nil =>
    intro done m hd hm
    obtain rfl : done = kids := by simpa using hd
    refine ⟨[(1, .ptr τ.length 5 0), (3, .i m), (4, .i done.length), (9, .b false)], Loop_exit ?_, by simp [look, nb, depthK]⟩
    have hl := rowsE_lengths done
    simp [go_sem, lb_r3_depth_0, hl, -Bool.exists_bool]
  | cons k rest ih =>
    intro done m hd hm
    have hbig : 100 ≤ big := by decide
    obtain ⟨h1, h2⟩ := hk k (by rw [← hd]; simp)
    obtain ⟨tm, h3, h4⟩ := ih (done ++ [k]) (max m (1 + depthL k)) (by simpa using hd) (by omega)
    refine ⟨tm, ?_, by rw [h4]; simp only [depthK]; congr 3; omega⟩
    rw [← h3]
    refine Loop_step ?_
    have hlt : done.length < kids.length := by rw [← hd]; simp
    have hl := rowsE_lengths kids
    have hat : (rowsE kids)[done.length]? = some k.row := by rw [← hd]; exact rowsE_at done rest k
    have hw := wrap_b (n := 1 + depthL k) (by omega)
    have hw2 := wrap_b (n := done.length + 1) (by omega)
    obtain ⟨kk, nn, ss, oo, vv, hr⟩ := k.row5
    simp only [hr, List.map] at h2 hat
    have hmx : mxC (.i m) (.i ((1 + depthL k : Nat) : Int)) = some (.i ((max m (1 + depthL k) : Nat) : Int)) := by
      simp only [mxC, decide_true, cond_true]
      congr 3
      split <;> omega
    simp only [Int.natCast_add, Int.natCast_one] at hw hw2 hmx
    have hat2 := at2 hat
    simp [go_sem, lb_r3_depth_0, hl, hlt, hat, hat2, h2, hw, hw2, hmx, -Bool.exists_bool]
theorem depth_eq (hT : T F_r3_depth = some sf_r3_depth) : ∀ e : LE, szE e ≤ big → ∀ τ, go T F_r3_depth [.agg (e.row.map .p)] τ = some (.i (depthL e), τ) := LE.ind fun k n s o nl kids ih hs τ => by
  simp only [szE] at hs
  have hlen := szEs_len kids
  obtain ⟨tm, h1, h2⟩ := depth_loop (go T) nl kids (.int .i64 k) (.int .i64 n) (.str s) (.int .i64 o) τ (by omega) (fun k hk => by
    have h1 := szEs_mem hk
    have h2 := depth_lt k
    exact ⟨by omega, ih k hk (by omega)⟩) kids [] 0 rfl (by omega)
  simp only [List.length_nil, Nat.zero_max, Int.ofNat_zero] at h1 h2
  rw [go_eq, hT]
  have hl := fun L x => leave_pL τ L x
  simp [go_sem, sf_r3_depth, LE.row, h1, h2, hl, depthL, -Bool.exists_bool]
end
def LS.kind : LS → Int
  | .mk k _ _ _ _ _ _ _ _ _ _ _ => k
def LS.name : LS → Str
  | .mk _ s _ _ _ _ _ _ _ _ _ _ => s
def LS.to : LS → Str
  | .mk _ _ t _ _ _ _ _ _ _ _ _ => t
def LS.n : LS → Int
  | .mk _ _ _ n _ _ _ _ _ _ _ _ => n
def LS.at_ : LS → LE
  | .mk _ _ _ _ a _ _ _ _ _ _ _ => a
def LS.val : LS → LE
  | .mk _ _ _ _ _ v _ _ _ _ _ _ => v
def LS.anl : LS → Option Bool
  | .mk _ _ _ _ _ _ anl _ _ _ _ _ => anl
def LS.args : LS → List LE
  | .mk _ _ _ _ _ _ _ as _ _ _ _ => as
def LS.tnl : LS → Option Bool
  | .mk _ _ _ _ _ _ _ _ tnl _ _ _ => tnl
def LS.th : LS → List LS
  | .mk _ _ _ _ _ _ _ _ _ th _ _ => th
def LS.enl : LS → Option Bool
  | .mk _ _ _ _ _ _ _ _ _ _ enl _ => enl
def LS.el : LS → List LS
  | .mk _ _ _ _ _ _ _ _ _ _ _ el => el
theorem LS.row17 (s : LS) : ∃ ka na sa oa va kv nv sv ov vv, s.at_.row = [.int .i64 ka, .int .i64 na, .str sa, .int .i64 oa, va] ∧ s.val.row = [.int .i64 kv, .int .i64 nv, .str sv, .int .i64 ov, vv] ∧
    s.row = [.int .i64 s.kind, .str s.name, .str s.to, .int .i64 s.n, .int .i64 ka, .int .i64 na, .str sa, .int .i64 oa, va, .int .i64 kv, .int .i64 nv, .str sv, .int .i64 ov, vv, slP s.anl 5 (rowsE s.args), slP s.tnl 17 (rowsS s.th), slP s.enl 17 (rowsS s.el)] := by
  obtain ⟨k, s, t, n, a, v, anl, as, tnl, th, enl, el⟩ := s
  obtain ⟨ka, na, sa, oa, va, ha⟩ := a.row5
  obtain ⟨kv, nv, sv, ov, vv, hv⟩ := v.row5
  exact ⟨ka, na, sa, oa, va, kv, nv, sv, ov, vv, ha, hv, by simp [LS.row, ha, hv, LS.kind, LS.name, LS.to, LS.n, LS.anl, LS.args, LS.tnl, LS.th, LS.enl, LS.el]⟩
mutual
def szS : LS → Nat
  | .mk _ s t _ a v _ as _ th _ el => 1 + s.length + t.length + szE a + szE v + szEs as + szSs th + szSs el
def szSs : List LS → Nat
  | [] => 0
  | s :: r => szS s + szSs r
end
theorem szS_eq (s : LS) : szS s = 1 + s.name.length + s.to.length + szE s.at_ + szE s.val + szEs s.args + szSs s.th + szSs s.el := by cases s; rfl
theorem szSs_mem {k : LS} : ∀ {l : List LS}, k ∈ l → szS k ≤ szSs l
  | e :: es, h => by
    rcases List.mem_cons.1 h with rfl | h
    · simp [szSs]
    · have := szSs_mem h; simp [szSs]; omega
theorem szSs_len : ∀ l : List LS, l.length ≤ szSs l
  | [] => by simp [szSs]
  | e :: es => by have := szSs_len es; have := szS_eq e; simp [szSs]; omega
theorem LSs.ind {p : List LS → Prop} (h : ∀ l, (∀ s, s ∈ l → p s.th ∧ p s.el) → p l) (l : List LS) : p l := by
  have : ∀ n, ∀ l, szSs l ≤ n → p l := fun n => by
    induction n with
    | zero =>
      intro l hl
      exact h l fun s hs => by have := szSs_mem hs; have := szS_eq s; omega
    | succ n ih =>
      intro l hl
      exact h l fun s hs => by
        have h1 := szSs_mem hs
        have h2 := szS_eq s
        exact ⟨ih _ (by omega), ih _ (by omega)⟩
  exact this _ l (Nat.le_refl _)
mutual
def nS : LS → Nat
  | .mk _ _ _ _ _ _ _ _ _ th _ el => 1 + nSs th + nSs el
def nSs : List LS → Nat
  | [] => 0
  | s :: r => nS s + nSs r
end
mutual
def wS : LS → Nat
  | .mk k _ _ _ _ _ _ _ _ th _ el => (if k = 4 then 1 else 0) + wSs th + wSs el
def wSs : List LS → Nat
  | [] => 0
  | s :: r => wS s + wSs r
end
mutual
def dS : Nat → LS → Nat
  | d, .mk _ _ _ _ _ _ _ _ _ th _ el => max d (max (dSs (d + 1) th) (dSs (d + 1) el))
def dSs : Nat → List LS → Nat
  | _, [] => 0
  | d, s :: r => max (dS d s) (dSs d r)
end
theorem nS_eq (s : LS) : nS s = 1 + nSs s.th + nSs s.el := by cases s; rfl
theorem wS_eq (s : LS) : wS s = (if s.kind = 4 then 1 else 0) + wSs s.th + wSs s.el := by cases s; rfl
theorem dS_eq (d : Nat) (s : LS) : dS d s = max d (max (dSs (d + 1) s.th) (dSs (d + 1) s.el)) := by cases s; rfl
theorem nSs_le (l : List LS) : nSs l ≤ szSs l := LSs.ind (p := fun l => nSs l ≤ szSs l) (fun l h => by
  induction l with
  | nil => simp [nSs]
  | cons s r ih =>
    have h1 := h s (List.mem_cons_self ..)
    have h2 := ih fun x hx => h x (List.mem_cons_of_mem _ hx)
    have := nS_eq s
    have := szS_eq s
    simp only [nSs, szSs]
    omega) l
theorem wSs_le (l : List LS) : wSs l ≤ szSs l := LSs.ind (p := fun l => wSs l ≤ szSs l) (fun l h => by
  induction l with
  | nil => simp [wSs]
  | cons s r ih =>
    have h1 := h s (List.mem_cons_self ..)
    have h2 := ih fun x hx => h x (List.mem_cons_of_mem _ hx)
    have := wS_eq s
    have := szS_eq s
    simp only [wSs, szSs]
    split at * <;> omega) l
theorem dSs_le (l : List LS) : ∀ d, dSs d l ≤ d + szSs l := LSs.ind (p := fun l => ∀ d, dSs d l ≤ d + szSs l) (fun l h => by
  induction l with
  | nil => intro d; simp [dSs]
  | cons s r ih =>
    intro d
    obtain ⟨h1, h1'⟩ := h s (List.mem_cons_self ..)
    have h1 := h1 (d + 1)
    have h1' := h1' (d + 1)
    have h2 := ih (fun x hx => h x (List.mem_cons_of_mem _ hx)) d
    have := dS_eq d s
    have := szS_eq s
    simp only [dSs, szSs]
    omega) l
theorem rowsS_at (a b : List LS) (x : LS) : (rowsS (a ++ x :: b))[a.length]? = some x.row := by rw [rowsS_map, List.map_append, List.map_cons]; have := at_mid (a.map LS.row) (b.map LS.row) x.row; rwa [List.length_map] at this
theorem rowsS_lengths (l : List LS) : (rowsS l).length = l.length := by rw [rowsS_map, List.length_map]
theorem mx_nat (a b : Nat) : mxC (.i a) (.i b) = some (.i ((max a b : Nat) : Int)) := by
  simp only [mxC, decide_true, cond_true]
  congr 3
  split <;> omega
theorem leave_ps (τ L : St2) (ps : List PV) : leave false τ (τ ++ L) (ps.map .p) = some (tup1 (ps.map .p), τ) := leave_of (fzL_p ps)
theorem leave_3 (τ : St2) (a b c : PV) : leave false τ τ [.p a, .p b, .p c] = some (.tup [.p a, .p b, .p c], τ) := by
  have := leave_ps τ [] [a, b, c]
  rwa [List.append_nil] at this
section
variable {T : FuncId → Option SF}
set_option maxRecDepth 4000 in
theorem count_loop (call : Call2) (nl : Option Bool) (l : List LS) (deep : Nat) (τ : St2) (hl0 : l.length ≤ big) (hd : deep ≤ big)
    (hk : ∀ s, s ∈ l → szS s ≤ big ∧ ∀ τ, call F_r3_countStmts [.p (slP s.tnl 17 (rowsS s.th)), .i ((deep : Int) + 1)] τ = some (.tup [.i (nSs s.th), .i (wSs s.th), .i (dSs (deep + 1) s.th)], τ) ∧ call F_r3_countStmts [.p (slP s.enl 17 (rowsS s.el)), .i ((deep : Int) + 1)] τ = some (.tup [.i (nSs s.el), .i (wSs s.el), .i (dSs (deep + 1) s.el)], τ)) :
    ∀ (rest done : List LS) (n w m : Nat), done ++ rest = l → n + szSs rest ≤ big → w + szSs rest ≤ big → 
    ∃ tm, Loop (round [0, 1, 7, 8, 9, 10] (evS ⟨fun _ => false, false⟩ call lb_r3_countStmts_0)) [(0, .p (slP nl 17 (rowsS l))), (1, .i deep), (7, .i n), (8, .i w), (9, .i m), (10, .i done.length)] τ = some (.exit 0, tm, τ) ∧ look 7 tm = some (.i ((n + nSs rest : Nat) : Int)) ∧ look 8 tm = some (.i ((w + wSs rest : Nat) : Int)) ∧ look 9 tm = some (.i ((max m (dSs deep rest) : Nat) : Int)) := by
  intro rest
  induction rest with
  | nil =>
    intro done n w m hd hm hm2
    obtain rfl : done = l := by simpa using hd
    refine ⟨[(0, .p (slP nl 17 (rowsS done))), (1, .i deep), (7, .i n), (8, .i w), (9, .i m), (10, .i done.length), (20, .b false)], Loop_exit ?_, by simp [look, nb, nSs], by simp [look, nb, wSs], by simp [look, nb, dSs]⟩
    have hl := rowsS_lengths done
    simp [go_sem, lb_r3_countStmts_0, hl, -Bool.exists_bool]
  | cons s rest ih =>
    intro done n w m hd2 hm hm2
    have hbig : 100 ≤ big := by decide
    obtain ⟨h0, h12⟩ := hk s (by rw [← hd2]; simp)
    have h1 := fun τ => (h12 τ).1
    have h2 := fun τ => (h12 τ).2
    have e1 := nSs_le s.th
    have e2 := nSs_le s.el
    have e3 := wSs_le s.th
    have e4 := wSs_le s.el
    have e5 := szS_eq s
    have e6 := nS_eq s
    have e7 := wS_eq s
    have e8 := dS_eq deep s
    simp only [szSs] at hm hm2
    obtain ⟨tm, h3, h4, h5, h6⟩ := ih (done ++ [s]) (n + nS s) (w + wS s) (max m (dS deep s)) (by simpa using hd2) (by omega) (by split at e7 <;> omega)
    refine ⟨tm, ?_, by rw [h4]; simp only [nSs, Nat.add_assoc], by rw [h5]; simp only [wSs, Nat.add_assoc], by rw [h6]; simp only [dSs]; congr 3; omega⟩
    rw [← h3]
    refine Loop_step ?_
    have hlt : done.length < l.length := by rw [← hd2]; simp
    have hl := rowsS_lengths l
    have hat : (rowsS l)[done.length]? = some s.row := by rw [← hd2]; exact rowsS_at done rest s
    obtain ⟨ka, na, sa, oa, va, kv, nv, sv, ov, vv, ha, hv, hr⟩ := s.row17
    rw [hr] at hat
    have hat2 := at2 hat
    have hw1 := wrap_b (n := n + 1) (by omega)
    have hw2 := wrap_b (n := w + 1) (by omega)
    have hw3 := wrap_b (n := deep + 1) (by omega)
    have hw4 := wrap_b (n := n + 1 + nSs s.th) (by omega)
    have hw5 := wrap_b (n := n + 1 + nSs s.th + nSs s.el) (by omega)
    have hw8 := wrap_b (n := done.length + 1) (by omega)
    have hmx := mx_nat m deep
    have hmx2 := mx_nat (dSs (deep + 1) s.th) (dSs (deep + 1) s.el)
    have hmx3 := mx_nat (max m deep) (max (dSs (deep + 1) s.th) (dSs (deep + 1) s.el))
    have en : n + nS s = n + 1 + nSs s.th + nSs s.el := by omega
    have em : max m (dS deep s) = max (max m deep) (max (dSs (deep + 1) s.th) (dSs (deep + 1) s.el)) := by rw [e8]; omega
    rw [en, em]
    simp only [Int.natCast_add, Int.natCast_one] at hw1 hw2 hw3 hw4 hw5 hw8
    by_cases c : s.kind = 4
    · have hw6 := wrap_b (n := w + 1 + wSs s.th) (by rw [if_pos c] at e7; omega)
      have hw7 := wrap_b (n := w + 1 + wSs s.th + wSs s.el) (by rw [if_pos c] at e7; omega)
      have ew : w + wS s = w + 1 + wSs s.th + wSs s.el := by rw [if_pos c] at e7; omega
      rw [ew]
      simp only [Int.natCast_add, Int.natCast_one] at hw6 hw7
      simp [go_sem, lb_r3_countStmts_0, hl, hlt, hat, hat2, c, h1, h2, hw1, hw2, hw3, hw4, hw5, hw6, hw7, hw8, hmx, hmx2, hmx3, extC, -Bool.exists_bool]
    · have hw6 := wrap_b (n := w + wSs s.th) (by rw [if_neg c] at e7; omega)
      have hw7 := wrap_b (n := w + wSs s.th + wSs s.el) (by rw [if_neg c] at e7; omega)
      have ew : w + wS s = w + wSs s.th + wSs s.el := by rw [if_neg c] at e7; omega
      rw [ew]
      simp only [Int.natCast_add, Int.natCast_one] at hw6 hw7
      simp [go_sem, lb_r3_countStmts_0, hl, hlt, hat, hat2, c, h1, h2, hw1, hw3, hw4, hw5, hw6, hw7, hw8, hmx, hmx2, hmx3, extC, -Bool.exists_bool]
theorem count_eq (hT : T F_r3_countStmts = some sf_r3_countStmts) : ∀ (l : List LS) (nl : Option Bool) (deep : Nat), deep + szSs l ≤ big → ∀ τ, go T F_r3_countStmts [.p (slP nl 17 (rowsS l)), .i deep] τ = some (.tup [.i (nSs l), .i (wSs l), .i (dSs deep l)], τ) := LSs.ind fun l ih nl deep hs τ => by
  have hlen := szSs_len l
  obtain ⟨tm, h1, h2, h3, h4⟩ := count_loop (go T) nl l deep τ (by omega) (by omega) (fun s hm => by
    have h1 := szSs_mem hm
    have h2 := szS_eq s
    exact ⟨by omega, fun τ => ⟨by simpa using (ih s hm).1 s.tnl (deep + 1) (by omega) τ, by simpa using (ih s hm).2 s.enl (deep + 1) (by omega) τ⟩⟩) l [] 0 0 0 rfl (by omega) (by omega)
  simp only [List.length_nil, Nat.zero_max, Nat.zero_add, Int.ofNat_zero] at h1 h2 h3 h4
  rw [go_eq, hT]
  simp [go_sem, sf_r3_countStmts, h1, h2, h3, h4, leave_3, -Bool.exists_bool]
end
def isLetterB (n : Nat) : Bool := (decide (97 ≤ n) && decide (n ≤ 122)) || (decide (65 ≤ n) && decide (n ≤ 90)) || decide (n = 95)
def isDigitB (n : Nat) : Bool := decide (48 ≤ n) && decide (n ≤ 57)
def nameFrom : Bool → Str → Bool
  | _, [] => true
  | first, c :: s => (isLetterB c.toNat || (isDigitB c.toNat && !first)) && nameFrom false s
def isNameL (s : Str) : Bool := nameFrom true s && decide (1 ≤ s.length) && decide (s.length ≤ 16)
def reservedL : List Str := [[97, 114, 114, 97, 121], [102, 117, 110, 99], [118, 97, 114], [114, 101, 116, 117, 114, 110], [105, 102], [101, 108, 115, 101], [119, 104, 105, 108, 101], [111, 117, 116], [116, 114, 97, 112]]
def validL (s : Str) : Bool := isNameL s && !decide (s ∈ reservedL)
def isBinL (op : Int) : Bool := decide (4 ≤ op) && decide (op ≤ 18)
def isZeroL (e : LE) : Bool := decide (e.kind = 0) && decide (e.num = 0) && decide (e.name = []) && decide (e.op = 0) && decide (e.kids.length = 0)
def onlyValL (s : LS) : Bool := decide (s.name = []) && decide (s.to = []) && decide (s.n = 0) && isZeroL s.at_ && decide (s.args.length = 0)
section
variable {T : FuncId → Option SF}
theorem isLetter_eq (hT : T F_r1_isLetter = some sf_r1_isLetter) (n : Nat) (τ : St2) : go T F_r1_isLetter [.p (.int .u8 n)] τ = some (.b (isLetterB n), τ) := by
  rw [go_eq, hT]
  by_cases q1 : (97 : Int) ≤ (n : Int)
  · have q1n : 97 ≤ n := by omega
    by_cases q2 : (n : Int) ≤ 122
    · have q2n : n ≤ 122 := by omega
      simp [go_sem, sf_r1_isLetter, isLetterB, q1, q2, q1n, q2n, -Bool.exists_bool]
    · have q2n : ¬ (n ≤ 122) := by omega
      by_cases q3 : (65 : Int) ≤ (n : Int)
      · have q3n : 65 ≤ n := by omega
        by_cases q4 : (n : Int) ≤ 90
        · have q4n : n ≤ 90 := by omega
          simp [go_sem, sf_r1_isLetter, isLetterB, q1, q2, q3, q4, q1n, q2n, q3n, q4n, -Bool.exists_bool]
        · have q4n : ¬ (n ≤ 90) := by omega
          by_cases q5 : (n : Int) = 95
          · have q5n : n = 95 := by omega
            simp [go_sem, sf_r1_isLetter, isLetterB, q1, q2, q3, q4, q5, q1n, q2n, q3n, q4n, q5n, -Bool.exists_bool]
          · have q5n : ¬ (n = 95) := by omega
            simp [go_sem, sf_r1_isLetter, isLetterB, q1, q2, q3, q4, q5, q1n, q2n, q3n, q4n, q5n, -Bool.exists_bool]
      · have q3n : ¬ (65 ≤ n) := by omega
        by_cases q5 : (n : Int) = 95
        · have q5n : n = 95 := by omega
          simp [go_sem, sf_r1_isLetter, isLetterB, q1, q2, q3, q5, q1n, q2n, q3n, q5n, -Bool.exists_bool]
        · have q5n : ¬ (n = 95) := by omega
          simp [go_sem, sf_r1_isLetter, isLetterB, q1, q2, q3, q5, q1n, q2n, q3n, q5n, -Bool.exists_bool]
  · have q1n : ¬ (97 ≤ n) := by omega
    by_cases q3 : (65 : Int) ≤ (n : Int)
    · have q3n : 65 ≤ n := by omega
      by_cases q4 : (n : Int) ≤ 90
      · have q4n : n ≤ 90 := by omega
        simp [go_sem, sf_r1_isLetter, isLetterB, q1, q3, q4, q1n, q3n, q4n, -Bool.exists_bool]
      · have q4n : ¬ (n ≤ 90) := by omega
        by_cases q5 : (n : Int) = 95
        · have q5n : n = 95 := by omega
          simp [go_sem, sf_r1_isLetter, isLetterB, q1, q3, q4, q5, q1n, q3n, q4n, q5n, -Bool.exists_bool]
        · have q5n : ¬ (n = 95) := by omega
          simp [go_sem, sf_r1_isLetter, isLetterB, q1, q3, q4, q5, q1n, q3n, q4n, q5n, -Bool.exists_bool]
    · have q3n : ¬ (65 ≤ n) := by omega
      by_cases q5 : (n : Int) = 95
      · have q5n : n = 95 := by omega
        simp [go_sem, sf_r1_isLetter, isLetterB, q1, q3, q5, q1n, q3n, q5n, -Bool.exists_bool]
      · have q5n : ¬ (n = 95) := by omega
        simp [go_sem, sf_r1_isLetter, isLetterB, q1, q3, q5, q1n, q3n, q5n, -Bool.exists_bool]
theorem isDigit_eq (hT : T F_r1_isDigit = some sf_r1_isDigit) (n : Nat) (τ : St2) : go T F_r1_isDigit [.p (.int .u8 n)] τ = some (.b (isDigitB n), τ) := by
  rw [go_eq, hT]
  by_cases q1 : (48 : Int) ≤ (n : Int)
  · have q1n : 48 ≤ n := by omega
    by_cases q2 : (n : Int) ≤ 57
    · have q2n : n ≤ 57 := by omega
      simp [go_sem, sf_r1_isDigit, isDigitB, q1, q2, q1n, q2n, -Bool.exists_bool]
    · have q2n : ¬ (n ≤ 57) := by omega
      simp [go_sem, sf_r1_isDigit, isDigitB, q1, q2, q1n, q2n, -Bool.exists_bool]
  · have q1n : ¬ (48 ≤ n) := by omega
    simp [go_sem, sf_r1_isDigit, isDigitB, q1, q1n, -Bool.exists_bool]
theorem isBin_eq (hT : T F_r3_IsBinaryOp = some sf_r3_IsBinaryOp) (op : Int) (τ : St2) : go T F_r3_IsBinaryOp [.i op] τ = some (.b (isBinL op), τ) := by
  rw [go_eq, hT]
  by_cases q1 : (4 : Int) ≤ op
  · by_cases q2 : op ≤ 18
    · simp [go_sem, sf_r3_IsBinaryOp, isBinL, q1, q2, -Bool.exists_bool]
    · simp [go_sem, sf_r3_IsBinaryOp, isBinL, q1, q2, -Bool.exists_bool]
  · simp [go_sem, sf_r3_IsBinaryOp, isBinL, q1, -Bool.exists_bool]
theorem isZero_eq (hT : T F_r3_isZero = some sf_r3_isZero) (e : LE) (τ : St2) : go T F_r3_isZero [.agg (e.row.map .p)] τ = some (.b (isZeroL e), τ) := by
  rw [go_eq, hT]
  obtain ⟨k, n, s, o, nl, kids⟩ := e
  have hl := rowsE_lengths kids
  have hlv := fun L x => leave_pL τ L x
  by_cases q1 : k = 0
  · by_cases q2 : n = 0
    · by_cases q3 : s = []
      · by_cases q4 : o = 0
        · by_cases q5 : kids.length = 0
          · have q5z : kids = [] := List.length_eq_zero_iff.1 q5
            simp [go_sem, sf_r3_isZero, LE.row, isZeroL, LE.kind, LE.num, LE.name, LE.op, LE.kids, hl, hlv, rowsE, q1, q2, q3, q4, q5, q5z, -Bool.exists_bool]
          · have q5z : ¬ kids = [] := fun e => q5 (by rw [e]; rfl)
            simp [go_sem, sf_r3_isZero, LE.row, isZeroL, LE.kind, LE.num, LE.name, LE.op, LE.kids, hl, hlv, rowsE, q1, q2, q3, q4, q5, q5z, -Bool.exists_bool]
        · simp [go_sem, sf_r3_isZero, LE.row, isZeroL, LE.kind, LE.num, LE.name, LE.op, LE.kids, hl, hlv, rowsE, q1, q2, q3, q4, -Bool.exists_bool]
      · simp [go_sem, sf_r3_isZero, LE.row, isZeroL, LE.kind, LE.num, LE.name, LE.op, LE.kids, hl, hlv, rowsE, q1, q2, q3, -Bool.exists_bool]
    · simp [go_sem, sf_r3_isZero, LE.row, isZeroL, LE.kind, LE.num, LE.name, LE.op, LE.kids, hl, hlv, rowsE, q1, q2, -Bool.exists_bool]
  · simp [go_sem, sf_r3_isZero, LE.row, isZeroL, LE.kind, LE.num, LE.name, LE.op, LE.kids, hl, hlv, rowsE, q1, -Bool.exists_bool]
theorem onlyVal_eq (hT : T F_r3_onlyValue = some sf_r3_onlyValue) (hZ : T F_r3_isZero = some sf_r3_isZero) (s : LS) (τ : St2) : go T F_r3_onlyValue [.agg (s.row.map .p)] τ = some (.b (onlyValL s), τ) := by
  rw [go_eq, hT]
  obtain ⟨ka, na, sa, oa, va, kv, nv, sv, ov, vv, ha, hv, hr⟩ := s.row17
  have hz := fun τ => isZero_eq hZ s.at_ τ
  simp only [ha, List.map] at hz
  simp only [hr, List.map]
  have hl := rowsE_lengths s.args
  have hlv := fun L x => leave_pL τ L x
  by_cases q1 : s.name = []
  · by_cases q2 : s.to = []
    · by_cases q3 : s.n = 0
      · by_cases q4 : isZeroL s.at_ = true
        · by_cases q5 : s.args.length = 0
          · have q5z : s.args = [] := List.length_eq_zero_iff.1 q5
            simp [go_sem, sf_r3_onlyValue, onlyValL, hl, hz, hlv, rowsE, q1, q2, q3, q4, q5, q5z, -Bool.exists_bool]
          · have q5z : ¬ s.args = [] := fun e => q5 (by rw [e]; rfl)
            simp [go_sem, sf_r3_onlyValue, onlyValL, hl, hz, hlv, rowsE, q1, q2, q3, q4, q5, q5z, -Bool.exists_bool]
        · simp [go_sem, sf_r3_onlyValue, onlyValL, hl, hz, hlv, rowsE, q1, q2, q3, q4, -Bool.exists_bool]
      · simp [go_sem, sf_r3_onlyValue, onlyValL, hl, hz, hlv, rowsE, q1, q2, q3, -Bool.exists_bool]
    · simp [go_sem, sf_r3_onlyValue, onlyValL, hl, hz, hlv, rowsE, q1, q2, -Bool.exists_bool]
  · simp [go_sem, sf_r3_onlyValue, onlyValL, hl, hz, hlv, rowsE, q1, -Bool.exists_bool]
theorem isName_loop (call : Call2) (hL : ∀ n τ, call F_r1_isLetter [.p (.int .u8 (n : Nat))] τ = some (.b (isLetterB n), τ)) (hD : ∀ n τ, call F_r1_isDigit [.p (.int .u8 (n : Nat))] τ = some (.b (isDigitB n), τ)) (s : Str) (hs : s.length ≤ big) (τ : St2) : ∀ (rest done : Str), done ++ rest = s →
    (nameFrom (decide (done = [])) rest = true → ∃ tm, Loop (round [0, 3] (evS ⟨fun _ => false, false⟩ call lb_r1_IsName_0)) [(0, .s s), (3, .i done.length)] τ = some (.exit 0, tm, τ) ∧ look 0 tm = some (.s s)) ∧
    (nameFrom (decide (done = [])) rest = false → Loop (round [0, 3] (evS ⟨fun _ => false, false⟩ call lb_r1_IsName_0)) [(0, .s s), (3, .i done.length)] τ = some (.ret, [(2, .b false)], τ)) := by
  intro rest
  induction rest with
  | nil =>
    intro done hd
    obtain rfl : done = s := by simpa using hd
    refine ⟨fun _ => ⟨[(0, .s done), (3, .i done.length), (7, .b false)], Loop_exit ?_, by simp [look, nb]⟩, fun h => by cases h⟩
    simp [go_sem, lb_r1_IsName_0, -Bool.exists_bool]
  | cons c rest ih =>
    intro done hd
    have hbig : 100 ≤ big := by decide
    have hlt : done.length < s.length := by rw [← hd]; simp
    have hat : s[done.length]? = some c := by rw [← hd]; exact at_mid done rest c
    have hat2 := at2 hat
    have hw := wrap_b (n := done.length + 1) (by omega)
    simp only [Int.natCast_add, Int.natCast_one] at hw
    obtain ⟨ih1, ih2⟩ := ih (done ++ [c]) (by simpa using hd)
    have hne : decide (done ++ [c] = []) = false := by simp
    rw [hne] at ih1 ih2
    have hstep : (isLetterB c.toNat || (isDigitB c.toNat && !decide (done = []))) = true → round [0, 3] (evS ⟨fun _ => false, false⟩ call lb_r1_IsName_0) [(0, .s s), (3, .i done.length)] τ = some (.normal, [(0, .s s), (3, .i (done ++ [c]).length)], τ) := fun hc => by
      by_cases q1 : isLetterB c.toNat = true
      · simp [go_sem, lb_r1_IsName_0, strAtC, hlt, hat, hat2, hL, hD, hw, q1, -Bool.exists_bool]
      · by_cases q2 : isDigitB c.toNat = true
        · by_cases q3 : done = []
          · simp [q1, q3] at hc
          · simp [go_sem, lb_r1_IsName_0, strAtC, hlt, hat, hat2, hL, hD, hw, q1, q2, q3, -Bool.exists_bool]
        · simp [q1, q2] at hc
    have hend : (isLetterB c.toNat || (isDigitB c.toNat && !decide (done = []))) = false → round [0, 3] (evS ⟨fun _ => false, false⟩ call lb_r1_IsName_0) [(0, .s s), (3, .i done.length)] τ = some (.ret, [(2, .b false)], τ) := fun hc => by
      by_cases q1 : isLetterB c.toNat = true
      · simp [q1] at hc
      · by_cases q2 : isDigitB c.toNat = true
        · by_cases q3 : done = []
          · have hat3 := hat2
            have hlt3 := hlt
            simp only [q3, List.length_nil] at hat3 hlt3
            simp [go_sem, lb_r1_IsName_0, strAtC, hlt3, hat3, hL, hD, q1, q2, q3, -Bool.exists_bool]
          · simp [q2, q3] at hc
        · simp [go_sem, lb_r1_IsName_0, strAtC, hlt, hat, hat2, hL, hD, hw, q1, q2, -Bool.exists_bool]
    cases hc : (isLetterB c.toNat || (isDigitB c.toNat && !decide (done = []))) with
    | true =>
      simp only [nameFrom, hc, Bool.true_and]
      rw [Loop_step (hstep hc)]
      exact ⟨ih1, ih2⟩
    | false =>
      simp only [nameFrom, hc, Bool.false_and]
      exact ⟨(fun h => by cases h), fun _ => Loop_ret (hend hc)⟩
theorem isNameR_eq (hT : T F_r1_IsName = some sf_r1_IsName) (hL : T F_r1_isLetter = some sf_r1_isLetter) (hD : T F_r1_isDigit = some sf_r1_isDigit) (s : Str) (hs : s.length ≤ big) (τ : St2) : go T F_r1_IsName [.s s] τ = some (.b (isNameL s), τ) := by
  have h := isName_loop (go T) (isLetter_eq hL) (isDigit_eq hD) s hs τ s [] rfl
  simp only [decide_true, List.length_nil, Int.ofNat_zero] at h
  rw [go_eq, hT]
  unfold isNameL
  cases hn : nameFrom true s with
  | true =>
    obtain ⟨tm, h1, h2⟩ := h.1 hn
    by_cases q1 : 1 ≤ s.length
    · have q1i : (1 : Int) ≤ (s.length : Int) := by omega
      by_cases q2 : s.length ≤ 16
      · have q2i : (s.length : Int) ≤ 16 := by omega
        simp [go_sem, sf_r1_IsName, h1, h2, q1, q1i, q2, q2i, -Bool.exists_bool]
      · have q2i : ¬ (s.length : Int) ≤ 16 := by omega
        simp [go_sem, sf_r1_IsName, h1, h2, q1, q1i, q2, q2i, -Bool.exists_bool]
    · have q1i : ¬ (1 : Int) ≤ (s.length : Int) := by omega
      simp [go_sem, sf_r1_IsName, h1, h2, q1, q1i, -Bool.exists_bool]
  | false =>
    have h1 := h.2 hn
    simp [go_sem, sf_r1_IsName, h1, -Bool.exists_bool]
theorem reserved_loop (call : Call2) (xs : List Str) (s : Str) (hn : xs.length ≤ big) (τ : St2) : ∀ (rest done : List Str), done ++ rest = xs →
    (s ∈ rest → Loop (round [0, 3, 4] (evS ⟨fun _ => false, false⟩ call lb_r3_Reserved_0)) [(0, .s s), (3, .p (.list true 1 (rowsN xs))), (4, .i done.length)] τ = some (.ret, [(2, .b true)], τ)) ∧
    (s ∉ rest → ∃ tm, Loop (round [0, 3, 4] (evS ⟨fun _ => false, false⟩ call lb_r3_Reserved_0)) [(0, .s s), (3, .p (.list true 1 (rowsN xs))), (4, .i done.length)] τ = some (.exit 0, tm, τ)) := by
  intro rest
  induction rest with
  | nil =>
    intro done hd
    obtain rfl : done = xs := by simpa using hd
    refine ⟨(fun h => by cases h), fun _ => ⟨[(0, .s s), (3, .p (.list true 1 (rowsN done))), (4, .i done.length), (9, .b false)], Loop_exit ?_⟩⟩
    simp [go_sem, lb_r3_Reserved_0, rowsN, -Bool.exists_bool]
  | cons c rest ih =>
    intro done hd
    have hbig : 100 ≤ big := by decide
    have hlt : done.length < xs.length := by rw [← hd]; simp
    have hat : xs[done.length]? = some c := by rw [← hd]; exact at_mid done rest c
    have hat2 := at2 hat
    have hw := wrap_b (n := done.length + 1) (by omega)
    simp only [Int.natCast_add, Int.natCast_one] at hw
    obtain ⟨ih1, ih2⟩ := ih (done ++ [c]) (by simpa using hd)
    by_cases q : c = s
    · have : round [0, 3, 4] (evS ⟨fun _ => false, false⟩ call lb_r3_Reserved_0) [(0, .s s), (3, .p (.list true 1 (rowsN xs))), (4, .i done.length)] τ = some (.ret, [(2, .b true)], τ) := by
        simp [go_sem, lb_r3_Reserved_0, rowsN, hlt, hat, hat2, q, -Bool.exists_bool]
      exact ⟨fun _ => Loop_ret this, fun h => absurd (by rw [q]; exact List.mem_cons_self ..) h⟩
    · have : round [0, 3, 4] (evS ⟨fun _ => false, false⟩ call lb_r3_Reserved_0) [(0, .s s), (3, .p (.list true 1 (rowsN xs))), (4, .i done.length)] τ = some (.normal, [(0, .s s), (3, .p (.list true 1 (rowsN xs))), (4, .i (done ++ [c]).length)], τ) := by
        simp [go_sem, lb_r3_Reserved_0, rowsN, hlt, hat, hat2, q, hw, -Bool.exists_bool]
      rw [Loop_step this]
      refine ⟨fun h => ih1 ?_, fun h => ih2 fun h' => h (List.mem_cons_of_mem _ h')⟩
      rcases List.mem_cons.1 h with h | h
      · exact absurd h.symm q
      · exact h
theorem reserved_eq (hT : T F_r3_Reserved = some sf_r3_Reserved) (s : Str) (τ : St2) : go T F_r3_Reserved [.s s] τ = some (.b (decide (s ∈ reservedL)), τ) := by
  have h := reserved_loop (go T) reservedL s (by decide) τ reservedL [] rfl
  simp only [List.length_nil, Int.ofNat_zero] at h
  rw [go_eq, hT]
  by_cases hm : s ∈ reservedL
  · have h1 := h.1 hm
    simp only [reservedL, rowsN, List.map] at h1
    simp [go_sem, sf_r3_Reserved, h1, hm, -Bool.exists_bool]
  · obtain ⟨tm, h1⟩ := h.2 hm
    simp only [reservedL, rowsN, List.map] at h1
    simp [go_sem, sf_r3_Reserved, h1, hm, -Bool.exists_bool]
structure HName (T : FuncId → Option SF) : Prop where
  letter : T F_r1_isLetter = some sf_r1_isLetter
  digit : T F_r1_isDigit = some sf_r1_isDigit
  name : T F_r1_IsName = some sf_r1_IsName
  reserved : T F_r3_Reserved = some sf_r3_Reserved
  valid : T F_r3_ValidName = some sf_r3_ValidName
theorem valid_eq (H : HName T) (s : Str) (hs : s.length ≤ big) (τ : St2) : go T F_r3_ValidName [.s s] τ = some (.b (validL s), τ) := by
  have h1 := fun τ => isNameR_eq H.name H.letter H.digit s hs τ
  have h2 := fun τ => reserved_eq H.reserved s τ
  rw [go_eq, H.valid]
  unfold validL
  cases hn : isNameL s with
  | true => simp [go_sem, sf_r3_ValidName, h1, h2, hn, -Bool.exists_bool]
  | false => simp [go_sem, sf_r3_ValidName, h1, h2, hn, -Bool.exists_bool]
end
theorem search_loop {α : Type} {body : Code2} {E : Nat → Tm} {τ : St2} {xs : List α} {p : α → Bool} {R X : Tm} {id : Nat}
    (hstep : ∀ done x rest, done ++ x :: rest = xs → p x = true → body (E done.length) τ = some (.normal, E (done.length + 1), τ))
    (hret : ∀ done x rest, done ++ x :: rest = xs → p x = false → ∃ L, body (E done.length) τ = some (.ret, R, τ ++ L))
    (hend : body (E xs.length) τ = some (.exit id, X, τ)) : ∀ (rest done : List α), done ++ rest = xs →
    (rest.all p = true → Loop body (E done.length) τ = some (.exit id, X, τ)) ∧ (rest.all p = false → ∃ L, Loop body (E done.length) τ = some (.ret, R, τ ++ L)) := by
  intro rest
  induction rest with
  | nil =>
    intro done hd
    obtain rfl : done = xs := by simpa using hd
    exact ⟨fun _ => Loop_exit hend, fun h => by cases h⟩
  | cons x rest ih =>
    intro done hd
    have ih := ih (done ++ [x]) (by simpa using hd)
    rw [List.length_append, List.length_singleton] at ih
    cases hp : p x with
    | true =>
      rw [Loop_step (hstep done x rest hd hp)]
      simpa only [List.all_cons, hp, Bool.true_and] using ih
    | false =>
      refine ⟨fun h => ?_, fun _ => ?_⟩
      · simp [hp] at h
      · obtain ⟨L, hL⟩ := hret done x rest hd hp
        exact ⟨L, Loop_ret hL⟩
theorem search0 {α : Type} {body : Code2} {E : Nat → Tm} {τ : St2} {xs : List α} {p : α → Bool} {R X : Tm} {id : Nat}
    (hstep : ∀ done x rest, done ++ x :: rest = xs → p x = true → body (E done.length) τ = some (.normal, E (done.length + 1), τ))
    (hret : ∀ done x rest, done ++ x :: rest = xs → p x = false → ∃ L, body (E done.length) τ = some (.ret, R, τ ++ L))
    (hend : body (E xs.length) τ = some (.exit id, X, τ)) :
    (xs.all p = true → Loop body (E 0) τ = some (.exit id, X, τ)) ∧ (xs.all p = false → ∃ L, Loop body (E 0) τ = some (.ret, R, τ ++ L)) :=
  search_loop hstep hret hend xs [] rfl
theorem trunc0 {tm : Tm} {τ L : St2} (h : tmB τ.length tm = true) : trunc tm τ (τ ++ L) = τ := by
  have := trunc_app (τ := τ) (L0 := []) (L1 := L) (tm := tm) (by simpa using h) (by simp) (fun i hi => by simp at hi)
  simpa using this
theorem trunc1 {tm : Tm} {τ L : St2} {B : B2} (h : tmB (τ.length + 1) tm = true) : trunc tm (τ ++ [B]) (τ ++ B :: L) = τ ++ [B] := by
  have := trunc_app (τ := τ) (L0 := [B]) (L1 := B :: L) (tm := tm) (by simpa using h) (by simp) (fun i hi => by simp at hi; subst hi; exact .inl rfl)
  simpa using this
theorem trunc2 {tm : Tm} {τ L : St2} {B C : B2} (h : tmB (τ.length + 2) tm = true) : trunc tm (τ ++ [B, C]) (τ ++ B :: C :: L) = τ ++ [B, C] := by
  have := trunc_app (τ := τ) (L0 := [B, C]) (L1 := B :: C :: L) (tm := tm) (by simpa using h) (by simp) (fun i hi => by
    simp at hi
    rcases Nat.lt_or_ge i 1 with h | h
    · obtain rfl : i = 0 := by omega
      exact .inl rfl
    · obtain rfl : i = 1 := by omega
      exact .inl rfl)
  simpa using this
def shapeL (k n : Int) (s : Str) (o : Int) (len : Nat) : Bool :=
  if k = 1 then decide (len = 0) && (decide (s = []) && decide (o = 0))
  else if k = 2 then decide (len = 0) && (decide (n = 0) && (decide (o = 0) && validL s))
  else if k = 3 then decide (len = 1) && (decide (n = 0) && (decide (o = 0) && validL s))
  else if k = 4 then decide (n = 0) && (decide (s = []) && ((decide (len = 2) && isBinL o) || (decide (len = 1) && (decide (o = 20) || decide (o = 21)))))
  else if k = 5 then decide (len = 3) && (decide (n = 0) && (decide (s = []) && decide (o = 0)))
  else false
mutual
def wfE : LE → Bool
  | .mk k n s o _ kids => wfEs kids && shapeL k n s o kids.length
def wfEs : List LE → Bool
  | [] => true
  | e :: es => wfE e && wfEs es
end
theorem wfEs_all : ∀ l : List LE, wfEs l = l.all wfE
  | [] => rfl
  | e :: es => by simp [wfEs, wfEs_all es]
section
variable {T : FuncId → Option SF}
structure HWf (T : FuncId → Option SF) : Prop extends HName T where
  bin : T F_r3_IsBinaryOp = some sf_r3_IsBinaryOp
  wfE : T F_r3_wellFormedExpr = some sf_r3_wellFormedExpr
theorem wfE_loop (call : Call2) (nl : Option Bool) (kids : List LE) (a b c d : PV) (τ : St2) (hsz : kids.length ≤ big) (hk : ∀ k, k ∈ kids → ∀ τ, call F_r3_wellFormedExpr [.agg (k.row.map .p)] τ = some (.b (wfE k), τ)) :
    (kids.all wfE = true → Loop (round [1, 3] (evS ⟨fun _ => false, false⟩ call lb_r3_wellFormedExpr_0)) [(1, .ptr τ.length 5 0), (3, .i (0 : Nat))] (τ ++ [⟨[.p a, .p b, .p c, .p d, .p (slP nl 5 (rowsE kids))], .live, 5, true⟩]) = some (.exit 0, [(1, .ptr τ.length 5 0), (3, .i (kids.length : Nat)), (9, .b false)], τ ++ [⟨[.p a, .p b, .p c, .p d, .p (slP nl 5 (rowsE kids))], .live, 5, true⟩])) ∧
    (kids.all wfE = false → ∃ L, Loop (round [1, 3] (evS ⟨fun _ => false, false⟩ call lb_r3_wellFormedExpr_0)) [(1, .ptr τ.length 5 0), (3, .i (0 : Nat))] (τ ++ [⟨[.p a, .p b, .p c, .p d, .p (slP nl 5 (rowsE kids))], .live, 5, true⟩]) = some (.ret, [(2, .b false)], (τ ++ [⟨[.p a, .p b, .p c, .p d, .p (slP nl 5 (rowsE kids))], .live, 5, true⟩]) ++ L)) := by
  have hl := rowsE_lengths kids
  have hbig : 100 ≤ big := by decide
  refine search0 (E := fun i => [(1, .ptr τ.length 5 0), (3, .i (i : Nat))]) (fun done k rest hd hp => ?_) (fun done k rest hd hp => ⟨[], ?_⟩) ?_
  · have hlt : done.length < kids.length := by rw [← hd]; simp
    have hat : (rowsE kids)[done.length]? = some k.row := by rw [← hd]; exact rowsE_at done rest k
    have h2 := hk k (by rw [← hd]; simp)
    have hw := wrap_b (n := done.length + 1) (by omega)
    obtain ⟨kk, nn, ss, oo, vv, hr⟩ := k.row5
    simp only [hr, List.map] at h2 hat
    have hat2 := at2 hat
    simp only [Int.natCast_add, Int.natCast_one] at hw
    simp [go_sem, lb_r3_wellFormedExpr_0, hl, hlt, hat, hat2, h2, hp, hw, -Bool.exists_bool]
  · have hlt : done.length < kids.length := by rw [← hd]; simp
    have hat : (rowsE kids)[done.length]? = some k.row := by rw [← hd]; exact rowsE_at done rest k
    have h2 := hk k (by rw [← hd]; simp)
    obtain ⟨kk, nn, ss, oo, vv, hr⟩ := k.row5
    simp only [hr, List.map] at h2 hat
    have hat2 := at2 hat
    simp [go_sem, lb_r3_wellFormedExpr_0, hl, hlt, hat, hat2, h2, hp, -Bool.exists_bool]
  · simp [go_sem, lb_r3_wellFormedExpr_0, hl, -Bool.exists_bool]
theorem wfE_eq (H : HWf T) : ∀ e : LE, szE e ≤ big → ∀ τ, go T F_r3_wellFormedExpr [.agg (e.row.map .p)] τ = some (.b (wfE e), τ) := LE.ind fun k n s o nl kids ih hs τ => by
  simp only [szE] at hs
  have hlen := szEs_len kids
  have hv := fun τ => valid_eq H.toHName s (by omega) τ
  have hb := fun τ => isBin_eq H.bin o τ
  obtain ⟨h1, h2⟩ := wfE_loop (go T) nl kids (.int .i64 k) (.int .i64 n) (.str s) (.int .i64 o) τ (by omega) (fun k hk => ih k hk (by have := szEs_mem hk; omega))
  simp only [Int.ofNat_zero] at h1 h2
  have hl := rowsE_lengths kids
  have hlv := fun L x => leave_pL τ L x
  rw [go_eq, H.wfE]
  cases hall : kids.all wfE with
  | false =>
    obtain ⟨L, h2⟩ := h2 hall
    simp only [List.append_assoc] at h2
    simp [go_sem, sf_r3_wellFormedExpr, LE.row, h2, hlv, wfE, wfEs_all, hall, -Bool.exists_bool]
  | true =>
    have h1 := h1 hall
    clear h2
    by_cases k1 : k = 1
    · subst k1
      by_cases ql0 : kids.length = 0
      · have ql0i : (kids.length : Int) = 0 := by omega
        by_cases qs : s = []
        · subst qs
          by_cases qo : o = 0
          · subst qo
            simp [go_sem, sf_r3_wellFormedExpr, LE.row, h1, hl, hv, hb, hlv, wfE, wfEs_all, hall, shapeL, ql0, ql0i, -Bool.exists_bool]
          · simp [go_sem, sf_r3_wellFormedExpr, LE.row, h1, hl, hv, hb, hlv, wfE, wfEs_all, hall, shapeL, ql0, qo, ql0i, -Bool.exists_bool]
        · simp [go_sem, sf_r3_wellFormedExpr, LE.row, h1, hl, hv, hb, hlv, wfE, wfEs_all, hall, shapeL, ql0, qs, ql0i, -Bool.exists_bool]
      · have ql0i : ¬ (kids.length : Int) = 0 := by omega
        simp [go_sem, sf_r3_wellFormedExpr, LE.row, h1, hl, hv, hb, hlv, wfE, wfEs_all, hall, shapeL, ql0, ql0i, -Bool.exists_bool]
    by_cases k2 : k = 2
    · subst k2
      by_cases ql0 : kids.length = 0
      · have ql0i : (kids.length : Int) = 0 := by omega
        by_cases qn : n = 0
        · subst qn
          by_cases qo : o = 0
          · subst qo
            by_cases qv : validL s = true
            · simp [go_sem, sf_r3_wellFormedExpr, LE.row, h1, hl, hv, hb, hlv, wfE, wfEs_all, hall, shapeL, ql0, qv, ql0i, -Bool.exists_bool]
            · simp [go_sem, sf_r3_wellFormedExpr, LE.row, h1, hl, hv, hb, hlv, wfE, wfEs_all, hall, shapeL, ql0, qv, ql0i, -Bool.exists_bool]
          · simp [go_sem, sf_r3_wellFormedExpr, LE.row, h1, hl, hv, hb, hlv, wfE, wfEs_all, hall, shapeL, ql0, qo, ql0i, -Bool.exists_bool]
        · simp [go_sem, sf_r3_wellFormedExpr, LE.row, h1, hl, hv, hb, hlv, wfE, wfEs_all, hall, shapeL, ql0, qn, ql0i, -Bool.exists_bool]
      · have ql0i : ¬ (kids.length : Int) = 0 := by omega
        simp [go_sem, sf_r3_wellFormedExpr, LE.row, h1, hl, hv, hb, hlv, wfE, wfEs_all, hall, shapeL, ql0, ql0i, -Bool.exists_bool]
    by_cases k3 : k = 3
    · subst k3
      by_cases ql1 : kids.length = 1
      · have ql1i : (kids.length : Int) = 1 := by omega
        by_cases qn : n = 0
        · subst qn
          by_cases qo : o = 0
          · subst qo
            by_cases qv : validL s = true
            · simp [go_sem, sf_r3_wellFormedExpr, LE.row, h1, hl, hv, hb, hlv, wfE, wfEs_all, hall, shapeL, ql1, qv, ql1i, -Bool.exists_bool]
            · simp [go_sem, sf_r3_wellFormedExpr, LE.row, h1, hl, hv, hb, hlv, wfE, wfEs_all, hall, shapeL, ql1, qv, ql1i, -Bool.exists_bool]
          · simp [go_sem, sf_r3_wellFormedExpr, LE.row, h1, hl, hv, hb, hlv, wfE, wfEs_all, hall, shapeL, ql1, qo, ql1i, -Bool.exists_bool]
        · simp [go_sem, sf_r3_wellFormedExpr, LE.row, h1, hl, hv, hb, hlv, wfE, wfEs_all, hall, shapeL, ql1, qn, ql1i, -Bool.exists_bool]
      · have ql1i : ¬ (kids.length : Int) = 1 := by omega
        simp [go_sem, sf_r3_wellFormedExpr, LE.row, h1, hl, hv, hb, hlv, wfE, wfEs_all, hall, shapeL, ql1, ql1i, -Bool.exists_bool]
    by_cases k4 : k = 4
    · subst k4
      by_cases qn : n = 0
      · subst qn
        by_cases qs : s = []
        · subst qs
          by_cases ql2 : kids.length = 2
          · have ql2i : (kids.length : Int) = 2 := by omega
            by_cases qb : isBinL o = true
            · simp [go_sem, sf_r3_wellFormedExpr, LE.row, h1, hl, hv, hb, hlv, wfE, wfEs_all, hall, shapeL, ql2, qb, ql2i, -Bool.exists_bool]
            · by_cases ql1 : kids.length = 1
              · have ql1i : (kids.length : Int) = 1 := by omega
                by_cases q20 : o = 20
                · subst q20
                  simp [go_sem, sf_r3_wellFormedExpr, LE.row, h1, hl, hv, hb, hlv, wfE, wfEs_all, hall, shapeL, ql2, qb, ql1, ql2i, ql1i, -Bool.exists_bool]
                · by_cases q21 : o = 21
                  · subst q21
                    simp [go_sem, sf_r3_wellFormedExpr, LE.row, h1, hl, hv, hb, hlv, wfE, wfEs_all, hall, shapeL, ql2, qb, ql1, q20, ql2i, ql1i, -Bool.exists_bool]
                  · simp [go_sem, sf_r3_wellFormedExpr, LE.row, h1, hl, hv, hb, hlv, wfE, wfEs_all, hall, shapeL, ql2, qb, ql1, q20, q21, ql2i, ql1i, -Bool.exists_bool]
              · have ql1i : ¬ (kids.length : Int) = 1 := by omega
                simp [go_sem, sf_r3_wellFormedExpr, LE.row, h1, hl, hv, hb, hlv, wfE, wfEs_all, hall, shapeL, ql2, qb, ql1, ql2i, ql1i, -Bool.exists_bool]
          · have ql2i : ¬ (kids.length : Int) = 2 := by omega
            by_cases ql1 : kids.length = 1
            · have ql1i : (kids.length : Int) = 1 := by omega
              by_cases q20 : o = 20
              · subst q20
                simp [go_sem, sf_r3_wellFormedExpr, LE.row, h1, hl, hv, hb, hlv, wfE, wfEs_all, hall, shapeL, ql2, ql1, ql2i, ql1i, -Bool.exists_bool]
              · by_cases q21 : o = 21
                · subst q21
                  simp [go_sem, sf_r3_wellFormedExpr, LE.row, h1, hl, hv, hb, hlv, wfE, wfEs_all, hall, shapeL, ql2, ql1, q20, ql2i, ql1i, -Bool.exists_bool]
                · simp [go_sem, sf_r3_wellFormedExpr, LE.row, h1, hl, hv, hb, hlv, wfE, wfEs_all, hall, shapeL, ql2, ql1, q20, q21, ql2i, ql1i, -Bool.exists_bool]
            · have ql1i : ¬ (kids.length : Int) = 1 := by omega
              simp [go_sem, sf_r3_wellFormedExpr, LE.row, h1, hl, hv, hb, hlv, wfE, wfEs_all, hall, shapeL, ql2, ql1, ql2i, ql1i, -Bool.exists_bool]
        · simp [go_sem, sf_r3_wellFormedExpr, LE.row, h1, hl, hv, hb, hlv, wfE, wfEs_all, hall, shapeL, qs, -Bool.exists_bool]
      · simp [go_sem, sf_r3_wellFormedExpr, LE.row, h1, hl, hv, hb, hlv, wfE, wfEs_all, hall, shapeL, qn, -Bool.exists_bool]
    by_cases k5 : k = 5
    · subst k5
      by_cases ql3 : kids.length = 3
      · have ql3i : (kids.length : Int) = 3 := by omega
        by_cases qn : n = 0
        · subst qn
          by_cases qs : s = []
          · subst qs
            by_cases qo : o = 0
            · subst qo
              simp [go_sem, sf_r3_wellFormedExpr, LE.row, h1, hl, hv, hb, hlv, wfE, wfEs_all, hall, shapeL, ql3, ql3i, -Bool.exists_bool]
            · simp [go_sem, sf_r3_wellFormedExpr, LE.row, h1, hl, hv, hb, hlv, wfE, wfEs_all, hall, shapeL, ql3, qo, ql3i, -Bool.exists_bool]
          · simp [go_sem, sf_r3_wellFormedExpr, LE.row, h1, hl, hv, hb, hlv, wfE, wfEs_all, hall, shapeL, ql3, qs, ql3i, -Bool.exists_bool]
        · simp [go_sem, sf_r3_wellFormedExpr, LE.row, h1, hl, hv, hb, hlv, wfE, wfEs_all, hall, shapeL, ql3, qn, ql3i, -Bool.exists_bool]
      · have ql3i : ¬ (kids.length : Int) = 3 := by omega
        simp [go_sem, sf_r3_wellFormedExpr, LE.row, h1, hl, hv, hb, hlv, wfE, wfEs_all, hall, shapeL, ql3, ql3i, -Bool.exists_bool]
    simp [go_sem, sf_r3_wellFormedExpr, LE.row, h1, hl, hlv, wfE, wfEs_all, hall, shapeL, k1, k2, k3, k4, k5, -Bool.exists_bool]
end
mutual
def deepS : LS → Bool
  | .mk _ _ _ _ a v _ as _ th _ el => decide (20 < depthL a) || (decide (20 < depthL v) || (deepSs th || (deepSs el || as.any fun k => decide (20 < depthL k))))
def deepSs : List LS → Bool
  | [] => false
  | s :: r => deepS s || deepSs r
end
theorem deepS_eq (s : LS) : deepS s = (decide (20 < depthL s.at_) || (decide (20 < depthL s.val) || (deepSs s.th || (deepSs s.el || s.args.any fun k => decide (20 < depthL k))))) := by cases s; rfl
theorem deepSs_all : ∀ l : List LS, deepSs l = !l.all fun s => !deepS s
  | [] => rfl
  | e :: es => by simp [deepSs, deepSs_all es]
def SB (s : LS) : B2 := ⟨s.row.map .p, .live, 17, true⟩
section
variable {T : FuncId → Option SF}
theorem tooDeep_inner (call : Call2) (s : LS) (τ : St2) (v0 : C) (i0 : Int) (hsz : s.args.length ≤ big) (hk : ∀ k, k ∈ s.args → ∀ τ, call F_r3_depth [.agg (k.row.map .p)] τ = some (.i (depthL k), τ)) :
    (s.args.all (fun k => decide (depthL k ≤ 20)) = true → Loop (round [0, 3, 4, 5] (evS ⟨fun _ => false, false⟩ call lb_r3_tooDeep_0)) [(0, v0), (3, .i i0), (4, .ptr τ.length 17 0), (5, .i (0 : Nat))] (τ ++ [SB s]) = some (.exit 2, [(0, v0), (3, .i i0), (4, .ptr τ.length 17 0), (5, .i (s.args.length : Nat)), (40, .b false)], τ ++ [SB s])) ∧
    (s.args.all (fun k => decide (depthL k ≤ 20)) = false → ∃ L, Loop (round [0, 3, 4, 5] (evS ⟨fun _ => false, false⟩ call lb_r3_tooDeep_0)) [(0, v0), (3, .i i0), (4, .ptr τ.length 17 0), (5, .i (0 : Nat))] (τ ++ [SB s]) = some (.ret, [(2, .b true)], (τ ++ [SB s]) ++ L)) := by
  have hl := rowsE_lengths s.args
  have hbig : 100 ≤ big := by decide
  obtain ⟨ka, na, sa, oa, va, kv, nv, sv, ov, vv, ha, hv, hr⟩ := s.row17
  simp only [SB, hr, List.map]
  refine search0 (E := fun i => [(0, v0), (3, .i i0), (4, .ptr τ.length 17 0), (5, .i (i : Nat))]) (fun done k rest hd hp => ?_) (fun done k rest hd hp => ⟨[], ?_⟩) ?_
  · have hlt : done.length < s.args.length := by rw [← hd]; simp
    have hat : (rowsE s.args)[done.length]? = some k.row := by rw [← hd]; exact rowsE_at done rest k
    have h2 := hk k (by rw [← hd]; simp)
    have hw := wrap_b (n := done.length + 1) (by omega)
    obtain ⟨kk, nn, ss, oo, vv', hr'⟩ := k.row5
    simp only [hr', List.map] at h2 hat
    have hat2 := at2 hat
    simp only [Int.natCast_add, Int.natCast_one] at hw
    have hp' : ¬ (20 : Int) < (depthL k : Int) := by have := of_decide_eq_true hp; omega
    simp [go_sem, lb_r3_tooDeep_0, hl, hlt, hat, hat2, h2, hp', hw, -Bool.exists_bool]
  · have hlt : done.length < s.args.length := by rw [← hd]; simp
    have hat : (rowsE s.args)[done.length]? = some k.row := by rw [← hd]; exact rowsE_at done rest k
    have h2 := hk k (by rw [← hd]; simp)
    obtain ⟨kk, nn, ss, oo, vv', hr'⟩ := k.row5
    simp only [hr', List.map] at h2 hat
    have hat2 := at2 hat
    have hp' : (20 : Int) < (depthL k : Int) := by have := of_decide_eq_false hp; omega
    simp [go_sem, lb_r3_tooDeep_0, hl, hlt, hat, hat2, h2, hp', -Bool.exists_bool]
  · simp [go_sem, lb_r3_tooDeep_0, hl, -Bool.exists_bool]
theorem rowsS_at' {done rest l : List LS} {s : LS} (hd : done ++ s :: rest = l) : (rowsS l)[done.length]? = some s.row := by rw [← hd]; exact rowsS_at done rest s
theorem tooDeep_loop (call : Call2) (nl : Option Bool) (l : List LS) (τ : St2) (hl0 : l.length ≤ big)
    (hk : ∀ s, s ∈ l → s.args.length ≤ big ∧ (∀ k, k ∈ s.args → ∀ τ, call F_r3_depth [.agg (k.row.map .p)] τ = some (.i (depthL k), τ)) ∧ (∀ τ, call F_r3_depth [.agg (s.at_.row.map .p)] τ = some (.i (depthL s.at_), τ)) ∧ (∀ τ, call F_r3_depth [.agg (s.val.row.map .p)] τ = some (.i (depthL s.val), τ)) ∧
      (∀ τ, call F_r3_tooDeep [.p (slP s.tnl 17 (rowsS s.th))] τ = some (.b (deepSs s.th), τ)) ∧ (∀ τ, call F_r3_tooDeep [.p (slP s.enl 17 (rowsS s.el))] τ = some (.b (deepSs s.el), τ))) :
    (l.all (fun s => !deepS s) = true → Loop (round [0, 3] (evS ⟨fun _ => false, false⟩ call lb_r3_tooDeep_1)) [(0, .p (slP nl 17 (rowsS l))), (3, .i (0 : Nat))] τ = some (.exit 0, [(0, .p (slP nl 17 (rowsS l))), (3, .i (l.length : Nat)), (9, .b false)], τ)) ∧
    (l.all (fun s => !deepS s) = false → ∃ L, Loop (round [0, 3] (evS ⟨fun _ => false, false⟩ call lb_r3_tooDeep_1)) [(0, .p (slP nl 17 (rowsS l))), (3, .i (0 : Nat))] τ = some (.ret, [(2, .b true)], τ ++ L)) := by
  have hl := rowsS_lengths l
  have hbig : 100 ≤ big := by decide
  have key : ∀ done s rest, done ++ s :: rest = l → (deepS s = false → round [0, 3] (evS ⟨fun _ => false, false⟩ call lb_r3_tooDeep_1) [(0, .p (slP nl 17 (rowsS l))), (3, .i (done.length : Nat))] τ = some (.normal, [(0, .p (slP nl 17 (rowsS l))), (3, .i ((done.length + 1 : Nat) : Int))], τ)) ∧
      (deepS s = true → ∃ L, round [0, 3] (evS ⟨fun _ => false, false⟩ call lb_r3_tooDeep_1) [(0, .p (slP nl 17 (rowsS l))), (3, .i (done.length : Nat))] τ = some (.ret, [(2, .b true)], τ ++ L)) := by
    intro done s rest hd
    obtain ⟨m1, m2, m3, m4, m5, m6⟩ := hk s (by rw [← hd]; simp)
    obtain ⟨i1, i2⟩ := tooDeep_inner call s τ (.p (slP nl 17 (rowsS l))) (done.length : Nat) m1 m2
    have hlt : done.length < l.length := by rw [← hd]; simp
    have hat := rowsS_at' hd
    have hw := wrap_b (n := done.length + 1) (by omega)
    simp only [Int.natCast_add, Int.natCast_one] at hw
    have hde := deepS_eq s
    have hany : (s.args.any fun k => decide (20 < depthL k)) = !s.args.all fun k => decide (depthL k ≤ 20) := by rw [Bool.eq_iff_iff]; simp
    rw [hany] at hde
    obtain ⟨ka, na, sa, oa, va, kv, nv, sv, ov, vv, ha, hv, hr⟩ := s.row17
    simp only [SB, hr, List.map, Int.ofNat_zero] at i1 i2
    rw [hr] at hat
    have hat2 := at2 hat
    simp only [ha, hv, List.map] at m3 m4
    have htr := fun (tm : Tm) (h : tmB τ.length tm = true) (L : St2) => trunc0 (τ := τ) (L := L) h
    rw [hde]
    by_cases qa : (20 : Int) < (depthL s.at_ : Int)
    · have qan : 20 < depthL s.at_ := by omega
      refine ⟨fun h => ?_, fun _ => ⟨[⟨[.p (.int .i64 s.kind), .p (.str s.name), .p (.str s.to), .p (.int .i64 s.n), .p (.int .i64 ka), .p (.int .i64 na), .p (.str sa), .p (.int .i64 oa), .p va, .p (.int .i64 kv), .p (.int .i64 nv), .p (.str sv), .p (.int .i64 ov), .p vv, .p (slP s.anl 5 (rowsE s.args)), .p (slP s.tnl 17 (rowsS s.th)), .p (slP s.enl 17 (rowsS s.el))], .live, 17, true⟩], ?_⟩⟩
      · simp [qa, qan] at h
      · simp [go_sem, lb_r3_tooDeep_1, hl, hlt, hat, hat2, m3, m4, m5, m6, hw, htr, tmB, refsB, qa, qan, -Bool.exists_bool]
    · have qan : ¬ 20 < depthL s.at_ := by omega
      by_cases qv : (20 : Int) < (depthL s.val : Int)
      · have qvn : 20 < depthL s.val := by omega
        refine ⟨fun h => ?_, fun _ => ⟨[⟨[.p (.int .i64 s.kind), .p (.str s.name), .p (.str s.to), .p (.int .i64 s.n), .p (.int .i64 ka), .p (.int .i64 na), .p (.str sa), .p (.int .i64 oa), .p va, .p (.int .i64 kv), .p (.int .i64 nv), .p (.str sv), .p (.int .i64 ov), .p vv, .p (slP s.anl 5 (rowsE s.args)), .p (slP s.tnl 17 (rowsS s.th)), .p (slP s.enl 17 (rowsS s.el))], .live, 17, true⟩], ?_⟩⟩
        · simp [qa, qv, qan, qvn] at h
        · simp [go_sem, lb_r3_tooDeep_1, hl, hlt, hat, hat2, m3, m4, m5, m6, hw, htr, tmB, refsB, qa, qv, qan, qvn, -Bool.exists_bool]
      · have qvn : ¬ 20 < depthL s.val := by omega
        by_cases qt : deepSs s.th = true
        · refine ⟨fun h => ?_, fun _ => ⟨[⟨[.p (.int .i64 s.kind), .p (.str s.name), .p (.str s.to), .p (.int .i64 s.n), .p (.int .i64 ka), .p (.int .i64 na), .p (.str sa), .p (.int .i64 oa), .p va, .p (.int .i64 kv), .p (.int .i64 nv), .p (.str sv), .p (.int .i64 ov), .p vv, .p (slP s.anl 5 (rowsE s.args)), .p (slP s.tnl 17 (rowsS s.th)), .p (slP s.enl 17 (rowsS s.el))], .live, 17, true⟩], ?_⟩⟩
          · simp [qa, qv, qt, qan, qvn] at h
          · simp [go_sem, lb_r3_tooDeep_1, hl, hlt, hat, hat2, m3, m4, m5, m6, hw, htr, tmB, refsB, qa, qv, qt, qan, qvn, -Bool.exists_bool]
        · by_cases qe : deepSs s.el = true
          · refine ⟨fun h => ?_, fun _ => ⟨[⟨[.p (.int .i64 s.kind), .p (.str s.name), .p (.str s.to), .p (.int .i64 s.n), .p (.int .i64 ka), .p (.int .i64 na), .p (.str sa), .p (.int .i64 oa), .p va, .p (.int .i64 kv), .p (.int .i64 nv), .p (.str sv), .p (.int .i64 ov), .p vv, .p (slP s.anl 5 (rowsE s.args)), .p (slP s.tnl 17 (rowsS s.th)), .p (slP s.enl 17 (rowsS s.el))], .live, 17, true⟩], ?_⟩⟩
            · simp [qa, qv, qt, qe, qan, qvn] at h
            · simp [go_sem, lb_r3_tooDeep_1, hl, hlt, hat, hat2, m3, m4, m5, m6, hw, htr, tmB, refsB, qa, qv, qt, qe, qan, qvn, -Bool.exists_bool]
          · cases hall : s.args.all fun k => decide (depthL k ≤ 20) with
            | true =>
              have j1 := i1 hall
              refine ⟨fun _ => ?_, fun h => ?_⟩
              · simp [go_sem, lb_r3_tooDeep_1, hl, hlt, hat, hat2, m3, m4, m5, m6, hw, htr, tmB, refsB, qa, qv, qt, qe, qan, qvn, j1, -Bool.exists_bool]
              · simp [qa, qv, qt, qe, qan, qvn] at h
            | false =>
              obtain ⟨L, j2⟩ := i2 hall
              refine ⟨fun h => ?_, fun _ => ⟨⟨[.p (.int .i64 s.kind), .p (.str s.name), .p (.str s.to), .p (.int .i64 s.n), .p (.int .i64 ka), .p (.int .i64 na), .p (.str sa), .p (.int .i64 oa), .p va, .p (.int .i64 kv), .p (.int .i64 nv), .p (.str sv), .p (.int .i64 ov), .p vv, .p (slP s.anl 5 (rowsE s.args)), .p (slP s.tnl 17 (rowsS s.th)), .p (slP s.enl 17 (rowsS s.el))], .live, 17, true⟩ :: L, ?_⟩⟩
              · simp [qa, qv, qt, qe, qan, qvn] at h
              · simp only [List.append_assoc, List.cons_append, List.nil_append] at j2
                simp [go_sem, lb_r3_tooDeep_1, hl, hlt, hat, hat2, m3, m4, m5, m6, hw, htr, tmB, refsB, qa, qv, qt, qe, qan, qvn, j2, -Bool.exists_bool]
  refine search0 (E := fun i => [(0, .p (slP nl 17 (rowsS l))), (3, .i (i : Nat))]) (fun done k rest hd hp => ?_) (fun done k rest hd hp => ?_) ?_
  · exact (key done k rest hd).1 (by simpa using hp)
  · exact (key done k rest hd).2 (by simpa using hp)
  · simp [go_sem, lb_r3_tooDeep_1, hl, -Bool.exists_bool]
theorem tooDeep_eq (hD : T F_r3_depth = some sf_r3_depth) (hT : T F_r3_tooDeep = some sf_r3_tooDeep) : ∀ (l : List LS) (nl : Option Bool), szSs l ≤ big → ∀ τ, go T F_r3_tooDeep [.p (slP nl 17 (rowsS l))] τ = some (.b (deepSs l), τ) := LSs.ind fun l ih nl hs τ => by
  have hlen := szSs_len l
  obtain ⟨h1, h2⟩ := tooDeep_loop (go T) nl l τ (by omega) (fun s hm => by
    have h1 := szSs_mem hm
    have h2 := szS_eq s
    have h3 := szEs_len s.args
    refine ⟨by omega, fun k hk => depth_eq hD k (by have := szEs_mem hk; omega), depth_eq hD _ (by omega), depth_eq hD _ (by omega), (ih s hm).1 _ (by omega), (ih s hm).2 _ (by omega)⟩)
  simp only [Int.ofNat_zero] at h1 h2
  rw [go_eq, hT, deepSs_all]
  have hlv := fun L x => leave_pL τ L x
  cases hall : l.all fun s => !deepS s with
  | true =>
    have h1 := h1 hall
    simp [go_sem, sf_r3_tooDeep, h1, -Bool.exists_bool]
  | false =>
    obtain ⟨L, h2⟩ := h2 hall
    simp [go_sem, sf_r3_tooDeep, h2, hlv, -Bool.exists_bool]
end
def flatL (s : LS) : Bool := decide (s.th.length = 0) && decide (s.el.length = 0)
def shapeS (s : LS) : Bool :=
  if s.kind = 1 then flatL s && (validL s.name && (decide (s.to = []) && (decide (s.n = 0) && (isZeroL s.at_ && (decide (s.args.length = 0) && wfE s.val)))))
  else if s.kind = 2 then flatL s && (validL s.name && (decide (s.to = []) && (decide (s.n = 0) && (wfE s.at_ && (decide (s.args.length = 0) && wfE s.val)))))
  else if s.kind = 3 then onlyValL s && wfE s.val
  else if s.kind = 4 then onlyValL s && (wfE s.val && decide (s.el.length = 0))
  else if s.kind = 5 then flatL s && (onlyValL s && wfE s.val)
  else if s.kind = 6 then flatL s && (validL s.name && (validL s.to && (decide (s.n = 0) && (isZeroL s.at_ && isZeroL s.val))))
  else if s.kind = 7 then flatL s && (decide (s.name = []) && (decide (s.to = []) && (decide (0 ≤ s.n) && (decide (s.n ≤ 1000000) && (isZeroL s.at_ && (isZeroL s.val && decide (s.args.length = 0)))))))
  else false
def wfS1 (s : LS) : Bool := s.args.all wfE && shapeS s
mutual
def wfS : LS → Bool
  | .mk k s t n a v anl as tnl th enl el => wfS1 (.mk k s t n a v anl as tnl th enl el) && (wfSs th && wfSs el)
def wfSs : List LS → Bool
  | [] => true
  | s :: r => wfS s && wfSs r
end
theorem wfS_eq (s : LS) : wfS s = (wfS1 s && (wfSs s.th && wfSs s.el)) := by cases s; rfl
theorem wfSs_all : ∀ l : List LS, wfSs l = l.all wfS
  | [] => rfl
  | e :: es => by simp [wfSs, wfSs_all es]
section
variable {T : FuncId → Option SF}
structure HWfS (T : FuncId → Option SF) : Prop extends HWf T where
  zero : T F_r3_isZero = some sf_r3_isZero
  only : T F_r3_onlyValue = some sf_r3_onlyValue
  wfS : T F_r3_wellFormedStmt = some sf_r3_wellFormedStmt
  wfSs : T F_r3_wellFormedStmts = some sf_r3_wellFormedStmts
theorem wfS_inner (call : Call2) (s : LS) (τ : St2) (hsz : s.args.length ≤ big) (hk : ∀ k, k ∈ s.args → ∀ τ, call F_r3_wellFormedExpr [.agg (k.row.map .p)] τ = some (.b (wfE k), τ)) :
    (s.args.all wfE = true → Loop (round [1, 3] (evS ⟨fun _ => false, false⟩ call lb_r3_wellFormedStmt_0)) [(1, .ptr τ.length 17 0), (3, .i (0 : Nat))] (τ ++ [SB s]) = some (.exit 0, [(1, .ptr τ.length 17 0), (3, .i (s.args.length : Nat)), (9, .b false)], τ ++ [SB s])) ∧
    (s.args.all wfE = false → ∃ L, Loop (round [1, 3] (evS ⟨fun _ => false, false⟩ call lb_r3_wellFormedStmt_0)) [(1, .ptr τ.length 17 0), (3, .i (0 : Nat))] (τ ++ [SB s]) = some (.ret, [(2, .b false)], (τ ++ [SB s]) ++ L)) := by
  have hl := rowsE_lengths s.args
  have hbig : 100 ≤ big := by decide
  obtain ⟨ka, na, sa, oa, va, kv, nv, sv, ov, vv, ha, hv, hr⟩ := s.row17
  simp only [SB, hr, List.map]
  refine search0 (E := fun i => [(1, .ptr τ.length 17 0), (3, .i (i : Nat))]) (fun done k rest hd hp => ?_) (fun done k rest hd hp => ⟨[], ?_⟩) ?_
  · have hlt : done.length < s.args.length := by rw [← hd]; simp
    have hat : (rowsE s.args)[done.length]? = some k.row := by rw [← hd]; exact rowsE_at done rest k
    have h2 := hk k (by rw [← hd]; simp)
    have hw := wrap_b (n := done.length + 1) (by omega)
    obtain ⟨kk, nn, ss, oo, vv', hr'⟩ := k.row5
    simp only [hr', List.map] at h2 hat
    have hat2 := at2 hat
    simp only [Int.natCast_add, Int.natCast_one] at hw
    simp [go_sem, lb_r3_wellFormedStmt_0, hl, hlt, hat, hat2, h2, hp, hw, -Bool.exists_bool]
  · have hlt : done.length < s.args.length := by rw [← hd]; simp
    have hat : (rowsE s.args)[done.length]? = some k.row := by rw [← hd]; exact rowsE_at done rest k
    have h2 := hk k (by rw [← hd]; simp)
    obtain ⟨kk, nn, ss, oo, vv', hr'⟩ := k.row5
    simp only [hr', List.map] at h2 hat
    have hat2 := at2 hat
    simp [go_sem, lb_r3_wellFormedStmt_0, hl, hlt, hat, hat2, h2, hp, -Bool.exists_bool]
  · simp [go_sem, lb_r3_wellFormedStmt_0, hl, -Bool.exists_bool]
theorem len0 {α : Type} (l : List α) : l.length = 0 ↔ l = [] := List.length_eq_zero_iff
theorem wfS_pre (H : HWfS T) (s : LS) (hs : szS s ≤ big) (τ : St2) :
    (s.args.all wfE = true → ∃ tm, evS sf_r3_wellFormedStmt.fl (go T) (preS 3 sf_r3_wellFormedStmt.code) (tmS [.agg (s.row.map .p)] 0) τ = some (.normal, tm, τ ++ [SB s]) ∧ look 1 tm = some (.ptr τ.length 17 0) ∧ look 4 tm = some (.b (flatL s))) ∧
    (s.args.all wfE = false → ∃ L, evS sf_r3_wellFormedStmt.fl (go T) (preS 3 sf_r3_wellFormedStmt.code) (tmS [.agg (s.row.map .p)] 0) τ = some (.ret, [(2, .b false)], τ ++ L)) := by
  have h2 := szS_eq s
  have h3 := szEs_len s.args
  obtain ⟨i1, i2⟩ := wfS_inner (go T) s τ (by omega) (fun k hk => wfE_eq H.toHWf k (by have := szEs_mem hk; omega))
  obtain ⟨ka, na, sa, oa, va, kv, nv, sv, ov, vv, ha, hv, hr⟩ := s.row17
  simp only [SB, hr, List.map, Int.ofNat_zero] at i1 i2 ⊢
  have hl1 := rowsS_lengths s.th
  have hl2 := rowsS_lengths s.el
  refine ⟨fun h => ?_, fun h => ?_⟩
  · have j := i1 h
    obtain ⟨Y, hY⟩ : ∃ Y, evS sf_r3_wellFormedStmt.fl (go T) (preS 3 sf_r3_wellFormedStmt.code) (tmS [.agg [.p (.int .i64 s.kind), .p (.str s.name), .p (.str s.to), .p (.int .i64 s.n), .p (.int .i64 ka), .p (.int .i64 na), .p (.str sa), .p (.int .i64 oa), .p va, .p (.int .i64 kv), .p (.int .i64 nv), .p (.str sv), .p (.int .i64 ov), .p vv, .p (slP s.anl 5 (rowsE s.args)), .p (slP s.tnl 17 (rowsS s.th)), .p (slP s.enl 17 (rowsS s.el))]] 0) τ = Y := ⟨_, rfl⟩
    rw [hY]
    by_cases q1 : s.th.length = 0
    · have q1i : (s.th.length : Int) = 0 := by omega
      by_cases q2 : s.el.length = 0
      · have q2i : (s.el.length : Int) = 0 := by omega
        simp [go_sem, sf_r3_wellFormedStmt, preS, j, hl1, hl2, q1, q2, q1i, q2i, -Bool.exists_bool] at hY
        subst hY
        exact ⟨_, rfl, rfl, by simp [look, nb, flatL, q1, q2]⟩
      · have q2i : ¬ (s.el.length : Int) = 0 := by omega
        simp [go_sem, sf_r3_wellFormedStmt, preS, j, hl1, hl2, q1, q2, q1i, q2i, -Bool.exists_bool] at hY
        subst hY
        exact ⟨_, rfl, rfl, by simp [look, nb, flatL, q1, q2]⟩
    · have q1i : ¬ (s.th.length : Int) = 0 := by omega
      simp [go_sem, sf_r3_wellFormedStmt, preS, j, hl1, hl2, q1, q1i, -Bool.exists_bool] at hY
      subst hY
      exact ⟨_, rfl, rfl, by simp [look, nb, flatL, q1]⟩
  · obtain ⟨L, j⟩ := i2 h
    simp only [List.append_assoc, List.cons_append, List.nil_append] at j
    obtain ⟨Y, hY⟩ : ∃ Y, evS sf_r3_wellFormedStmt.fl (go T) (preS 3 sf_r3_wellFormedStmt.code) (tmS [.agg [.p (.int .i64 s.kind), .p (.str s.name), .p (.str s.to), .p (.int .i64 s.n), .p (.int .i64 ka), .p (.int .i64 na), .p (.str sa), .p (.int .i64 oa), .p va, .p (.int .i64 kv), .p (.int .i64 nv), .p (.str sv), .p (.int .i64 ov), .p vv, .p (slP s.anl 5 (rowsE s.args)), .p (slP s.tnl 17 (rowsS s.th)), .p (slP s.enl 17 (rowsS s.el))]] 0) τ = Y := ⟨_, rfl⟩
    rw [hY]
    simp [go_sem, sf_r3_wellFormedStmt, preS, j, -Bool.exists_bool] at hY
    subst hY
    exact ⟨_, rfl⟩
set_option maxHeartbeats 1000000 in
theorem wfS1_eq (H : HWfS T) (s : LS) (hs : szS s ≤ big) (τ : St2) : go T F_r3_wellFormedStmt [.agg (s.row.map .p)] τ = some (.b (wfS1 s), τ) := by
  obtain ⟨p1, p2⟩ := wfS_pre H s hs τ
  have h2 := szS_eq s
  have hv := fun τ => valid_eq H.toHName s.name (by omega) τ
  have hv2 := fun τ => valid_eq H.toHName s.to (by omega) τ
  have hz1 := fun τ => isZero_eq H.zero s.at_ τ
  have hz2 := fun τ => isZero_eq H.zero s.val τ
  have hw1 := fun τ => wfE_eq H.toHWf s.at_ (by omega) τ
  have hw2 := fun τ => wfE_eq H.toHWf s.val (by omega) τ
  have ho := fun τ => onlyVal_eq H.only H.zero s τ
  have hlv := fun L x => leave_pL τ L x
  rw [go_eq, H.wfS, body_cut 3 rfl _ _ _ rfl]
  unfold wfS1
  cases hall : s.args.all wfE with
  | false =>
    obtain ⟨L, p2⟩ := p2 hall
    rw [p2]
    simp [go_sem, sf_r3_wellFormedStmt, hlv, -Bool.exists_bool]
  | true =>
    obtain ⟨tm, p1, t1, t4⟩ := p1 hall
    rw [p1]
    clear p1 p2
    obtain ⟨ka, na, sa, oa, va, kv, nv, sv, ov, vv, ha, hv', hr⟩ := s.row17
    simp only [ha, hv', hr, SB, List.map] at hz1 hz2 hw1 hw2 ho ⊢
    have hl0 := rowsE_lengths s.args
    have hl1 := rowsS_lengths s.th
    have hl2 := rowsS_lengths s.el
    rw [Bool.true_and]
    by_cases k1 : s.kind = 1
    · by_cases qf : flatL s = true
      · by_cases qv : validL s.name = true
        · by_cases qt : s.to = []
          · by_cases qn : s.n = 0
            · by_cases qz1 : isZeroL s.at_ = true
              · by_cases qa : s.args.length = 0
                · have qai : (s.args.length : Int) = 0 := by omega
                  by_cases qw2 : wfE s.val = true
                  · simp [go_sem, sf_r3_wellFormedStmt, postS, t1, t4, hlv, shapeS, k1, qf, qv, qt, qn, qz1, qa, qw2, hv, hz1, hl0, qai, hw2, -Bool.exists_bool]
                  · simp [go_sem, sf_r3_wellFormedStmt, postS, t1, t4, hlv, shapeS, k1, qf, qv, qt, qn, qz1, qa, qw2, hv, hz1, hl0, qai, hw2, -Bool.exists_bool]
                · have qai : ¬ (s.args.length : Int) = 0 := by omega
                  simp [go_sem, sf_r3_wellFormedStmt, postS, t1, t4, hlv, shapeS, k1, qf, qv, qt, qn, qz1, qa, hv, hz1, hl0, qai, -Bool.exists_bool]
              · simp [go_sem, sf_r3_wellFormedStmt, postS, t1, t4, hlv, shapeS, k1, qf, qv, qt, qn, qz1, hv, hz1, -Bool.exists_bool]
            · simp [go_sem, sf_r3_wellFormedStmt, postS, t1, t4, hlv, shapeS, k1, qf, qv, qt, qn, hv, -Bool.exists_bool]
          · simp [go_sem, sf_r3_wellFormedStmt, postS, t1, t4, hlv, shapeS, k1, qf, qv, qt, hv, -Bool.exists_bool]
        · simp [go_sem, sf_r3_wellFormedStmt, postS, t1, t4, hlv, shapeS, k1, qf, qv, hv, -Bool.exists_bool]
      · simp [go_sem, sf_r3_wellFormedStmt, postS, t1, t4, hlv, shapeS, k1, qf, -Bool.exists_bool]
    by_cases k2 : s.kind = 2
    · by_cases qf : flatL s = true
      · by_cases qv : validL s.name = true
        · by_cases qt : s.to = []
          · by_cases qn : s.n = 0
            · by_cases qw1 : wfE s.at_ = true
              · by_cases qa : s.args.length = 0
                · have qai : (s.args.length : Int) = 0 := by omega
                  by_cases qw2 : wfE s.val = true
                  · simp [go_sem, sf_r3_wellFormedStmt, postS, t1, t4, hlv, shapeS, k1, k2, qf, qv, qt, qn, qw1, qa, qw2, hv, hw1, hl0, qai, hw2, -Bool.exists_bool]
                  · simp [go_sem, sf_r3_wellFormedStmt, postS, t1, t4, hlv, shapeS, k1, k2, qf, qv, qt, qn, qw1, qa, qw2, hv, hw1, hl0, qai, hw2, -Bool.exists_bool]
                · have qai : ¬ (s.args.length : Int) = 0 := by omega
                  simp [go_sem, sf_r3_wellFormedStmt, postS, t1, t4, hlv, shapeS, k1, k2, qf, qv, qt, qn, qw1, qa, hv, hw1, hl0, qai, -Bool.exists_bool]
              · simp [go_sem, sf_r3_wellFormedStmt, postS, t1, t4, hlv, shapeS, k1, k2, qf, qv, qt, qn, qw1, hv, hw1, -Bool.exists_bool]
            · simp [go_sem, sf_r3_wellFormedStmt, postS, t1, t4, hlv, shapeS, k1, k2, qf, qv, qt, qn, hv, -Bool.exists_bool]
          · simp [go_sem, sf_r3_wellFormedStmt, postS, t1, t4, hlv, shapeS, k1, k2, qf, qv, qt, hv, -Bool.exists_bool]
        · simp [go_sem, sf_r3_wellFormedStmt, postS, t1, t4, hlv, shapeS, k1, k2, qf, qv, hv, -Bool.exists_bool]
      · simp [go_sem, sf_r3_wellFormedStmt, postS, t1, t4, hlv, shapeS, k1, k2, qf, -Bool.exists_bool]
    by_cases k3 : s.kind = 3
    · by_cases qo : onlyValL s = true
      · by_cases qw2 : wfE s.val = true
        · simp only [k3] at ho
          simp [go_sem, sf_r3_wellFormedStmt, postS, t1, t4, hlv, shapeS, k1, k2, k3, qo, qw2, ho, hw2, -Bool.exists_bool]
        · simp only [k3] at ho
          simp [go_sem, sf_r3_wellFormedStmt, postS, t1, t4, hlv, shapeS, k1, k2, k3, qo, qw2, ho, hw2, -Bool.exists_bool]
      · simp only [k3] at ho
        simp [go_sem, sf_r3_wellFormedStmt, postS, t1, t4, hlv, shapeS, k1, k2, k3, qo, ho, -Bool.exists_bool]
    by_cases k4 : s.kind = 4
    · by_cases qo : onlyValL s = true
      · by_cases qw2 : wfE s.val = true
        · by_cases qe : s.el.length = 0
          · have qei : (s.el.length : Int) = 0 := by omega
            simp only [k4] at ho
            simp [go_sem, sf_r3_wellFormedStmt, postS, t1, t4, hlv, shapeS, k1, k2, k3, k4, qo, qw2, qe, ho, hw2, hl2, qei, -Bool.exists_bool]
          · have qei : ¬ (s.el.length : Int) = 0 := by omega
            simp only [k4] at ho
            simp [go_sem, sf_r3_wellFormedStmt, postS, t1, t4, hlv, shapeS, k1, k2, k3, k4, qo, qw2, qe, ho, hw2, hl2, qei, -Bool.exists_bool]
        · simp only [k4] at ho
          simp [go_sem, sf_r3_wellFormedStmt, postS, t1, t4, hlv, shapeS, k1, k2, k3, k4, qo, qw2, ho, hw2, -Bool.exists_bool]
      · simp only [k4] at ho
        simp [go_sem, sf_r3_wellFormedStmt, postS, t1, t4, hlv, shapeS, k1, k2, k3, k4, qo, ho, -Bool.exists_bool]
    by_cases k5 : s.kind = 5
    · by_cases qf : flatL s = true
      · by_cases qo : onlyValL s = true
        · by_cases qw2 : wfE s.val = true
          · simp only [k5] at ho
            simp [go_sem, sf_r3_wellFormedStmt, postS, t1, t4, hlv, shapeS, k1, k2, k3, k4, k5, qf, qo, qw2, ho, hw2, -Bool.exists_bool]
          · simp only [k5] at ho
            simp [go_sem, sf_r3_wellFormedStmt, postS, t1, t4, hlv, shapeS, k1, k2, k3, k4, k5, qf, qo, qw2, ho, hw2, -Bool.exists_bool]
        · simp only [k5] at ho
          simp [go_sem, sf_r3_wellFormedStmt, postS, t1, t4, hlv, shapeS, k1, k2, k3, k4, k5, qf, qo, ho, -Bool.exists_bool]
      · simp [go_sem, sf_r3_wellFormedStmt, postS, t1, t4, hlv, shapeS, k1, k2, k3, k4, k5, qf, -Bool.exists_bool]
    by_cases k6 : s.kind = 6
    · by_cases qf : flatL s = true
      · by_cases qv : validL s.name = true
        · by_cases qv2 : validL s.to = true
          · by_cases qn : s.n = 0
            · by_cases qz1 : isZeroL s.at_ = true
              · by_cases qz2 : isZeroL s.val = true
                · simp [go_sem, sf_r3_wellFormedStmt, postS, t1, t4, hlv, shapeS, k1, k2, k3, k4, k5, k6, qf, qv, qv2, qn, qz1, qz2, hv, hv2, hz1, hz2, -Bool.exists_bool]
                · simp [go_sem, sf_r3_wellFormedStmt, postS, t1, t4, hlv, shapeS, k1, k2, k3, k4, k5, k6, qf, qv, qv2, qn, qz1, qz2, hv, hv2, hz1, hz2, -Bool.exists_bool]
              · simp [go_sem, sf_r3_wellFormedStmt, postS, t1, t4, hlv, shapeS, k1, k2, k3, k4, k5, k6, qf, qv, qv2, qn, qz1, hv, hv2, hz1, -Bool.exists_bool]
            · simp [go_sem, sf_r3_wellFormedStmt, postS, t1, t4, hlv, shapeS, k1, k2, k3, k4, k5, k6, qf, qv, qv2, qn, hv, hv2, -Bool.exists_bool]
          · simp [go_sem, sf_r3_wellFormedStmt, postS, t1, t4, hlv, shapeS, k1, k2, k3, k4, k5, k6, qf, qv, qv2, hv, hv2, -Bool.exists_bool]
        · simp [go_sem, sf_r3_wellFormedStmt, postS, t1, t4, hlv, shapeS, k1, k2, k3, k4, k5, k6, qf, qv, hv, -Bool.exists_bool]
      · simp [go_sem, sf_r3_wellFormedStmt, postS, t1, t4, hlv, shapeS, k1, k2, k3, k4, k5, k6, qf, -Bool.exists_bool]
    by_cases k7 : s.kind = 7
    · by_cases qf : flatL s = true
      · by_cases qnm : s.name = []
        · by_cases qt : s.to = []
          · by_cases q0 : 0 ≤ s.n
            · by_cases qm : s.n ≤ 1000000
              · by_cases qz1 : isZeroL s.at_ = true
                · by_cases qz2 : isZeroL s.val = true
                  · by_cases qa : s.args.length = 0
                    · have qai : (s.args.length : Int) = 0 := by omega
                      simp [go_sem, sf_r3_wellFormedStmt, postS, t1, t4, hlv, shapeS, k1, k2, k3, k4, k5, k6, k7, qf, qnm, qt, q0, qm, qz1, qz2, qa, hz1, hz2, hl0, qai, -Bool.exists_bool]
                    · have qai : ¬ (s.args.length : Int) = 0 := by omega
                      simp [go_sem, sf_r3_wellFormedStmt, postS, t1, t4, hlv, shapeS, k1, k2, k3, k4, k5, k6, k7, qf, qnm, qt, q0, qm, qz1, qz2, qa, hz1, hz2, hl0, qai, -Bool.exists_bool]
                  · simp [go_sem, sf_r3_wellFormedStmt, postS, t1, t4, hlv, shapeS, k1, k2, k3, k4, k5, k6, k7, qf, qnm, qt, q0, qm, qz1, qz2, hz1, hz2, -Bool.exists_bool]
                · simp [go_sem, sf_r3_wellFormedStmt, postS, t1, t4, hlv, shapeS, k1, k2, k3, k4, k5, k6, k7, qf, qnm, qt, q0, qm, qz1, hz1, -Bool.exists_bool]
              · simp [go_sem, sf_r3_wellFormedStmt, postS, t1, t4, hlv, shapeS, k1, k2, k3, k4, k5, k6, k7, qf, qnm, qt, q0, qm, -Bool.exists_bool]
            · simp [go_sem, sf_r3_wellFormedStmt, postS, t1, t4, hlv, shapeS, k1, k2, k3, k4, k5, k6, k7, qf, qnm, qt, q0, -Bool.exists_bool]
          · simp [go_sem, sf_r3_wellFormedStmt, postS, t1, t4, hlv, shapeS, k1, k2, k3, k4, k5, k6, k7, qf, qnm, qt, -Bool.exists_bool]
        · simp [go_sem, sf_r3_wellFormedStmt, postS, t1, t4, hlv, shapeS, k1, k2, k3, k4, k5, k6, k7, qf, qnm, -Bool.exists_bool]
      · simp [go_sem, sf_r3_wellFormedStmt, postS, t1, t4, hlv, shapeS, k1, k2, k3, k4, k5, k6, k7, qf, -Bool.exists_bool]
    simp [go_sem, sf_r3_wellFormedStmt, postS, t1, t4, hlv, shapeS, k1, k2, k3, k4, k5, k6, k7, -Bool.exists_bool]
theorem wfSs_loop (call : Call2) (nl : Option Bool) (l : List LS) (τ : St2) (hl0 : l.length ≤ big)
    (hk : ∀ s, s ∈ l → (∀ τ, call F_r3_wellFormedStmt [.agg (s.row.map .p)] τ = some (.b (wfS1 s), τ)) ∧ (∀ τ, call F_r3_wellFormedStmts [.p (slP s.tnl 17 (rowsS s.th))] τ = some (.b (wfSs s.th), τ)) ∧ (∀ τ, call F_r3_wellFormedStmts [.p (slP s.enl 17 (rowsS s.el))] τ = some (.b (wfSs s.el), τ))) :
    (l.all wfS = true → Loop (round [0, 3] (evS ⟨fun _ => false, false⟩ call lb_r3_wellFormedStmts_0)) [(0, .p (slP nl 17 (rowsS l))), (3, .i (0 : Nat))] τ = some (.exit 0, [(0, .p (slP nl 17 (rowsS l))), (3, .i (l.length : Nat)), (7, .b false)], τ)) ∧
    (l.all wfS = false → ∃ L, Loop (round [0, 3] (evS ⟨fun _ => false, false⟩ call lb_r3_wellFormedStmts_0)) [(0, .p (slP nl 17 (rowsS l))), (3, .i (0 : Nat))] τ = some (.ret, [(2, .b false)], τ ++ L)) := by
  have hl := rowsS_lengths l
  have hbig : 100 ≤ big := by decide
  refine search0 (E := fun i => [(0, .p (slP nl 17 (rowsS l))), (3, .i (i : Nat))]) (fun done s rest hd hp => ?_) (fun done s rest hd hp => ⟨[], ?_⟩) ?_
  · have hlt : done.length < l.length := by rw [← hd]; simp
    have hat := rowsS_at' hd
    obtain ⟨h1, h2, h3⟩ := hk s (by rw [← hd]; simp)
    have hw := wrap_b (n := done.length + 1) (by omega)
    simp only [Int.natCast_add, Int.natCast_one] at hw
    rw [wfS_eq, Bool.and_eq_true, Bool.and_eq_true] at hp
    obtain ⟨q1, q2, q3⟩ := hp
    obtain ⟨ka, na, sa, oa, va, kv, nv, sv, ov, vv, ha, hv, hr⟩ := s.row17
    simp only [hr, List.map] at h1 hat
    have hat2 := at2 hat
    simp [go_sem, lb_r3_wellFormedStmts_0, hl, hlt, hat, hat2, h1, h2, h3, q1, q2, q3, hw, -Bool.exists_bool]
  · have hlt : done.length < l.length := by rw [← hd]; simp
    have hat := rowsS_at' hd
    obtain ⟨h1, h2, h3⟩ := hk s (by rw [← hd]; simp)
    rw [wfS_eq] at hp
    obtain ⟨ka, na, sa, oa, va, kv, nv, sv, ov, vv, ha, hv, hr⟩ := s.row17
    simp only [hr, List.map] at h1 hat
    have hat2 := at2 hat
    cases q1 : wfS1 s with
    | false => simp [go_sem, lb_r3_wellFormedStmts_0, hl, hlt, hat, hat2, h1, q1, -Bool.exists_bool]
    | true =>
      cases q2 : wfSs s.th with
      | false => simp [go_sem, lb_r3_wellFormedStmts_0, hl, hlt, hat, hat2, h1, h2, q1, q2, -Bool.exists_bool]
      | true =>
        cases q3 : wfSs s.el with
        | false => simp [go_sem, lb_r3_wellFormedStmts_0, hl, hlt, hat, hat2, h1, h2, h3, q1, q2, q3, -Bool.exists_bool]
        | true => rw [q1, q2, q3] at hp; cases hp
  · simp [go_sem, lb_r3_wellFormedStmts_0, hl, -Bool.exists_bool]
theorem wfSs_eq (H : HWfS T) : ∀ (l : List LS) (nl : Option Bool), szSs l ≤ big → ∀ τ, go T F_r3_wellFormedStmts [.p (slP nl 17 (rowsS l))] τ = some (.b (wfSs l), τ) := LSs.ind fun l ih nl hs τ => by
  have hlen := szSs_len l
  obtain ⟨h1, h2⟩ := wfSs_loop (go T) nl l τ (by omega) (fun s hm => by
    have h1 := szSs_mem hm
    have h2 := szS_eq s
    exact ⟨wfS1_eq H s (by omega), (ih s hm).1 _ (by omega), (ih s hm).2 _ (by omega)⟩)
  simp only [Int.ofNat_zero] at h1 h2
  rw [go_eq, H.wfSs, wfSs_all]
  have hlv := fun L x => leave_pL τ L x
  cases hall : l.all wfS with
  | true =>
    have h1 := h1 hall
    simp [go_sem, sf_r3_wellFormedStmts, h1, -Bool.exists_bool]
  | false =>
    obtain ⟨L, h2⟩ := h2 hall
    simp [go_sem, sf_r3_wellFormedStmts, h2, hlv, -Bool.exists_bool]
end
end
end Go.Proofs.YtpkchglfgkkcbaaDoor.Vs
namespace Go.Proofs.YtpkchglfgkkcbaaDoor.Vs
open Go.Proofs.YtpkchglfgkkcbaaDoor.Ev
noncomputable section
attribute [local go_sem] bodyS evS evL want chkV opV isEf neV efV env look put putO keep bi un1 v0 binC isSh binI wb next2 regS condS outS resS tmS nb nl blockS virts round trunc_same len_list len_nils len_ms len_str len_sl idx_list idx_ms idx_sl binS asN_nat faC storeC cellsOf isCell setAt buildC partsC fillC repC rowC toPs chunks at_len at_add set_len set_add nilChk callV ev2 fieldC unC pickC slcC slcP bnd obnd asN_lit asN_0 asN_1 asN_2 asN_mod asN_modl succ_ne succ_pos' leave3 leave_p undefC
set_option linter.unusedSimpArgs false
def nb1 (xs : List Str) (d : Bool) : B2 := ⟨xs.map fun s => .p (.str s), .live, 1, d⟩
inductive SV (τ : St2) : C → List Str → Prop where
  | pure (nl : Option Bool) (xs : List Str) : SV τ (.p (slP nl 1 (rowsN xs))) xs
  | own {l : Nat} {xs : List Str} {d : Bool} (h : τ[l]? = some (nb1 xs d)) : SV τ (.ms l xs.length 0 xs.length ucap) xs
  | virt {l : Nat} {B : B2} (h : τ[l]? = some B) : SV τ (.ms l 0 0 0 ucap) []
theorem SV.app {τ : St2} {c : C} {xs : List Str} (h : SV τ c xs) (L : St2) : SV (τ ++ L) c xs := by
  have key : ∀ {l : Nat} {B : B2}, τ[l]? = some B → (τ ++ L)[l]? = some B := fun {l B} h => by
    rw [List.getElem?_append_left (List.getElem?_eq_some_iff.1 h).1]; exact h
  cases h with
  | pure nl xs => exact .pure nl xs
  | own h => exact .own (key h)
  | virt h => exact .virt (key h)
theorem SV.len {τ : St2} {c : C} {xs : List Str} (h : SV τ c xs) : lenC false c = some xs.length := by
  cases h with
  | pure nl xs => rw [len_sl]; simp [rowsN]
  | own h => rfl
  | virt h => rfl
theorem SV.refs {τ : St2} {c : C} {xs : List Str} (h : SV τ c xs) : refsB τ.length c = true := by
  cases h with
  | pure nl xs => rfl
  | own h => have := (List.getElem?_eq_some_iff.1 h).1; simp only [refsB]; exact Nat.ble_eq_true_of_le this
  | virt h => have := (List.getElem?_eq_some_iff.1 h).1; simp only [refsB]; exact Nat.ble_eq_true_of_le this
theorem SV.at_ {τ : St2} {c : C} {xs : List Str} (h : SV τ c xs) {i : Nat} {x : Str} (hx : xs[i]? = some x) : ∃ q, idxSC 1 c i = some q ∧ ∀ L, loadC (τ ++ L) 1 false q = some (.s x) := by
  have hlt := (List.getElem?_eq_some_iff.1 hx).1
  cases h with
  | pure nl xs =>
    refine ⟨.fp [.str x] 0, ?_, fun L => rfl⟩
    rw [idx_sl]
    simp only [rowsN, List.getElem?_map, hx, Option.map_some]
  | @own l xs d h =>
    have hl := (List.getElem?_eq_some_iff.1 h).1
    refine ⟨.ptr l xs.length (0 + i * 1), ?_, fun L => ?_⟩
    · rw [idx_ms, Nat.ble_eq_true_of_le hlt]; rfl
    · simp only [loadC, cellsAt2]
      rw [List.getElem?_append_left hl, h]
      have hd : ((xs.map fun s => C.p (.str s)).drop (0 + i * 1)).take 1 = [.p (.str x)] := by
        rw [show 0 + i * 1 = i by omega, ← List.map_drop, List.drop_eq_getElem_cons hlt]
        have := Option.some.inj ((List.getElem?_eq_getElem hlt).symm.trans hx)
        simp [this]
      have hb : (Nat.beq (xs.map fun s => C.p (.str s)).length xs.length && Nat.ble (0 + i * 1 + 1) xs.length) = true := by
        rw [List.length_map, Nat.beq_refl, Nat.ble_eq_true_of_le (by omega)]; rfl
      simp only [nb1, hb, cond_true, hd, one, cond_false]
  | virt h => simp at hlt
section
variable {T : FuncId → Option SF}
theorem contains_sv (hT : T F_r3_contains = some sf_r3_contains) {τ : St2} {c : C} {xs : List Str} (h : SV τ c xs) (hn : xs.length ≤ big) (s : Str) : go T F_r3_contains [c, .s s] τ = some (.b (decide (s ∈ xs)), τ) := by
  have hbig : 100 ≤ big := by decide
  have hlen := h.len
  have key := search0 (body := round [0, 1, 5] (evS ⟨fun _ => false, false⟩ (go T) lb_r3_contains_0)) (E := fun i => [(0, c), (1, .s s), (5, .i (i : Nat))]) (τ := τ) (xs := xs) (p := fun x => !decide (x = s)) (R := [(4, .b true)]) (X := [(0, c), (1, .s s), (5, .i (xs.length : Nat)), (9, .b false)]) (id := 0)
    (fun done x rest hd hp => by
      have hlt : done.length < xs.length := by rw [← hd]; simp
      have hx : xs[done.length]? = some x := by rw [← hd]; exact at_mid done rest x
      obtain ⟨q, h1, h2⟩ := h.at_ hx
      have h2 := h2 []
      rw [List.append_nil] at h2
      have hw := wrap_b (n := done.length + 1) (by omega)
      simp only [Int.natCast_add, Int.natCast_one] at hw
      have hp : ¬ x = s := by simpa using hp
      simp [go_sem, lb_r3_contains_0, hlen, hlt, h1, h2, hp, hw, -Bool.exists_bool])
    (fun done x rest hd hp => ⟨[], by
      have hlt : done.length < xs.length := by rw [← hd]; simp
      have hx : xs[done.length]? = some x := by rw [← hd]; exact at_mid done rest x
      obtain ⟨q, h1, h2⟩ := h.at_ hx
      have h2 := h2 []
      rw [List.append_nil] at h2
      have hp : x = s := by simpa using hp
      simp [go_sem, lb_r3_contains_0, hlen, hlt, h1, h2, hp, -Bool.exists_bool]⟩)
    (by simp [go_sem, loadC, one, cellsAt2, lb_r3_contains_0, hlen, -Bool.exists_bool])
  simp only [Int.ofNat_zero] at key
  rw [go_eq, hT]
  have hall : (xs.all fun x => !decide (x = s)) = !decide (s ∈ xs) := by rw [Bool.eq_iff_iff]; simp; exact ⟨fun h hm => h s hm rfl, fun h x hx e => h (e ▸ hx)⟩
  rw [hall] at key
  have hlv := fun L x => leave_pL τ L x
  by_cases hm : s ∈ xs
  · obtain ⟨L, k2⟩ := key.2 (by simp [hm])
    simp [go_sem, loadC, one, cellsAt2, sf_r3_contains, k2, hlv, hm, -Bool.exists_bool]
  · have k1 := key.1 (by simp [hm])
    simp [go_sem, loadC, one, cellsAt2, sf_r3_contains, k1, hm, -Bool.exists_bool]
end
end
end Go.Proofs.YtpkchglfgkkcbaaDoor.Vs
