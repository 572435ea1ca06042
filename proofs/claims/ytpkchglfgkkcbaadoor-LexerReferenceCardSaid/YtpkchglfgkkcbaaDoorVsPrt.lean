/-
  The reference printer and the mutated texts, by equations.
-/
import Derived.Test.YtpkchglfgkkcbaaDoorVsChkC
import Derived.Attr

namespace Go.Proofs.YtpkchglfgkkcbaaDoor.Vs
open Go.Proofs.YtpkchglfgkkcbaaDoor.Ev
noncomputable section
attribute [local go_sem] bodyS evS evL want chkV opV isEf neV efV env look put putO keep bi un1 v0 binC isSh binI wb next2 regS condS outS resS tmS nb nl blockS virts round trunc_same len_list len_nils len_ms len_str len_sl idx_list idx_ms idx_sl loadC one binS asN_nat faC cellsAt2 storeC cellsOf isCell_p isCell_ms isCell_ptr setAt buildC partsC fillC repC rowC toPs chunks at_len at_add set_len set_add at_c0 at_ck cleanT_get soil_clean pureAt okV okCell_p okCell_ms okCell_ptr nilChk callV ev2 fieldC unC pickC slcC slcP bnd obnd asN_lit asN_0 asN_1 asN_2 asN_mod asN_modl succ_ne succ_pos' leave3 leave_p undefC
set_option linter.unusedSimpArgs false
theorem catS {a b : List UInt8} (h : a.length + b.length ≤ 4611686018427387904) : binS .add a b = some (.p (.str (a ++ b))) := by simp [binS, h]
theorem eqlS (a b : List UInt8) : binS .eql a b = wb (decide (a = b)) := rfl
theorem neqS (a b : List UInt8) : binS .neq a b = wb (!decide (a = b)) := rfl
def fmtU (n : Nat) : Str := if n < 10 then [UInt8.ofNat (48 + n)] else fmtU (n / 10) ++ [UInt8.ofNat (48 + n % 10)]
  termination_by n
theorem fmtU_len : ∀ k n, n < 10 ^ (k + 1) → (fmtU n).length ≤ k + 1
  | 0, n, h => by rw [fmtU, if_pos (by simpa using h)]; simp
  | k + 1, n, h => by
    rw [fmtU]
    split
    · simp
    · have := fmtU_len k (n / 10) (by rw [Nat.div_lt_iff_lt_mul (by decide)]; rw [Nat.pow_succ] at h; omega)
      simp; omega
theorem wrap_u64 {n : Nat} (h : n < 18446744073709551616) : IntKind.u64.wrap (n : Int) = (n : Int) := by
  unfold IntKind.wrap
  have h1 : ((n : Int) % 2 ^ 64) = n := by omega
  simp only [IntKind.bits, IntKind.signed, h1, Bool.false_and, Bool.false_eq_true, if_false]
theorem wrap_u8 {n : Nat} (h : n < 256) : IntKind.u8.wrap (n : Int) = (n : Int) := by
  unfold IntKind.wrap
  have h1 : ((n : Int) % 2 ^ 8) = n := by omega
  simp only [IntKind.bits, IntKind.signed, h1, Bool.false_and, Bool.false_eq_true, if_false]
section
variable {T : FuncId → Option SF}
theorem toNat48 (n : Nat) : (48 + (n : Int)).toNat = 48 + n := by omega
theorem fmtU_eq (hT : T F_r1_formatUint = some sf_r1_formatUint) : ∀ (k n : Nat), n < 10 ^ (k + 1) → n < 18446744073709551616 → k ≤ 100 → ∀ τ, go T F_r1_formatUint [.p (.int .u64 n)] τ = some (.s (fmtU n), τ) := by
  intro k
  induction k with
  | zero =>
    intro n h h2 hk τ
    have h10 : n < 10 := by simpa using h
    have h10i : (n : Int) < 10 := by omega
    have w1 : IntKind.u64.wrap (48 + (n : Int)) = 48 + (n : Int) := by simpa using wrap_u64 (n := 48 + n) (by omega)
    have w2 : IntKind.u8.wrap (48 + (n : Int)) = 48 + (n : Int) := by simpa using wrap_u8 (n := 48 + n) (by omega)
    have ht := toNat48 n
    rw [go_eq, hT, fmtU, if_pos h10]
    simp [go_sem, sf_r1_formatUint, h10i, w1, w2, ht, convC, bytesC, bytesP, byteP, -Bool.exists_bool]
  | succ k ih =>
    intro n h h2 hk τ
    by_cases h10 : n < 10
    · have h10i : (n : Int) < 10 := by omega
      have w1 : IntKind.u64.wrap (48 + (n : Int)) = 48 + (n : Int) := by simpa using wrap_u64 (n := 48 + n) (by omega)
      have w2 : IntKind.u8.wrap (48 + (n : Int)) = 48 + (n : Int) := by simpa using wrap_u8 (n := 48 + n) (by omega)
      have ht := toNat48 n
      rw [go_eq, hT, fmtU, if_pos h10]
      simp [go_sem, sf_r1_formatUint, h10i, w1, w2, ht, convC, bytesC, bytesP, byteP, -Bool.exists_bool]
    · have h10i : ¬ (n : Int) < 10 := by omega
      have hd : (n : Int).tdiv 10 = ((n / 10 : Nat) : Int) := rfl
      have hm : (n : Int).tmod 10 = ((n % 10 : Nat) : Int) := rfl
      have w0 := wrap_u64 (n := n / 10) (by omega)
      have w1 : IntKind.u64.wrap (48 + ((n % 10 : Nat) : Int)) = 48 + ((n % 10 : Nat) : Int) := by simpa using wrap_u64 (n := 48 + n % 10) (by omega)
      have w2 : IntKind.u8.wrap (48 + ((n % 10 : Nat) : Int)) = 48 + ((n % 10 : Nat) : Int) := by simpa using wrap_u8 (n := 48 + n % 10) (by omega)
      have ht := toNat48 (n % 10)
      have h10k : n / 10 < 10 ^ (k + 1) := by rw [Nat.div_lt_iff_lt_mul (by decide)]; rw [Nat.pow_succ] at h; omega
      have hc := ih (n / 10) h10k (by omega) (by omega)
      have hl := fmtU_len k (n / 10) h10k
      have hcat := catS (a := fmtU (n / 10)) (b := [UInt8.ofNat (48 + n % 10)]) (by simp; omega)
      have hcl : (fmtU (n / 10)).length + 1 ≤ 4611686018427387904 := by omega
      rw [go_eq, hT, fmtU, if_neg h10]
      generalize n / 10 = q at *
      generalize n % 10 = m at *
      simp [go_sem, sf_r1_formatUint, h10i, hd, hm, w0, w1, w2, ht, hc, hcl, convC, bytesC, bytesP, byteP, -Bool.exists_bool]
def textL (n : Int) : Str := if n < 0 then 45 :: fmtU (-n).toNat else fmtU n.toNat
theorem textL_len {n : Int} (h1 : -9223372036854775808 ≤ n) (h2 : n ≤ 9223372036854775807) : (textL n).length ≤ 21 := by
  unfold textL
  split
  · have := fmtU_len 19 (-n).toNat (by omega)
    simp; omega
  · have := fmtU_len 19 n.toNat (by omega)
    omega
theorem wrap_i64_neg {n : Int} (h1 : -9223372036854775808 ≤ n) (h2 : n ≤ 9223372036854775807) : IntKind.u64.wrap n = if n < 0 then n + 18446744073709551616 else n := by
  unfold IntKind.wrap
  simp only [IntKind.bits, IntKind.signed, Bool.false_and, Bool.false_eq_true, if_false]
  split
  · have : (n + 18446744073709551616) % 2 ^ 64 = n + 18446744073709551616 := Int.emod_eq_of_lt (by omega) (by omega)
    rw [← this, show (18446744073709551616 : Int) = 2 ^ 64 by rfl, Int.add_emod_right]
  · exact Int.emod_eq_of_lt (by omega) (by omega)
theorem textR_eq (hT : T F_r1_Text = some sf_r1_Text) (hU : T F_r1_formatUint = some sf_r1_formatUint) (n : Int) (h1 : -9223372036854775808 ≤ n) (h2 : n ≤ 9223372036854775807) (τ : St2) : go T F_r1_Text [.i n] τ = some (.s (textL n), τ) := by
  rw [go_eq, hT]
  unfold textL
  by_cases h : n < 0
  · obtain ⟨m, hm⟩ : ∃ m : Nat, (-n).toNat = m := ⟨_, rfl⟩
    obtain ⟨x1, e1⟩ : ∃ x1, x1 = n + 1 := ⟨_, rfl⟩
    obtain ⟨x2, e2⟩ : ∃ x2, x2 = 0 - x1 := ⟨_, rfl⟩
    have w1 : IntKind.i64.wrap (n + 1) = x1 := by rw [e1]; exact wrap_in (by omega) (by omega)
    have w2 : IntKind.i64.wrap (0 - x1) = x2 := by rw [e2]; exact wrap_in (by omega) (by omega)
    have w2' : IntKind.i64.wrap (-x1) = x2 := by rw [← Int.zero_sub]; exact w2
    have w3 : IntKind.u64.wrap x2 = x2 := by rw [wrap_i64_neg (by omega) (by omega), if_neg (by omega)]
    have w4 : IntKind.u64.wrap (x2 + 1) = (m : Int) := by
      rw [show x2 + 1 = (m : Int) by omega]
      exact wrap_u64 (by omega)
    have hc := fmtU_eq hU 19 m (by omega) (by omega) (by omega)
    have hl := fmtU_len 19 m (by omega)
    have hcl : 1 + (fmtU m).length ≤ 4611686018427387904 := by omega
    rw [if_pos h, hm]
    simp [go_sem, sf_r1_Text, h, w1, w2, w2', w3, w4, hc, hcl, convC, -Bool.exists_bool]
  · obtain ⟨m, rfl⟩ : ∃ m : Nat, n = m := ⟨n.toNat, by omega⟩
    have w3 := wrap_u64 (n := m) (by omega)
    have hc := fmtU_eq hU 19 m (by omega) (by omega) (by omega)
    rw [if_neg h, show ((m : Int)).toNat = m by omega]
    simp [go_sem, sf_r1_Text, h, w3, hc, convC, -Bool.exists_bool]
def opsL : List Str := [[43], [45], [42], [47], [37], [38], [124], [94], [60, 60], [62, 62, 62], [62, 62], [61, 61], [33, 61], [60], [60, 61]]
def opText (o : Int) : Str := opsL.getD (o - 4).toNat []
theorem opText_eq (hT : T F_r3_operatorText = some sf_r3_operatorText) (o : Int) (ho : isBinL o = true) (τ : St2) : go T F_r3_operatorText [.i o] τ = some (.s (opText o), τ) := by
  simp only [isBinL, Bool.and_eq_true, decide_eq_true_eq] at ho
  obtain ⟨m, hm, rfl⟩ : ∃ m : Nat, m < 15 ∧ o = 4 + (m : Int) := ⟨(o - 4).toNat, by omega, by omega⟩
  rw [go_eq, hT]
  have hw : IntKind.i64.wrap (4 + (m : Int) - 4) = (m : Int) := by rw [show 4 + (m : Int) - 4 = (m : Int) by omega]; exact wrap_in (by omega) (by omega)
  have hm' : m = 0 ∨ m = 1 ∨ m = 2 ∨ m = 3 ∨ m = 4 ∨ m = 5 ∨ m = 6 ∨ m = 7 ∨ m = 8 ∨ m = 9 ∨ m = 10 ∨ m = 11 ∨ m = 12 ∨ m = 13 ∨ m = 14 := by omega
  rcases hm' with rfl | rfl | rfl | rfl | rfl | rfl | rfl | rfl | rfl | rfl | rfl | rfl | rfl | rfl | rfl <;> simp [go_sem, sf_r3_operatorText, hw, opText, opsL, IntKind.wrap, IntKind.bits, IntKind.signed, -Bool.exists_bool]
theorem opText_len (o : Int) : (opText o).length ≤ 3 := by
  unfold opText
  have : ∀ i, (opsL.getD i []).length ≤ 3 := fun i => by
    by_cases h : i < 15
    · have : i = 0 ∨ i = 1 ∨ i = 2 ∨ i = 3 ∨ i = 4 ∨ i = 5 ∨ i = 6 ∨ i = 7 ∨ i = 8 ∨ i = 9 ∨ i = 10 ∨ i = 11 ∨ i = 12 ∨ i = 13 ∨ i = 14 := by omega
      rcases this with rfl | rfl | rfl | rfl | rfl | rfl | rfl | rfl | rfl | rfl | rfl | rfl | rfl | rfl | rfl <;> decide
    · have : opsL.length ≤ i := by simp [opsL]; omega
      simp [List.getD, List.getElem?_eq_none this]
  exact this _
end
def opdS (minus : Bool) (t : Int × Str) : Str := if t.1 = 4 ∨ t.1 = 5 ∨ (minus = true ∧ t.1 = 1) then [40] ++ t.2 ++ [41] else t.2
def t0 : Int × Str := (0, [])
def shapeF (k n : Int) (s : Str) (o : Int) (ts : List (Int × Str)) : Str :=
  if k = 1 then textL n
  else if k = 2 then s
  else if k = 3 then s ++ [91] ++ (ts.getD 0 t0).2 ++ [93]
  else if k = 5 then opdS false (ts.getD 0 t0) ++ [32, 63, 32] ++ opdS false (ts.getD 1 t0) ++ [32, 58, 32] ++ opdS false (ts.getD 2 t0)
  else if o = 20 then [45] ++ opdS true (ts.getD 0 t0)
  else if o = 21 then [126] ++ opdS false (ts.getD 0 t0)
  else opdS false (ts.getD 0 t0) ++ [32] ++ opText o ++ [32] ++ opdS false (ts.getD 1 t0)
mutual
def fmtE : LE → Str
  | .mk k n s o _ kids => shapeF k n s o (fmtEs kids)
def fmtEs : List LE → List (Int × Str)
  | [] => []
  | e :: es => (e.kind, fmtE e) :: fmtEs es
end
mutual
def rgE : LE → Bool
  | .mk _ n _ _ _ kids => (decide (-9223372036854775808 ≤ n) && decide (n ≤ 9223372036854775807)) && rgEs kids
def rgEs : List LE → Bool
  | [] => true
  | e :: es => rgE e && rgEs es
end
theorem opdS_len (m : Bool) (t : Int × Str) : (opdS m t).length ≤ t.2.length + 2 := by
  unfold opdS
  split
  · simp
  · omega
theorem wfEs_cons {e : LE} {l : List LE} (h : wfEs (e :: l) = true) : wfE e = true ∧ wfEs l = true := by simpa [wfEs] using h
theorem rgEs_cons {e : LE} {l : List LE} (h : rgEs (e :: l) = true) : rgE e = true ∧ rgEs l = true := by simpa [rgEs] using h
theorem fmtE_len : ∀ e : LE, wfE e = true → rgE e = true → (fmtE e).length ≤ 40 * szE e := LE.ind fun k n s o nl kids ih hw hr => by
  simp only [wfE, Bool.and_eq_true, shapeL] at hw
  simp only [rgE, Bool.and_eq_true, decide_eq_true_eq] at hr
  obtain ⟨hk, hs⟩ := hw
  obtain ⟨⟨n1, n2⟩, hrk⟩ := hr
  have ht := textL_len n1 n2
  simp only [fmtE, szE]
  have hot := opText_len o
  match kids, ih, hk, hrk, hs with
  | [], ih, hk, hrk, hs =>
    unfold shapeF
    simp only [List.length_nil] at hs
    repeat' split
    all_goals first
      | (simp; omega)
      | (exfalso; simp_all [isBinL]; done)
  | [a], ih, hk, hrk, hs =>
    have h1 := ih a (by simp) (wfEs_cons hk).1 (rgEs_cons hrk).1
    have o1 := opdS_len false (a.kind, fmtE a)
    have o2 := opdS_len true (a.kind, fmtE a)
    unfold shapeF
    simp only [fmtEs, szEs, List.getD_cons_zero] at *
    repeat' split
    all_goals first
      | (simp; omega)
      | (exfalso; simp_all [isBinL]; done)
  | [a, b], ih, hk, hrk, hs =>
    obtain ⟨wa, hk⟩ := wfEs_cons hk
    obtain ⟨ra, hrk⟩ := rgEs_cons hrk
    have h1 := ih a (by simp) wa ra
    have h2 := ih b (by simp) (wfEs_cons hk).1 (rgEs_cons hrk).1
    have o1 := opdS_len false (a.kind, fmtE a)
    have o2 := opdS_len false (b.kind, fmtE b)
    unfold shapeF
    simp only [fmtEs, szEs, List.getD_cons_zero, List.getD_cons_succ] at *
    repeat' split
    all_goals first
      | (simp; omega)
      | (exfalso; simp_all [isBinL]; done)
  | [a, b, c], ih, hk, hrk, hs =>
    obtain ⟨wa, hk⟩ := wfEs_cons hk
    obtain ⟨ra, hrk⟩ := rgEs_cons hrk
    obtain ⟨wb, hk⟩ := wfEs_cons hk
    obtain ⟨rb, hrk⟩ := rgEs_cons hrk
    have h1 := ih a (by simp) wa ra
    have h2 := ih b (by simp) wb rb
    have h3 := ih c (by simp) (wfEs_cons hk).1 (rgEs_cons hrk).1
    have o1 := opdS_len false (a.kind, fmtE a)
    have o2 := opdS_len false (b.kind, fmtE b)
    have o3 := opdS_len false (c.kind, fmtE c)
    unfold shapeF
    simp only [fmtEs, szEs, List.getD_cons_zero, List.getD_cons_succ] at *
    repeat' split
    all_goals first
      | (simp; omega)
      | (exfalso; simp_all [isBinL]; done)
  | a :: b :: c :: d :: l, ih, hk, hrk, hs =>
    exfalso
    have hlen : (a :: b :: c :: d :: l).length = l.length + 4 := rfl
    rw [hlen] at hs
    repeat' split at hs
    all_goals (simp at hs)
section
variable {T : FuncId → Option SF}
structure HFmt (T : FuncId → Option SF) : Prop where
  uint : T F_r1_formatUint = some sf_r1_formatUint
  text : T F_r1_Text = some sf_r1_Text
  opt : T F_r3_operatorText = some sf_r3_operatorText
  opd : T F_r3_formatOperand = some sf_r3_formatOperand
  fmt : T F_r3_formatExpr = some sf_r3_formatExpr
theorem opd_eq (H : HFmt T) (e : LE) (m : Bool) (hb : (fmtE e).length ≤ 1000000000000000) (he : ∀ τ, go T F_r3_formatExpr [.agg (e.row.map .p)] τ = some (.s (fmtE e), τ)) (τ : St2) : go T F_r3_formatOperand [.agg (e.row.map .p), .b m] τ = some (.s (opdS m (e.kind, fmtE e)), τ) := by
  rw [go_eq, H.opd]
  obtain ⟨k, n, s, o, nl, kids⟩ := e
  have hlv := fun L x => leave_pL τ L x
  simp only [LE.row, List.map] at he
  show _ = some (C.s (opdS m (k, fmtE (.mk k n s o nl kids))), τ)
  generalize fmtE (.mk k n s o nl kids) = t at he hb ⊢
  have f1 : 1 + t.length ≤ 4611686018427387904 := by omega
  have f2 : t.length + 1 + 1 ≤ 4611686018427387904 := by omega
  simp only [opdS]
  by_cases k4 : k = 4
  · subst k4
    simp [go_sem, sf_r3_formatOperand, LE.row, he, hlv, f1, f2, -Bool.exists_bool]
  · by_cases k5 : k = 5
    · subst k5
      simp [go_sem, sf_r3_formatOperand, LE.row, he, hlv, f1, f2, -Bool.exists_bool]
    · cases m with
      | false => simp [go_sem, sf_r3_formatOperand, LE.row, he, hlv, k4, k5, -Bool.exists_bool]
      | true =>
        by_cases k1 : k = 1
        · subst k1
          simp [go_sem, sf_r3_formatOperand, LE.row, he, hlv, f1, f2, -Bool.exists_bool]
        · simp [go_sem, sf_r3_formatOperand, LE.row, he, hlv, k1, k4, k5, -Bool.exists_bool]
end
end
end Go.Proofs.YtpkchglfgkkcbaaDoor.Vs
namespace Go.Proofs.YtpkchglfgkkcbaaDoor.Vs
open Go.Proofs.YtpkchglfgkkcbaaDoor.Ev
noncomputable section
attribute [local go_sem] catS eqlS neqS bodyS evS evL want chkV opV isEf neV efV env look put putO keep bi un1 v0 binC isSh binI wb next2 regS condS outS resS tmS nb nl blockS virts round trunc_same len_list len_nils len_ms len_str len_sl idx_list idx_ms idx_sl loadC one asN_nat faC cellsAt2 storeC cellsOf isCell_p isCell_ms isCell_ptr setAt buildC partsC fillC repC rowC toPs chunks at_len at_add set_len set_add at_c0 at_ck cleanT_get soil_clean pureAt okV okCell_p okCell_ms okCell_ptr nilChk callV ev2 fieldC unC pickC slcC slcP bnd obnd asN_lit asN_0 asN_1 asN_2 asN_mod asN_modl succ_ne succ_pos' leave3 leave_p undefC
set_option linter.unusedSimpArgs false
section
variable {T : FuncId → Option SF}
theorem wf_kids {k n : Int} {s : Str} {o : Int} {nl : Option Bool} {kids : List LE} (h : wfE (.mk k n s o nl kids) = true) : wfEs kids = true ∧ shapeL k n s o kids.length = true := by simpa [wfE] using h
set_option maxHeartbeats 1000000 in
theorem fmt_eq (H : HFmt T) : ∀ e : LE, wfE e = true → rgE e = true → szE e ≤ big → ∀ τ, go T F_r3_formatExpr [.agg (e.row.map .p)] τ = some (.s (fmtE e), τ) := LE.ind fun k n s o nl kids ih hw hr hs τ => by
  have hlen := fmtE_len (.mk k n s o nl kids) hw hr
  obtain ⟨hk, hsh⟩ := wf_kids hw
  simp only [rgE, Bool.and_eq_true, decide_eq_true_eq] at hr
  obtain ⟨⟨n1, n2⟩, hrk⟩ := hr
  have hbig : big = 1099511627776 := rfl
  have hot := opText_len o
  simp only [szE] at hs
  have hlv := fun L x => leave_pL τ L x
  have hkid : ∀ a, a ∈ kids → ∀ m τ, go T F_r3_formatOperand [.agg (a.row.map .p), .b m] τ = some (.s (opdS m (a.kind, fmtE a)), τ) ∧ (opdS m (a.kind, fmtE a)).length ≤ 100000000000000 := fun a ha m τ => by
    have h1 : wfE a = true := by
      have : ∀ l : List LE, wfEs l = true → a ∈ l → wfE a = true := fun l => by
        induction l with
        | nil => intro _ h; cases h
        | cons b l ih2 =>
          intro h hm
          obtain ⟨h1, h2⟩ := wfEs_cons h
          rcases List.mem_cons.1 hm with rfl | hm
          · exact h1
          · exact ih2 h2 hm
      exact this kids hk ha
    have h2 : rgE a = true := by
      have : ∀ l : List LE, rgEs l = true → a ∈ l → rgE a = true := fun l => by
        induction l with
        | nil => intro _ h; cases h
        | cons b l ih2 =>
          intro h hm
          obtain ⟨h1, h2⟩ := rgEs_cons h
          rcases List.mem_cons.1 hm with rfl | hm
          · exact h1
          · exact ih2 h2 hm
      exact this kids hrk ha
    have h3 := szEs_mem ha
    have h4 := fmtE_len a h1 h2
    have h5 := opdS_len m (a.kind, fmtE a)
    simp only at h5
    exact ⟨opd_eq H a m (by omega) (ih a ha h1 h2 (by omega)) τ, by omega⟩
  have hfm : ∀ a, a ∈ kids → ∀ τ, go T F_r3_formatExpr [.agg (a.row.map .p)] τ = some (.s (fmtE a), τ) ∧ (fmtE a).length ≤ 100000000000000 := fun a ha τ => by
    have h1 : wfE a = true := by rw [wfEs_all, List.all_eq_true] at hk; exact hk a ha
    have h2 : rgE a = true := by
      have : ∀ l : List LE, rgEs l = true → a ∈ l → rgE a = true := fun l => by
        induction l with
        | nil => intro _ h; cases h
        | cons b l ih2 =>
          intro h hm
          obtain ⟨h1, h2⟩ := rgEs_cons h
          rcases List.mem_cons.1 hm with rfl | hm
          · exact h1
          · exact ih2 h2 hm
      exact this kids hrk ha
    have h3 := szEs_mem ha
    have h4 := fmtE_len a h1 h2
    exact ⟨ih a ha h1 h2 (by omega) τ, by omega⟩
  rw [go_eq, H.fmt]
  simp only [fmtE]
  clear ih hlen hw
  unfold shapeL at hsh
  unfold shapeF
  by_cases k1 : k = 1
  · subst k1
    have ht := fun τ => textR_eq H.text H.uint n n1 n2 τ
    simp (disch := first | omega | (simp only [List.length_append, List.length_cons, List.length_nil]; omega)) [go_sem, sf_r3_formatExpr, LE.row, ht, hlv, -Bool.exists_bool]
  by_cases k2 : k = 2
  · subst k2
    simp (disch := first | omega | (simp only [List.length_append, List.length_cons, List.length_nil]; omega)) [go_sem, sf_r3_formatExpr, LE.row, hlv, -Bool.exists_bool]
  by_cases k3 : k = 3
  · subst k3
    simp at hsh
    obtain ⟨a, rfl⟩ : ∃ a, kids = [a] := List.length_eq_one_iff.1 hsh.1
    have f1 := fun τ => (hfm a (by simp) τ).1
    have f2 := (hfm a (by simp) τ).2
    obtain ⟨ka, na, sa, oa, va, ha⟩ := a.row5
    simp only [ha, List.map] at f1
    simp (disch := first | omega | (simp only [List.length_append, List.length_cons, List.length_nil]; omega)) [go_sem, sf_r3_formatExpr, LE.row, rowsE, ha, f1, hlv, fmtEs, -Bool.exists_bool]
  by_cases k5 : k = 5
  · subst k5
    simp at hsh
    obtain ⟨a, b, c, rfl⟩ : ∃ a b c, kids = [a, b, c] := by
      match kids, hsh.1 with
      | [a, b, c], _ => exact ⟨a, b, c, rfl⟩
    have f1 := fun τ => (hkid a (by simp) false τ).1
    have f2 := (hkid a (by simp) false τ).2
    have g1 := fun τ => (hkid b (by simp) false τ).1
    have g2 := (hkid b (by simp) false τ).2
    have i1 := fun τ => (hkid c (by simp) false τ).1
    have i2 := (hkid c (by simp) false τ).2
    obtain ⟨ka, na, sa, oa, va, ha⟩ := a.row5
    obtain ⟨kb, nb', sb, ob, vb, hb⟩ := b.row5
    obtain ⟨kc, nc, sc, oc, vc, hc⟩ := c.row5
    simp only [ha, hb, hc, List.map] at f1 g1 i1
    simp (disch := first | omega | (simp only [List.length_append, List.length_cons, List.length_nil]; omega)) [go_sem, sf_r3_formatExpr, LE.row, rowsE, ha, hb, hc, f1, g1, i1, hlv, fmtEs, -Bool.exists_bool]
  have k4 : k = 4 := by
    by_cases k4 : k = 4
    · exact k4
    · simp [k1, k2, k3, k4, k5] at hsh
  subst k4
  simp at hsh
  by_cases o20 : o = 20
  · subst o20
    obtain ⟨a, rfl⟩ : ∃ a, kids = [a] := by
      rcases hsh.2.2 with h | h
      · simp [isBinL] at h
      · exact List.length_eq_one_iff.1 h.1
    have f1 := fun τ => (hkid a (by simp) true τ).1
    have f2 := (hkid a (by simp) true τ).2
    obtain ⟨ka, na, sa, oa, va, ha⟩ := a.row5
    simp only [ha, List.map] at f1
    simp (disch := first | omega | (simp only [List.length_append, List.length_cons, List.length_nil]; omega)) [go_sem, sf_r3_formatExpr, LE.row, rowsE, ha, f1, hlv, fmtEs, -Bool.exists_bool]
  by_cases o21 : o = 21
  · subst o21
    obtain ⟨a, rfl⟩ : ∃ a, kids = [a] := by
      rcases hsh.2.2 with h | h
      · simp [isBinL] at h
      · exact List.length_eq_one_iff.1 h.1
    have f1 := fun τ => (hkid a (by simp) false τ).1
    have f2 := (hkid a (by simp) false τ).2
    obtain ⟨ka, na, sa, oa, va, ha⟩ := a.row5
    simp only [ha, List.map] at f1
    simp (disch := first | omega | (simp only [List.length_append, List.length_cons, List.length_nil]; omega)) [go_sem, sf_r3_formatExpr, LE.row, rowsE, ha, f1, hlv, fmtEs, -Bool.exists_bool]
  have hbin : kids.length = 2 ∧ isBinL o = true := by
    rcases hsh.2.2 with h | h
    · exact h
    · rcases h.2 with h | h
      · exact absurd h o20
      · exact absurd h o21
  obtain ⟨a, b, rfl⟩ : ∃ a b, kids = [a, b] := by
    match kids, hbin.1 with
    | [a, b], _ => exact ⟨a, b, rfl⟩
  have f1 := fun τ => (hkid a (by simp) false τ).1
  have f2 := (hkid a (by simp) false τ).2
  have g1 := fun τ => (hkid b (by simp) false τ).1
  have g2 := (hkid b (by simp) false τ).2
  have j1 := fun τ => opText_eq H.opt o hbin.2 τ
  obtain ⟨ka, na, sa, oa, va, ha⟩ := a.row5
  obtain ⟨kb, nb', sb, ob, vb, hb⟩ := b.row5
  simp only [ha, hb, List.map] at f1 g1
  simp (disch := first | omega | (simp only [List.length_append, List.length_cons, List.length_nil]; omega)) [go_sem, sf_r3_formatExpr, LE.row, rowsE, ha, hb, f1, g1, j1, hlv, fmtEs, o20, o21, -Bool.exists_bool]
end
end
end Go.Proofs.YtpkchglfgkkcbaaDoor.Vs
namespace Go.Proofs.YtpkchglfgkkcbaaDoor.Vs
open Go.Proofs.YtpkchglfgkkcbaaDoor.Ev
noncomputable section
attribute [local go_sem] bodyS evS evL want chkV opV isEf neV efV env look put putO keep bi un1 v0 binC isSh binI wb next2 regS condS outS resS tmS nb nl blockS virts round trunc_same len_list len_nils len_ms len_str len_sl idx_list idx_ms idx_sl asN_nat faC cellsAt2 storeC cellsOf isCell_p isCell_ms isCell_ptr setAt buildC partsC fillC repC rowC toPs chunks at_len at_add set_len set_add at_c0 at_ck cleanT_get soil_clean pureAt okV okCell_p okCell_ms okCell_ptr nilChk callV ev2 fieldC unC pickC slcC slcP bnd obnd asN_lit asN_0 asN_1 asN_2 asN_mod asN_modl succ_ne succ_pos' leave3 leave_p undefC
set_option linter.unusedSimpArgs false
def joinA : Str → Nat → List Str → Str
  | a, _, [] => a
  | a, i, x :: r => joinA ((if 0 < i then a ++ [44, 32] else a) ++ x) (i + 1) r
def joinL (xs : List Str) : Str := joinA [] 0 xs
def sumL : List Str → Nat
  | [] => 0
  | x :: r => x.length + 2 + sumL r
theorem joinA_len : ∀ (xs : List Str) (a : Str) (i : Nat), (joinA a i xs).length ≤ a.length + sumL xs
  | [], a, i => by simp [joinA, sumL]
  | x :: r, a, i => by
    have := joinA_len r ((if 0 < i then a ++ [44, 32] else a) ++ x) (i + 1)
    simp only [joinA, sumL]
    split at this <;> split <;> simp_all <;> omega
section
variable {T : FuncId → Option SF}
theorem join_loop (call : Call2) {τ : St2} {c : C} {xs : List Str} (hv : SV τ c xs) (hn : xs.length ≤ 1000000) : ∀ (rest done : List Str) (a : Str), done ++ rest = xs → a.length + sumL rest ≤ 1000000000000000 →
    Loop (round [0, 3, 4] (evS ⟨fun _ => false, false⟩ call lb_r3_join_0)) [(0, c), (3, .s a), (4, .i (done.length : Nat))] τ = some (.exit 0, [(0, c), (3, .s (joinA a done.length rest)), (4, .i (xs.length : Nat)), (8, .b false)], τ) := by
  have hlen := hv.len
  have hbig : 1000001 ≤ big := by decide
  intro rest
  induction rest with
  | nil =>
    intro done a hd hb
    obtain rfl : done = xs := by simpa using hd
    refine Loop_exit ?_
    simp [go_sem, loadC, one, binS, lb_r3_join_0, hlen, joinA, -Bool.exists_bool]
  | cons x rest ih =>
    intro done a hd hb
    have hlt : done.length < xs.length := by rw [← hd]; simp
    have hx : xs[done.length]? = some x := by rw [← hd]; exact at_mid done rest x
    obtain ⟨q, h1, h2⟩ := hv.at_ hx
    have h2 := h2 []
    rw [List.append_nil] at h2
    have hw := wrap_b (n := done.length + 1) (by omega)
    simp only [Int.natCast_add, Int.natCast_one] at hw
    simp only [sumL] at hb
    rw [Loop_step (tm' := [(0, c), (3, .s ((if 0 < done.length then a ++ [44, 32] else a) ++ x)), (4, .i ((done.length + 1 : Nat) : Int))]) (τ' := τ)]
    · have := ih (done ++ [x]) ((if 0 < done.length then a ++ [44, 32] else a) ++ x) (by simpa using hd) (by split <;> simp <;> omega)
      simp only [List.length_append, List.length_singleton] at this
      rw [this]
      rfl
    · by_cases q0 : 0 < done.length
      · have q0i : 0 < (done.length : Int) := by omega
        simp (disch := first | omega | (simp only [List.length_append, List.length_cons, List.length_nil]; omega)) [go_sem, catS, eqlS, neqS, lb_r3_join_0, hlen, hlt, h1, h2, hw, q0, q0i, -Bool.exists_bool]
      · have q0i : ¬ 0 < (done.length : Int) := by omega
        have q0n : done = [] := by cases done with
          | nil => rfl
          | cons a l => simp at q0
        subst q0n
        simp only [List.length_nil] at *
        have hw1 : IntKind.i64.wrap 1 = 1 := by decide
        simp (disch := first | omega | (simp only [List.length_append, List.length_cons, List.length_nil]; omega)) [go_sem, catS, eqlS, neqS, lb_r3_join_0, hlen, hlt, h1, h2, hw1, -Bool.exists_bool]
theorem join_eq (hT : T F_r3_join = some sf_r3_join) {τ : St2} {c : C} {xs : List Str} (hv : SV τ c xs) (hn : xs.length ≤ 1000000) (hb : sumL xs ≤ 1000000000000000) : go T F_r3_join [c] τ = some (.s (joinL xs), τ) := by
  have h := join_loop (go T) hv hn xs [] [] rfl (by simpa using hb)
  simp only [List.length_nil, Int.ofNat_zero] at h
  have hlv := fun L x => leave_pL τ L x
  rw [go_eq, hT]
  simp (disch := first | omega | (simp only [List.length_append, List.length_cons, List.length_nil]; omega)) [go_sem, catS, eqlS, neqS, loadC, one, sf_r3_join, h, hlv, joinL, -Bool.exists_bool]
end
mutual
def fmtSA : LS → Str → Str → Str
  | .mk k s t n a v _ as _ th _ el, acc, ind =>
    if k = 1 then acc ++ ind ++ s ++ [32, 61, 32] ++ fmtE v ++ [59, 10]
    else if k = 2 then acc ++ ind ++ s ++ [91] ++ fmtE a ++ [93, 32, 61, 32] ++ fmtE v ++ [59, 10]
    else if k = 5 then acc ++ ind ++ [111, 117, 116, 32] ++ fmtE v ++ [59, 10]
    else if k = 7 then acc ++ ind ++ [116, 114, 97, 112, 32] ++ textL n ++ [59, 10]
    else if k = 4 then acc ++ ind ++ [119, 104, 105, 108, 101, 32, 40] ++ fmtE v ++ [41, 32, 123, 10] ++ fmtSsA th [] (ind ++ [32, 32]) ++ ind ++ [125, 10]
    else if k = 3 then acc ++ ind ++ [105, 102, 32, 40] ++ fmtE v ++ [41, 32, 123, 10] ++ fmtSsA th [] (ind ++ [32, 32]) ++ ind ++ [125] ++ (if el.length = 0 then [] else [32, 101, 108, 115, 101, 32, 123, 10] ++ fmtSsA el [] (ind ++ [32, 32]) ++ ind ++ [125]) ++ [10]
    else acc ++ ind ++ s ++ [32, 61, 32] ++ t ++ [40] ++ joinL (as.map fmtE) ++ [41, 59, 10]
def fmtSsA : List LS → Str → Str → Str
  | [], acc, _ => acc
  | s :: r, acc, ind => fmtSsA r (fmtSA s acc ind) ind
end
mutual
def rgS : LS → Bool
  | .mk _ _ _ _ a v _ as _ th _ el => (rgE a && (rgE v && rgEs as)) && (rgSs th && rgSs el)
def rgSs : List LS → Bool
  | [] => true
  | s :: r => rgS s && rgSs r
end
theorem rgS_eq (s : LS) : rgS s = ((rgE s.at_ && (rgE s.val && rgEs s.args)) && (rgSs s.th && rgSs s.el)) := by cases s; rfl
theorem fmtSA_eq (s : LS) (acc ind : Str) : fmtSA s acc ind =
    if s.kind = 1 then acc ++ ind ++ s.name ++ [32, 61, 32] ++ fmtE s.val ++ [59, 10]
    else if s.kind = 2 then acc ++ ind ++ s.name ++ [91] ++ fmtE s.at_ ++ [93, 32, 61, 32] ++ fmtE s.val ++ [59, 10]
    else if s.kind = 5 then acc ++ ind ++ [111, 117, 116, 32] ++ fmtE s.val ++ [59, 10]
    else if s.kind = 7 then acc ++ ind ++ [116, 114, 97, 112, 32] ++ textL s.n ++ [59, 10]
    else if s.kind = 4 then acc ++ ind ++ [119, 104, 105, 108, 101, 32, 40] ++ fmtE s.val ++ [41, 32, 123, 10] ++ fmtSsA s.th [] (ind ++ [32, 32]) ++ ind ++ [125, 10]
    else if s.kind = 3 then acc ++ ind ++ [105, 102, 32, 40] ++ fmtE s.val ++ [41, 32, 123, 10] ++ fmtSsA s.th [] (ind ++ [32, 32]) ++ ind ++ [125] ++ (if s.el.length = 0 then [] else [32, 101, 108, 115, 101, 32, 123, 10] ++ fmtSsA s.el [] (ind ++ [32, 32]) ++ ind ++ [125]) ++ [10]
    else acc ++ ind ++ s.name ++ [32, 61, 32] ++ s.to ++ [40] ++ joinL (s.args.map fmtE) ++ [41, 59, 10] := by cases s; simp only [fmtSA]; rfl
theorem wfSs_cons {e : LS} {l : List LS} (h : wfSs (e :: l) = true) : wfS e = true ∧ wfSs l = true := by simpa [wfSs] using h
theorem rgSs_cons {e : LS} {l : List LS} (h : rgSs (e :: l) = true) : rgS e = true ∧ rgSs l = true := by simpa [rgSs] using h
theorem sumL_fmt : ∀ l : List LE, wfEs l = true → rgEs l = true → sumL (l.map fmtE) ≤ 50 * szEs l
  | [], _, _ => by simp [sumL]
  | e :: l, h, r => by
    obtain ⟨h1, h2⟩ := wfEs_cons h
    obtain ⟨r1, r2⟩ := rgEs_cons r
    have i1 := fmtE_len e h1 r1
    have i2 := sumL_fmt l h2 r2
    have i3 := szE_pos e
    simp only [List.map_cons, sumL, szEs]
    omega
theorem wf_kindS {s : LS} (h : wfS s = true) : wfEs s.args = true ∧ (s.kind = 1 ∨ s.kind = 3 ∨ s.kind = 4 ∨ s.kind = 5 → wfE s.val = true) ∧ (s.kind = 2 → wfE s.at_ = true ∧ wfE s.val = true) ∧ (s.kind = 7 → 0 ≤ s.n ∧ s.n ≤ 1000000) ∧ (s.kind = 1 ∨ s.kind = 2 ∨ s.kind = 3 ∨ s.kind = 4 ∨ s.kind = 5 ∨ s.kind = 6 ∨ s.kind = 7) ∧ wfSs s.th = true ∧ wfSs s.el = true := by
  rw [wfS_eq, wfS1] at h
  simp only [Bool.and_eq_true] at h
  obtain ⟨⟨h1, h2⟩, h3, h4⟩ := h
  rw [← wfEs_all] at h1
  unfold shapeS at h2
  refine ⟨h1, ?_, ?_, ?_, ?_, h3, h4⟩
  · rintro (k | k | k | k) <;> simp [k] at h2 <;> simp [h2]
  · intro k; simp [k] at h2; simp [h2]
  · intro k; simp [k] at h2; omega
  · repeat' split at h2
    all_goals first
      | omega
      | (exact absurd h2 (by simp))
theorem fmtSsA_len : ∀ l : List LS, ∀ (I : Nat) (acc ind : Str), wfSs l = true → rgSs l = true → ind.length + 2 * szSs l ≤ I → (fmtSsA l acc ind).length ≤ acc.length + szSs l * (3 * I + 100) := LSs.ind fun l ih => by
  intro I
  generalize hK : 3 * I + 100 = K
  have one : ∀ s, s ∈ l → ∀ (acc ind : Str), wfS s = true → rgS s = true → ind.length + 2 * szS s ≤ I → (fmtSA s acc ind).length ≤ acc.length + szS s * K := fun s hm acc ind hw hr hi => by
    obtain ⟨w1, w2, w3, w4, w5, w6, w7⟩ := wf_kindS hw
    rw [rgS_eq] at hr
    simp only [Bool.and_eq_true] at hr
    obtain ⟨⟨r1, r2, r3⟩, r4, r5⟩ := hr
    have hs := szS_eq s
    have i1 := (ih s hm).1 I [] (ind ++ [32, 32]) w6 r4 (by simp; omega)
    have i2 := (ih s hm).2 I [] (ind ++ [32, 32]) w7 r5 (by simp; omega)
    rw [hK] at i1 i2
    have e : szS s * K = K + s.name.length * K + s.to.length * K + szE s.at_ * K + szE s.val * K + szEs s.args * K + szSs s.th * K + szSs s.el * K := by
      rw [hs]; simp only [Nat.add_mul, Nat.one_mul]
    have m1 : s.name.length ≤ s.name.length * K := Nat.le_mul_of_pos_right _ (by omega)
    have m2 : s.to.length ≤ s.to.length * K := Nat.le_mul_of_pos_right _ (by omega)
    have m3 : szE s.at_ * 100 ≤ szE s.at_ * K := Nat.mul_le_mul_left _ (by omega)
    have m4 : szE s.val * 100 ≤ szE s.val * K := Nat.mul_le_mul_left _ (by omega)
    have m5 : szEs s.args * 100 ≤ szEs s.args * K := Nat.mul_le_mul_left _ (by omega)
    have n1 := joinA_len (s.args.map fmtE) [] 0
    have n2 := sumL_fmt s.args w1 r3
    have n3 : wfE s.val = true → (fmtE s.val).length ≤ 40 * szE s.val := fun h => fmtE_len _ h r2
    have n4 : wfE s.at_ = true → (fmtE s.at_).length ≤ 40 * szE s.at_ := fun h => fmtE_len _ h r1
    have n5 : s.kind = 7 → (textL s.n).length ≤ 21 := fun h => textL_len (by have := w4 h; omega) (by have := w4 h; omega)
    simp only [List.length_nil, Nat.zero_add] at i1 i2 n1
    rw [fmtSA_eq, e]
    by_cases k1 : s.kind = 1
    · have := n3 (w2 (by omega))
      rw [if_pos k1]; simp; omega
    rw [if_neg k1]
    by_cases k2 : s.kind = 2
    · have := n3 (w3 k2).2
      have := n4 (w3 k2).1
      rw [if_pos k2]; simp; omega
    rw [if_neg k2]
    by_cases k5 : s.kind = 5
    · have := n3 (w2 (by omega))
      rw [if_pos k5]; simp; omega
    rw [if_neg k5]
    by_cases k7 : s.kind = 7
    · have := n5 k7
      rw [if_pos k7]; simp; omega
    rw [if_neg k7]
    by_cases k4 : s.kind = 4
    · have := n3 (w2 (by omega))
      rw [if_pos k4]; simp; omega
    rw [if_neg k4]
    by_cases k3 : s.kind = 3
    · have := n3 (w2 (by omega))
      rw [if_pos k3]
      by_cases q : s.el.length = 0
      · rw [if_pos q]; simp; omega
      · rw [if_neg q]; simp; omega
    rw [if_neg k3]
    unfold joinL
    simp; omega
  clear ih
  induction l with
  | nil => intro acc ind _ _ _; simp [fmtSsA]
  | cons s r ih2 =>
    intro acc ind hw hr hi
    obtain ⟨w1, w2⟩ := wfSs_cons hw
    obtain ⟨r1, r2⟩ := rgSs_cons hr
    simp only [szSs] at hi
    have h1 := one s (by simp) acc ind w1 r1 (by omega)
    have h2 := ih2 (fun s hm => one s (List.mem_cons_of_mem _ hm)) (fmtSA s acc ind) ind w2 r2 (by omega)
    simp only [fmtSsA, szSs, Nat.add_mul]
    omega
end
end Go.Proofs.YtpkchglfgkkcbaaDoor.Vs
namespace Go.Proofs.YtpkchglfgkkcbaaDoor.Vs
open Go.Proofs.YtpkchglfgkkcbaaDoor.Ev
noncomputable section
attribute [local go_sem] bodyS evS evL want chkV opV isEf neV efV env look put putO keep bi un1 v0 binC isSh binI wb next2 regS condS outS resS tmS nb nl blockS virts round trunc_same len_list len_nils len_ms len_str len_sl idx_list idx_ms idx_sl loadC one asN_nat faC cellsAt2 storeC cellsOf isCell_p isCell_ms isCell_ptr setAt buildC partsC fillC repC rowC toPs chunks at_len at_add set_len set_add at_c0 at_ck cleanT_get soil_clean pureAt okV okCell_p okCell_ms okCell_ptr nilChk callV ev2 fieldC unC pickC slcC slcP bnd obnd asN_lit asN_0 asN_1 asN_2 asN_mod asN_modl succ_ne succ_pos' leave3 leave_p undefC
set_option linter.unusedSimpArgs false
theorem app_acc1' {τ : St2} {l : Nat} {xs : List Str} (h : τ[l]? = some (acc 1 (rowsN xs))) (x : Str) (hn : xs.length ≤ 999999) : appC τ 1 (accV l 1 (rowsN xs)) (.p (.list true 1 [[.str x]])) = some (accV l 1 (rowsN (xs ++ [x])), τ.set l (acc 1 (rowsN (xs ++ [x])))) := by
  have hl : (rowsN xs).length = xs.length := by simp [rowsN]
  have := app_acc (τ := τ) (l := l) (es := 1) (rows := rowsN xs) (new := [[.str x]]) (x := true) h (rowsN_one xs) (by simp) (by rw [hl]; simp; omega) (by simp)
  rw [this]
  simp [rowsN]
section
variable {T : FuncId → Option SF}
theorem fmtA_loop (call : Call2) (s : LS) (τ : St2) (c0 c1 c5 : C) (i6 : Int) (hsz : s.args.length ≤ 900000) (r0 : refsB (τ.length + 2) c0 = true) (r1 : refsB (τ.length + 2) c1 = true) (r5 : refsB (τ.length + 2) c5 = true) (hk : ∀ k, k ∈ s.args → ∀ τ, call F_r3_formatExpr [.agg (k.row.map .p)] τ = some (.s (fmtE k), τ)) : ∀ (rest done : List LE), done ++ rest = s.args →
    Loop (round [0, 1, 5, 6, 7, 8, 9] (evS ⟨fun _ => false, false⟩ call lb_r3_formatStmts_0)) [(0, c0), (1, c1), (5, c5), (6, .i i6), (7, .ptr τ.length 17 0), (8, accV (τ.length + 1) 1 (rowsN (done.map fmtE))), (9, .i (done.length : Nat))] (τ ++ [SB s, acc 1 (rowsN (done.map fmtE))]) = some (.exit 3, [(0, c0), (1, c1), (5, c5), (6, .i i6), (7, .ptr τ.length 17 0), (8, accV (τ.length + 1) 1 (rowsN (s.args.map fmtE))), (9, .i (s.args.length : Nat)), (29, .b false)], τ ++ [SB s, acc 1 (rowsN (s.args.map fmtE))]) := by
  have hbig : 1000001 ≤ big := by decide
  have hla := rowsE_lengths s.args
  obtain ⟨ka, na, sa, oa, va, kv, nv, sv, ov, vv, ha', hv', hr⟩ := s.row17
  intro rest
  induction rest with
  | nil =>
    intro done hd
    obtain rfl : done = s.args := by simpa using hd
    refine Loop_exit ?_
    simp only [SB, hr, List.map]
    simp (disch := first | omega | (simp only [List.length_append, List.length_cons, List.length_nil]; omega)) [go_sem, catS, eqlS, neqS, lb_r3_formatStmts_0, hla, -Bool.exists_bool]
  | cons a rest ih =>
    intro done hd
    have hlt : done.length < s.args.length := by rw [← hd]; simp
    have hat : (rowsE s.args)[done.length]? = some a.row := by rw [← hd]; exact rowsE_at done rest a
    have h1 := hk a (by rw [← hd]; simp)
    have hw := wrap_b (n := done.length + 1) (by omega)
    simp only [Int.natCast_add, Int.natCast_one] at hw
    have happ : ∀ B : B2, appC (τ ++ [B, acc 1 (rowsN (done.map fmtE))]) 1 (accV (τ.length + 1) 1 (rowsN (done.map fmtE))) (.p (.list true 1 [[.str (fmtE a)]])) = some (accV (τ.length + 1) 1 (rowsN ((done ++ [a]).map fmtE)), τ ++ [B, acc 1 (rowsN ((done ++ [a]).map fmtE))]) := fun B => by
      rw [app_acc1' (by rw [at_add]; rfl) _ (by simp; omega), set_add]
      simp
    have htr : ∀ (tm : Tm) (B : B2) xs ys, tmB (τ.length + 2) tm = true → trunc tm (τ ++ [B, acc 1 xs]) (τ ++ [B, acc 1 ys]) = τ ++ [B, acc 1 ys] := fun tm B xs ys h => by
      rw [trunc_app (L0 := [B, acc 1 xs]) h (by simp) (fun j hj => ?_)]
      · rfl
      · match j, hj with
        | 0, _ => exact .inl rfl
        | 1, _ => exact .inr fun T hT => by obtain rfl := Option.some.inj hT; exact refs_p _ _
    have hrf : ∀ (k l : Nat) (rows : List (List PV)), refsB k (accV l 1 rows) = decide (l + 1 ≤ k) := fun k l rows => nl _ _
    have ih1 := ih (done ++ [a]) (by simpa using hd)
    simp only [List.map_append, List.map_cons, List.map_nil, List.length_append, List.length_singleton] at ih1 happ
    obtain ⟨ke, ne, se, oe, ve, he⟩ := a.row5
    simp only [he, List.map] at h1 hat
    have hat2 := at2 hat
    simp only [SB, hr, List.map] at ih1 ⊢
    rw [Loop_step (tm' := [(0, c0), (1, c1), (5, c5), (6, .i i6), (7, .ptr τ.length 17 0), (8, accV (τ.length + 1) 1 (rowsN (done.map fmtE ++ [fmtE a]))), (9, .i ((done.length + 1 : Nat) : Int))]) (τ' := τ ++ [⟨[.p (.int .i64 s.kind), .p (.str s.name), .p (.str s.to), .p (.int .i64 s.n), .p (.int .i64 ka), .p (.int .i64 na), .p (.str sa), .p (.int .i64 oa), .p va, .p (.int .i64 kv), .p (.int .i64 nv), .p (.str sv), .p (.int .i64 ov), .p vv, .p (slP s.anl 5 (rowsE s.args)), .p (slP s.tnl 17 (rowsS s.th)), .p (slP s.enl 17 (rowsS s.el))], .live, 17, true⟩, acc 1 (rowsN (done.map fmtE ++ [fmtE a]))])]
    · exact ih1
    · simp [go_sem, binS, lb_r3_formatStmts_0, hla, hlt, hat, hat2, h1, happ, hw, htr, hrf, tmB, refsB, r0, r1, r5, -Bool.exists_bool]
end
end
end Go.Proofs.YtpkchglfgkkcbaaDoor.Vs
namespace Go.Proofs.YtpkchglfgkkcbaaDoor.Vs
open Go.Proofs.YtpkchglfgkkcbaaDoor.Ev
noncomputable section
attribute [local go_sem] catS eqlS neqS bodyS evS evL want chkV opV isEf neV efV env look put putO keep bi un1 v0 binC isSh binI wb next2 regS condS outS resS tmS nb nl blockS virts round trunc_same len_list len_nils len_ms len_str len_sl idx_list idx_ms idx_sl loadC one asN_nat faC cellsAt2 storeC cellsOf isCell_p isCell_ms isCell_ptr setAt buildC partsC fillC repC rowC toPs chunks at_len at_add set_len set_add at_c0 at_ck cleanT_get soil_clean pureAt okV okCell_p okCell_ms okCell_ptr nilChk callV ev2 fieldC unC pickC slcC slcP bnd obnd asN_lit asN_0 asN_1 asN_2 asN_mod asN_modl succ_ne succ_pos' leave3 leave_p undefC
set_option linter.unusedSimpArgs false
theorem SV.clean {τ : St2} {c : C} {xs : List Str} (h : SV τ c xs) : SV (cleanT τ) c xs := by
  have key : ∀ {l : Nat} {B : B2}, τ[l]? = some B → (cleanT τ)[l]? = some { B with dirty := false } := fun {l B} h => by simp [cleanT, h]
  cases h with
  | pure nl xs => exact .pure nl xs
  | own h => exact .own (d := false) (key h)
  | virt h => exact .virt (key h)
section
variable {T : FuncId → Option SF}
set_option maxHeartbeats 2000000 in
theorem fmtS_round (H : HFmt T) (hj : T F_r3_join = some sf_r3_join) (ind : Str) (nl : Option Bool) (l : List LS) (τ : St2) (s : LS) (i : Nat) (out : Str) (hi : i < l.length) (hl0 : l.length ≤ 900000) (hat : (rowsS l)[i]? = some s.row) (ho : out.length ≤ 100000000000000) (hind : ind.length ≤ 100000000000000)
    (hw0 : wfS s = true) (hr0 : rgS s = true) (hz : szS s ≤ 900000)
    (ht1 : ∀ τ, go T F_r3_formatStmts [.p (slP s.tnl 17 (rowsS s.th)), .s (ind ++ [32, 32])] τ = some (.s (fmtSsA s.th [] (ind ++ [32, 32])), τ)) (ht2 : (fmtSsA s.th [] (ind ++ [32, 32])).length ≤ 100000000000000)
    (he1 : ∀ τ, go T F_r3_formatStmts [.p (slP s.enl 17 (rowsS s.el)), .s (ind ++ [32, 32])] τ = some (.s (fmtSsA s.el [] (ind ++ [32, 32])), τ)) (he2 : (fmtSsA s.el [] (ind ++ [32, 32])).length ≤ 100000000000000) :
    round [0, 1, 5, 6] (evS ⟨fun _ => false, false⟩ (go T) lb_r3_formatStmts_1) [(0, .p (slP nl 17 (rowsS l))), (1, .s ind), (5, .s out), (6, .i (i : Nat))] τ = some (.normal, [(0, .p (slP nl 17 (rowsS l))), (1, .s ind), (5, .s (fmtSA s out ind)), (6, .i ((i + 1 : Nat) : Int))], τ) := by
  have hbig : big = 1099511627776 := rfl
  have hl := rowsS_lengths l
  have hs1 := szS_eq s
  obtain ⟨w1, w2, w3, w4, w5, w6, w7⟩ := wf_kindS hw0
  rw [rgS_eq] at hr0
  simp only [Bool.and_eq_true] at hr0
  obtain ⟨⟨r1, r2, r3⟩, r4, r5⟩ := hr0
  have hv : wfE s.val = true → ∀ τ, go T F_r3_formatExpr [.agg (s.val.row.map .p)] τ = some (.s (fmtE s.val), τ) ∧ (fmtE s.val).length ≤ 100000000000000 := fun h τ => ⟨fmt_eq H _ h r2 (by omega) τ, by have := fmtE_len _ h r2; omega⟩
  have ha : wfE s.at_ = true → ∀ τ, go T F_r3_formatExpr [.agg (s.at_.row.map .p)] τ = some (.s (fmtE s.at_), τ) ∧ (fmtE s.at_).length ≤ 100000000000000 := fun h τ => ⟨fmt_eq H _ h r1 (by omega) τ, by have := fmtE_len _ h r1; omega⟩
  have hag : ∀ k, k ∈ s.args → ∀ τ, go T F_r3_formatExpr [.agg (k.row.map .p)] τ = some (.s (fmtE k), τ) := fun k hk τ => by
    have h1 : wfE k = true := by rw [wfEs_all, List.all_eq_true] at w1; exact w1 k hk
    have h2 : rgE k = true := by
      have : ∀ l : List LE, rgEs l = true → k ∈ l → rgE k = true := fun l => by
        induction l with
        | nil => intro _ h; cases h
        | cons b l ih2 =>
          intro h hm
          obtain ⟨h1, h2⟩ := rgEs_cons h
          rcases List.mem_cons.1 hm with rfl | hm
          · exact h1
          · exact ih2 h2 hm
      exact this _ r3 hk
    have h3 := szEs_mem hk
    exact fmt_eq H _ h1 h2 (by omega) τ
  have n1 := joinA_len (s.args.map fmtE) [] 0
  have n2 := sumL_fmt s.args w1 r3
  have n3 := szEs_len s.args
  have nJ : (joinL (s.args.map fmtE)).length ≤ 100000000000000 := by unfold joinL; simp only [List.length_nil] at n1; omega
  have hin : s.name.length ≤ 900000 := by omega
  have hto : s.to.length ≤ 900000 := by omega
  have hw := wrap_b (n := i + 1) (by omega)
  simp only [Int.natCast_add, Int.natCast_one] at hw
  have htr : ∀ (tm : Tm) (L : St2), tmB τ.length tm = true → trunc tm τ (τ ++ L) = τ := fun tm L h => trunc0 h
  have hrow := s.row17
  have inner : s.kind = 6 → _ := fun _ => fmtA_loop (go T) s τ (.p (slP nl 17 (rowsS l))) (.s ind) (.s (out ++ ind)) i (by omega) rfl rfl rfl hag s.args [] rfl
  simp only [List.map_nil, List.length_nil, Int.ofNat_zero, rowsN_nil, ← acc_start, ← accV_start] at inner
  have hjn : ∀ B : B2, go T F_r3_join [accV (τ.length + 1) 1 (rowsN (s.args.map fmtE))] (τ ++ [B, acc 1 (rowsN (s.args.map fmtE))]) = some (.s (joinL (s.args.map fmtE)), τ ++ [B, acc 1 (rowsN (s.args.map fmtE))]) := fun B => join_eq hj (SV.acc (by rw [at_add]; rfl)) (by simp; omega) (by omega)
  have hjc : ∀ B : B2, go T F_r3_join [accV (τ.length + 1) 1 (rowsN (s.args.map fmtE))] (cleanT (τ ++ [B, acc 1 (rowsN (s.args.map fmtE))])) = some (.s (joinL (s.args.map fmtE)), cleanT (τ ++ [B, acc 1 (rowsN (s.args.map fmtE))])) := fun B => join_eq hj (SV.clean (SV.acc (by rw [at_add]; rfl))) (by simp; omega) (by omega)
  clear hag n1 n2
  rw [fmtSA_eq]
  obtain ⟨ka, na, sa, oa, va, kv, nv, sv, ov, vv, hae, hve, hr⟩ := hrow
  rw [hr] at hat
  have hat2 := at2 hat
  simp only [SB, hr, List.map] at inner
  by_cases k1 : s.kind = 1
  · have f1 := fun τ => (hv (w2 (by omega)) τ).1
    have f2 := (hv (w2 (by omega)) τ).2
    simp only [hve, List.map] at f1
    clear inner hjn hjc
    simp (config := { maxSteps := 400000 }) (disch := first | omega | (simp [tmB, refsB]; done) | (simp only [List.length_append, List.length_cons, List.length_nil]; omega)) [go_sem, lb_r3_formatStmts_1, hl, hi, hat, hat2, hw, htr, k1, f1, -Bool.exists_bool]
  by_cases k2 : s.kind = 2
  · have f1 := fun τ => (hv (w3 k2).2 τ).1
    have f2 := (hv (w3 k2).2 τ).2
    have g1 := fun τ => (ha (w3 k2).1 τ).1
    have g2 := (ha (w3 k2).1 τ).2
    simp only [hve, hae, List.map] at f1 g1
    clear inner hjn hjc
    simp (config := { maxSteps := 400000 }) (disch := first | omega | (simp [tmB, refsB]; done) | (simp only [List.length_append, List.length_cons, List.length_nil]; omega)) [go_sem, lb_r3_formatStmts_1, hl, hi, hat, hat2, hw, htr, k2, f1, g1, -Bool.exists_bool]
  by_cases k5 : s.kind = 5
  · have f1 := fun τ => (hv (w2 (by omega)) τ).1
    have f2 := (hv (w2 (by omega)) τ).2
    simp only [hve, List.map] at f1
    clear inner hjn hjc
    simp (config := { maxSteps := 400000 }) (disch := first | omega | (simp [tmB, refsB]; done) | (simp only [List.length_append, List.length_cons, List.length_nil]; omega)) [go_sem, lb_r3_formatStmts_1, hl, hi, hat, hat2, hw, htr, k5, f1, -Bool.exists_bool]
  by_cases k7 : s.kind = 7
  · have b1 := w4 k7
    have f1 := fun τ => textR_eq H.text H.uint s.n (by omega) (by omega) τ
    have f2 := textL_len (n := s.n) (by omega) (by omega)
    clear inner hjn hjc
    simp (config := { maxSteps := 400000 }) (disch := first | omega | (simp [tmB, refsB]; done) | (simp only [List.length_append, List.length_cons, List.length_nil]; omega)) [go_sem, lb_r3_formatStmts_1, hl, hi, hat, hat2, hw, htr, k7, f1, -Bool.exists_bool]
  by_cases k4 : s.kind = 4
  · have f1 := fun τ => (hv (w2 (by omega)) τ).1
    have f2 := (hv (w2 (by omega)) τ).2
    simp only [hve, List.map] at f1
    clear inner hjn hjc
    simp (config := { maxSteps := 400000 }) (disch := first | omega | (simp [tmB, refsB]; done) | (simp only [List.length_append, List.length_cons, List.length_nil]; omega)) [go_sem, lb_r3_formatStmts_1, hl, hi, hat, hat2, hw, htr, k4, f1, ht1, -Bool.exists_bool]
  by_cases k3 : s.kind = 3
  · have f1 := fun τ => (hv (w2 (by omega)) τ).1
    have f2 := (hv (w2 (by omega)) τ).2
    have hle := rowsS_lengths s.el
    simp only [hve, List.map] at f1
    clear inner hjn hjc
    by_cases q : s.el.length = 0
    · simp (config := { maxSteps := 400000 }) (disch := first | omega | (simp [tmB, refsB]; done) | (simp only [List.length_append, List.length_cons, List.length_nil]; omega)) [go_sem, lb_r3_formatStmts_1, hl, hi, hat, hat2, hw, htr, k3, f1, ht1, hle, q, -Bool.exists_bool]
    · have q2 : 0 < s.el.length := by omega
      simp (config := { maxSteps := 400000 }) (disch := first | omega | (simp [tmB, refsB]; done) | (simp only [List.length_append, List.length_cons, List.length_nil]; omega)) [go_sem, lb_r3_formatStmts_1, hl, hi, hat, hat2, hw, htr, k3, f1, ht1, he1, hle, q, q2, -Bool.exists_bool]
  have k6 : s.kind = 6 := by omega
  have inner := inner k6
  rw [k6] at inner
  simp (config := { maxSteps := 400000 }) (disch := first | omega | (simp [tmB, refsB]; done) | (simp only [List.length_append, List.length_cons, List.length_nil]; omega)) [go_sem, lb_r3_formatStmts_1, hl, hi, hat, hat2, hw, htr, k6, inner, hjn, hjc, -Bool.exists_bool]
end
end
end Go.Proofs.YtpkchglfgkkcbaaDoor.Vs
namespace Go.Proofs.YtpkchglfgkkcbaaDoor.Vs
open Go.Proofs.YtpkchglfgkkcbaaDoor.Ev
noncomputable section
attribute [local go_sem] bodyS evS evL want chkV opV isEf neV efV env look put putO keep bi un1 v0 binC isSh binI wb next2 regS condS outS resS tmS nb nl blockS virts round trunc_same len_list len_nils len_ms len_str len_sl idx_list idx_ms idx_sl loadC one binS asN_nat faC cellsAt2 storeC cellsOf isCell_p isCell_ms isCell_ptr setAt buildC partsC fillC repC rowC toPs chunks at_len at_add set_len set_add at_c0 at_ck cleanT_get soil_clean pureAt okV okCell_p okCell_ms okCell_ptr nilChk callV ev2 fieldC unC pickC slcC slcP bnd obnd asN_lit asN_0 asN_1 asN_2 asN_mod asN_modl succ_ne succ_pos' leave3 leave_p undefC
set_option linter.unusedSimpArgs false
theorem fmtSsA_app : ∀ (a b : List LS) (acc ind : Str), fmtSsA (a ++ b) acc ind = fmtSsA b (fmtSsA a acc ind) ind
  | [], b, acc, ind => rfl
  | s :: a, b, acc, ind => by simp only [List.cons_append, fmtSsA]; exact fmtSsA_app a b _ _
theorem wfSs_app {a b : List LS} (h : wfSs (a ++ b) = true) : wfSs a = true ∧ wfSs b = true := by
  rw [wfSs_all, List.all_append, Bool.and_eq_true] at h
  exact ⟨by rw [wfSs_all]; exact h.1, by rw [wfSs_all]; exact h.2⟩
theorem rgSs_all : ∀ l : List LS, rgSs l = l.all rgS
  | [] => rfl
  | e :: es => by simp [rgSs, rgSs_all es]
theorem rgSs_app {a b : List LS} (h : rgSs (a ++ b) = true) : rgSs a = true ∧ rgSs b = true := by
  rw [rgSs_all, List.all_append, Bool.and_eq_true] at h
  exact ⟨by rw [rgSs_all]; exact h.1, by rw [rgSs_all]; exact h.2⟩
theorem szSs_app : ∀ a b : List LS, szSs (a ++ b) = szSs a + szSs b
  | [], b => by simp [szSs]
  | s :: a, b => by simp only [List.cons_append, szSs, szSs_app a b]; omega
theorem fmtSsA_big {l : List LS} {ind : Str} (hw : wfSs l = true) (hr : rgSs l = true) (hz : szSs l ≤ 900000) (hi : ind.length + 2 * szSs l ≤ 2000000) : (fmtSsA l [] ind).length ≤ 6000000000000 := by
  have h := fmtSsA_len l 2000000 [] ind hw hr hi
  have h2 : szSs l * (3 * 2000000 + 100) ≤ 900000 * (3 * 2000000 + 100) := Nat.mul_le_mul_right _ hz
  simp only [List.length_nil] at h
  omega
section
variable {T : FuncId → Option SF}
structure HPrt (T : FuncId → Option SF) : Prop extends HFmt T where
  join : T F_r3_join = some sf_r3_join
  stmts : T F_r3_formatStmts = some sf_r3_formatStmts
theorem fmtSs_eq (H : HPrt T) : ∀ (l : List LS) (nl : Option Bool) (ind : Str), wfSs l = true → rgSs l = true → szSs l ≤ 900000 → ind.length + 2 * szSs l ≤ 2000000 → ∀ τ, go T F_r3_formatStmts [.p (slP nl 17 (rowsS l)), .s ind] τ = some (.s (fmtSsA l [] ind), τ) := LSs.ind fun l ih nl ind hw hr hz hi τ => by
  have hlen := szSs_len l
  have hll := rowsS_lengths l
  have loop : ∀ (rest done : List LS), done ++ rest = l → Loop (round [0, 1, 5, 6] (evS ⟨fun _ => false, false⟩ (go T) lb_r3_formatStmts_1)) [(0, .p (slP nl 17 (rowsS l))), (1, .s ind), (5, .s (fmtSsA done [] ind)), (6, .i (done.length : Nat))] τ = some (.exit 0, [(0, .p (slP nl 17 (rowsS l))), (1, .s ind), (5, .s (fmtSsA l [] ind)), (6, .i (l.length : Nat)), (13, .b false)], τ) := by
    intro rest
    induction rest with
    | nil =>
      intro done hd
      obtain rfl : done = l := by simpa using hd
      refine Loop_exit ?_
      have hl := rowsS_lengths done
      clear ih
      simp [go_sem, lb_r3_formatStmts_1, hl, -Bool.exists_bool]
    | cons s rest ih2 =>
      intro done hd
      have hm : s ∈ l := by rw [← hd]; simp
      have hws : wfS s = true := by rw [wfSs_all, List.all_eq_true] at hw; exact hw s hm
      have hrs : rgS s = true := by rw [rgSs_all, List.all_eq_true] at hr; exact hr s hm
      have hzs := szSs_mem hm
      have hsz := szS_eq s
      obtain ⟨w1, w2, w3, w4, w5, w6, w7⟩ := wf_kindS hws
      have hrr := hrs
      rw [rgS_eq] at hrr
      simp only [Bool.and_eq_true] at hrr
      obtain ⟨-, r4, r5⟩ := hrr
      have hsa := szSs_app done (s :: rest)
      rw [hd] at hsa
      have hwd := hw
      have hrd := hr
      rw [← hd] at hwd hrd
      have e : fmtSA s (fmtSsA done [] ind) ind = fmtSsA (done ++ [s]) [] ind := by rw [fmtSsA_app]; rfl
      have hil : (ind ++ [32, 32]).length = ind.length + 2 := by simp
      have hat : (rowsS l)[done.length]? = some s.row := by rw [← hd]; exact rowsS_at done rest s
      have key := fmtS_round H.toHFmt H.join ind nl l τ s done.length (fmtSsA done [] ind) (by rw [← hd]; simp) (by omega) hat (by have := fmtSsA_big (ind := ind) (wfSs_app hwd).1 (rgSs_app hrd).1 (by omega) (by omega); omega) (by omega) hws hrs (by omega)
        ((ih s hm).1 s.tnl (ind ++ [32, 32]) w6 r4 (by omega) (by rw [hil]; omega)) (by have := fmtSsA_big (ind := ind ++ [32, 32]) w6 r4 (by omega) (by rw [hil]; omega); omega)
        ((ih s hm).2 s.enl (ind ++ [32, 32]) w7 r5 (by omega) (by rw [hil]; omega)) (by have := fmtSsA_big (ind := ind ++ [32, 32]) w7 r5 (by omega) (by rw [hil]; omega); omega)
      rw [Loop_step key, e]
      have := ih2 (done ++ [s]) (by simpa using hd)
      simp only [List.length_append, List.length_singleton] at this
      exact this
  have h := loop l [] rfl
  simp only [List.length_nil, Int.ofNat_zero, fmtSsA] at h
  have hlv := fun L x => leave_pL τ L x
  rw [go_eq, H.stmts]
  clear ih loop
  simp [go_sem, sf_r3_formatStmts, h, hlv, -Bool.exists_bool]
end
end
end Go.Proofs.YtpkchglfgkkcbaaDoor.Vs
namespace Go.Proofs.YtpkchglfgkkcbaaDoor.Vs
open Go.Proofs.YtpkchglfgkkcbaaDoor.Ev
noncomputable section
attribute [local go_sem] bodyS evS evL want chkV opV isEf neV efV env look put putO keep bi un1 v0 binC isSh binI wb next2 regS condS outS resS tmS nb nl blockS virts round trunc_same len_list len_nils len_ms len_str len_sl idx_list idx_ms idx_sl loadC one asN_nat faC cellsAt2 storeC cellsOf isCell_p isCell_ms isCell_ptr setAt buildC partsC fillC repC rowC toPs chunks at_len at_add set_len set_add at_c0 at_ck cleanT_get soil_clean pureAt okV okCell_p okCell_ms okCell_ptr nilChk callV ev2 fieldC unC pickC slcC slcP bnd obnd asN_lit asN_0 asN_1 asN_2 asN_mod asN_modl succ_ne succ_pos' leave3 leave_p undefC
set_option linter.unusedSimpArgs false
def arrA (acc : Str) (a : Str × Int) : Str := acc ++ [97, 114, 114, 97, 121, 32] ++ a.1 ++ [32] ++ textL a.2 ++ [59, 10]
def headF (acc : Str) (f : LF) : Str := acc ++ [102, 117, 110, 99, 32] ++ f.name ++ [40] ++ joinL f.params ++ [41, 32] ++ (if f.locals.length = 0 then [] else [118, 97, 114, 32] ++ joinL f.locals ++ [32])
def funA (acc : Str) (f : LF) : Str := headF acc f ++ [123, 10] ++ fmtSsA f.body [] [32, 32] ++ [32, 32, 114, 101, 116, 117, 114, 110, 32] ++ fmtE f.value ++ [59, 10, 125, 10]
def arrsA (l : List (Str × Int)) (acc : Str) : Str := l.foldl arrA acc
def funsA (l : List LF) (acc : Str) : Str := l.foldl funA acc
def printA (p : LP) : Str := funsA p.funcs (arrsA p.arrays [])
def rgF (f : LF) : Bool := rgSs f.body && rgE f.value
def rgP (p : LP) : Bool := p.funcs.all rgF
theorem sumL_sum : ∀ l : List Str, sumL l = 2 * l.length + (l.map List.length).sum
  | [] => rfl
  | x :: l => by simp only [sumL, sumL_sum l, List.length_cons, List.map_cons, List.sum_cons]; omega
section
variable {T : FuncId → Option SF}
theorem arrs_loop (H : HPrt T) (p : LP) (τ : St2) (hsz : p.arrays.length ≤ 4) (hk : ∀ a, a ∈ p.arrays → a.1.length ≤ 900000 ∧ 1 ≤ a.2 ∧ a.2 ≤ 16) : ∀ (rest done : List (Str × Int)), done ++ rest = p.arrays → (arrsA done []).length ≤ done.length * 1000000 →
    (arrsA p.arrays []).length ≤ p.arrays.length * 1000000 ∧ Loop (round [1, 3, 4] (evS ⟨fun _ => false, false⟩ (go T) lb_r3_Print_0)) [(1, .ptr τ.length 2 0), (3, .s (arrsA done [])), (4, .i (done.length : Nat))] (τ ++ [PB2 p]) = some (.exit 0, [(1, .ptr τ.length 2 0), (3, .s (arrsA p.arrays [])), (4, .i (p.arrays.length : Nat)), (14, .b false)], τ ++ [PB2 p]) := by
  have hl : (rowsA p.arrays).length = p.arrays.length := by simp [rowsA]
  have hbig : 1000 ≤ big := by decide
  intro rest
  induction rest with
  | nil =>
    intro done hd ho
    obtain rfl : done = p.arrays := by simpa using hd
    refine ⟨ho, Loop_exit ?_⟩
    simp only [PB2]
    simp [go_sem, binS, lb_r3_Print_0, hl, -Bool.exists_bool]
  | cons a rest ih =>
    intro done hd ho
    have hlt : done.length < p.arrays.length := by rw [← hd]; simp
    have hat := rowsA_at hd
    have hat2 := at2 hat
    obtain ⟨b1, b2, b3⟩ := hk a (by rw [← hd]; simp)
    have hw := wrap_b (n := done.length + 1) (by omega)
    simp only [Int.natCast_add, Int.natCast_one] at hw
    have f1 := fun τ => textR_eq H.text H.uint a.2 (by omega) (by omega) τ
    have f2 := textL_len (n := a.2) (by omega) (by omega)
    have e : arrsA (done ++ [a]) [] = arrA (arrsA done []) a := by simp [arrsA]
    have ho2 : (arrsA (done ++ [a]) []).length ≤ (done ++ [a]).length * 1000000 := by rw [e]; simp [arrA]; omega
    obtain ⟨ih0, ih1⟩ := ih (done ++ [a]) (by simpa using hd) ho2
    refine ⟨ih0, ?_⟩
    rw [e] at ih1
    simp only [List.length_append, List.length_singleton, PB2] at ih1 ⊢
    have ho3 : (arrsA done []).length ≤ 10000000 := by omega
    generalize arrsA done [] = out at *
    rw [Loop_step (tm' := [(1, .ptr τ.length 2 0), (3, .s (arrA out a)), (4, .i ((done.length + 1 : Nat) : Int))]) (τ' := τ ++ [⟨[.p (slP p.anl 2 (rowsA p.arrays)), .p (slP p.fnl 9 (rowsF p.funcs))], .live, 2, true⟩])]
    · exact ih1
    · simp (config := { maxSteps := 400000 }) (disch := first | omega | (simp [tmB, refsB]; done) | (simp only [List.length_append, List.length_cons, List.length_nil]; omega)) [go_sem, catS, eqlS, neqS, lb_r3_Print_0, hl, hlt, hat, hat2, hw, f1, arrA, -Bool.exists_bool]
theorem funs_loop (H : HPrt T) (p : LP) (τ : St2) (hsz : p.funcs.length ≤ 8) (a0 : Str) (_ha0 : a0.length ≤ 4000000) (hk : ∀ f, f ∈ p.funcs → wfSs f.body = true ∧ wfE f.value = true ∧ rgSs f.body = true ∧ rgE f.value = true ∧ szF f ≤ 900000) : ∀ (rest done : List LF), done ++ rest = p.funcs → (funsA done a0).length ≤ 4000000 + done.length * 10000000000000 →
    (funsA p.funcs a0).length ≤ 4000000 + p.funcs.length * 10000000000000 ∧ Loop (round [1, 3, 5] (evS ⟨fun _ => false, false⟩ (go T) lb_r3_Print_1)) [(1, .ptr τ.length 2 0), (3, .s (funsA done a0)), (5, .i (done.length : Nat))] (τ ++ [PB2 p]) = some (.exit 2, [(1, .ptr τ.length 2 0), (3, .s (funsA p.funcs a0)), (5, .i (p.funcs.length : Nat)), (40, .b false)], τ ++ [PB2 p]) := by
  have hl : (rowsF p.funcs).length = p.funcs.length := by simp [rowsF]
  have hbig : big = 1099511627776 := by decide
  have htr : ∀ (tm : Tm) (B : B2) (L : St2), tmB (τ.length + 1) tm = true → trunc tm (τ ++ [B]) (τ ++ B :: L) = τ ++ [B] := fun tm B L h => trunc1 h
  intro rest
  induction rest with
  | nil =>
    intro done hd ho
    obtain rfl : done = p.funcs := by simpa using hd
    refine ⟨ho, Loop_exit ?_⟩
    simp only [PB2]
    simp [go_sem, binS, lb_r3_Print_1, hl, -Bool.exists_bool]
  | cons f rest ih =>
    intro done hd ho
    have hlt : done.length < p.funcs.length := by rw [← hd]; simp
    have hat := rowsF_at hd
    obtain ⟨w1, w2, r1, r2, z⟩ := hk f (by rw [← hd]; simp)
    unfold szF at z
    have hw := wrap_b (n := done.length + 1) (by omega)
    simp only [Int.natCast_add, Int.natCast_one] at hw
    have f1 := fun τ => fmtSs_eq H f.body f.bnl [32, 32] w1 r1 (by omega) (by simp; omega) τ
    have f2 := fmtSsA_big (l := f.body) (ind := [32, 32]) w1 r1 (by omega) (by simp; omega)
    have g1 := fun τ => fmt_eq H.toHFmt f.value w2 r2 (by omega) τ
    have g2 := fmtE_len f.value w2 r2
    have g3 : (fmtE f.value).length ≤ 100000000 := by omega
    have s1 := sumL_sum f.params
    have s2 := sumL_sum f.locals
    have i1 := fun τ => join_eq H.join (SV.pure (τ := τ) f.pnl f.params) (by omega) (by omega)
    have i2 := joinA_len f.params [] 0
    have j1 := fun τ => join_eq H.join (SV.pure (τ := τ) f.lnl f.locals) (by omega) (by omega)
    have j2 := joinA_len f.locals [] 0
    have i3 : (joinL f.params).length ≤ 10000000 := by unfold joinL; simp only [List.length_nil] at i2; omega
    have j3 : (joinL f.locals).length ≤ 10000000 := by unfold joinL; simp only [List.length_nil] at j2; omega
    have nm : f.name.length ≤ 900000 := by omega
    have lp : (rowsN f.locals).length = f.locals.length := by simp [rowsN]
    have e : funsA (done ++ [f]) a0 = funA (funsA done a0) f := by simp [funsA]
    have ho2 : (funsA (done ++ [f]) a0).length ≤ 4000000 + (done ++ [f]).length * 10000000000000 := by
      rw [e]; unfold funA headF
      split <;> simp <;> omega
    obtain ⟨ih0, ih1⟩ := ih (done ++ [f]) (by simpa using hd) ho2
    refine ⟨ih0, ?_⟩
    rw [e] at ih1
    simp only [List.length_append, List.length_singleton, PB2] at ih1 ⊢
    have ho3 : (funsA done a0).length ≤ 100000000000000 := by omega
    generalize funsA done a0 = out at *
    obtain ⟨kv, nv, sv, ov, vv, hv, hr⟩ := f.row9
    simp only [hr, hv, List.map] at g1 hat
    have hat2 := at2 hat
    clear i2 j2 s1 s2 g2 ih ho ho2 hk z
    rw [Loop_step (tm' := [(1, .ptr τ.length 2 0), (3, .s (funA out f)), (5, .i ((done.length + 1 : Nat) : Int))]) (τ' := τ ++ [⟨[.p (slP p.anl 2 (rowsA p.arrays)), .p (slP p.fnl 9 (rowsF p.funcs))], .live, 2, true⟩])]
    · exact ih1
    · clear ih1
      unfold funA headF
      by_cases q : f.locals.length = 0
      · simp (config := { maxSteps := 400000 }) (disch := first | omega | (simp [tmB, refsB]; done) | (simp only [List.length_append, List.length_cons, List.length_nil]; omega)) [go_sem, catS, eqlS, neqS, lb_r3_Print_1, hl, hlt, hat, hat2, hw, htr, f1, g1, i1, j1, lp, q, -Bool.exists_bool]
      · have q2 : 0 < f.locals.length := by omega
        simp (config := { maxSteps := 400000 }) (disch := first | omega | (simp [tmB, refsB]; done) | (simp only [List.length_append, List.length_cons, List.length_nil]; omega)) [go_sem, catS, eqlS, neqS, lb_r3_Print_1, hl, hlt, hat, hat2, hw, htr, f1, g1, i1, j1, lp, q, q2, -Bool.exists_bool]
def printL (p : LP) : Str := if checkL p = 0 then printA p else []
theorem print_eq (H : HPrt T) (HC : HCheck T) (hT : T F_r3_Print = some sf_r3_Print) (p : LP) (hs : szP p ≤ 900000) (hx : p.arrays ≠ []) (hrg : rgP p = true) (τ : St2) : go T F_r3_Print [.agg (p.row.map .p)] τ = some (.s (printL p), τ) ∧ (printL p).length ≤ 100000000000000 := by
  have hbig : big = 1099511627776 := by decide
  have hc := fun τ => check_eq HC p (by omega) hx τ
  have hlv := fun L x => leave_pL τ L x
  unfold printL
  by_cases hz : checkL p = 0
  · rw [if_pos hz]
    rw [hz] at hc
    have hlim : limP p = false := by
      cases h : limP p with
      | false => rfl
      | true => unfold checkL at hz; rw [h] at hz; simp at hz
    have hwf : wfP p = true := by
      cases h : wfP p with
      | true => rfl
      | false => unfold checkL at hz; rw [h, hlim] at hz; simp at hz
    have hl := hlim
    simp only [limP, Bool.or_eq_false_iff, decide_eq_false_iff_not, Bool.not_eq_false'] at hl
    obtain ⟨l1, l2, l3, l4⟩ := hl
    simp only [wfP, Bool.and_eq_true, List.all_eq_true] at hwf l3
    simp only [rgP, List.all_eq_true] at hrg
    obtain ⟨a1, a2⟩ := arrs_loop H p τ (by omega) (fun a ha => by
      have h1 := szP_ar ha
      have h2 := l3 a ha
      simp only [okA, Bool.and_eq_true, decide_eq_true_eq] at h2
      exact ⟨by omega, h2.1, h2.2⟩) p.arrays [] rfl (by simp [arrsA])
    obtain ⟨b1, b2⟩ := funs_loop H p τ (by omega) (arrsA p.arrays []) (by omega) (fun f hf => by
      have h1 := szP_fn hf
      have h2 := hwf.2 f hf
      have h3 := hrg f hf
      simp only [wfF, rgF, Bool.and_eq_true] at h2 h3
      exact ⟨h2.2.1, h2.2.2, h3.1, h3.2, by omega⟩) p.funcs [] rfl (by simp [funsA]; omega)
    have ea : ([] : Str) = arrsA [] [] := rfl
    have ef : funsA [] (arrsA p.arrays []) = arrsA p.arrays [] := rfl
    rw [ef] at b2
    simp only [arrsA, List.foldl_nil] at a2
    simp only [List.length_nil, Int.ofNat_zero, PB2] at a2 b2
    refine ⟨?_, by unfold printA; omega⟩
    rw [go_eq, hT]
    simp only [LP.row, List.map] at hc
    unfold printA
    simp only [arrsA] at b2 ⊢
    simp [go_sem, binS, sf_r3_Print, LP.row, hc, a2, b2, hlv, -Bool.exists_bool]
  · rw [if_neg hz]
    refine ⟨?_, by simp⟩
    rw [go_eq, hT]
    simp only [LP.row, List.map] at hc
    simp [go_sem, binS, sf_r3_Print, LP.row, hc, hlv, hz, -Bool.exists_bool]
end
end
end Go.Proofs.YtpkchglfgkkcbaaDoor.Vs
namespace Go.Proofs.YtpkchglfgkkcbaaDoor.Vs
open Go.Proofs.YtpkchglfgkkcbaaDoor.Ev
noncomputable section
def InR (n : Int) : Prop := -9223372036854775808 ≤ n ∧ n ≤ 9223372036854775807
def Rg (r : Rdr) : Prop := ∀ n, n ∈ r.ts.tape → InR n
theorem Rg.hd {r : Rdr} (h : Rg r) : InR r.hd := by
  unfold Rdr.hd
  unfold Rg at h
  cases ht : r.ts.tape with
  | nil => exact ⟨by decide, by decide⟩
  | cons a l => rw [ht] at h; exact h a (List.mem_cons_self ..)
theorem Rg.next {r : Rdr} (h : Rg r) : Rg r.next := by
  unfold Rdr.next
  split
  · exact h
  · rename_i ht
    intro n hn
    apply h n
    have : r.ts.tail.tape = r.ts.tape.tail := by cases r with | mk ts l => cases ts <;> rfl
    rw [this] at hn
    exact List.mem_of_mem_tail hn
theorem Rg.inc {r : Rdr} (h : Rg r) : Rg r.inc := h
theorem wordL_in {n raw : Int} (h : InR raw) : InR (wordL n raw) := by
  unfold wordL
  split
  · have h0 := Int.emod_nonneg n (show (24:Int) ≠ 0 by decide)
    obtain ⟨k, hk⟩ : ∃ k : Nat, n % 24 = k := ⟨(n % 24).toNat, by omega⟩
    have : k = 0 ∨ k = 1 ∨ k = 2 ∨ k = 3 ∨ k = 4 ∨ k = 5 ∨ k = 6 ∨ k = 7 ∨ k = 8 ∨ k = 9 := by omega
    rw [hk]
    rcases this with rfl | rfl | rfl | rfl | rfl | rfl | rfl | rfl | rfl | rfl <;> exact ⟨by decide, by decide⟩
  · split
    · exact ⟨by omega, by omega⟩
    · exact h
def eb : Nat → Nat
  | 0 => 2
  | d + 1 => 2 + 3 * eb d
theorem nm_len (f m : Nat) : (nm f m).length ≤ 1 := by
  have h : ∀ s, s ∈ namesL f → s.length ≤ 1 := by
    unfold namesL
    split <;> simp
  unfold nm
  by_cases hm : m % (namesL f).length < (namesL f).length
  · rw [List.getD_eq_getElem?_getD, List.getElem?_eq_getElem hm]
    exact h _ (List.getElem_mem hm)
  · rw [List.getD_eq_getElem?_getD, List.getElem?_eq_none (by omega)]
    simp
theorem ab_len (m : Nat) : (ab m).length ≤ 1 := by unfold ab; split <;> simp
theorem eb_mono : ∀ d, eb 0 ≤ eb d
  | 0 => Nat.le_refl _
  | d + 1 => by have := eb_mono d; simp only [eb] at *; omega
theorem genE_b (f : Nat) : ∀ (d : Nat) (r : Rdr), Rg r → szE (genE f d r).1 ≤ eb d ∧ rgE (genE f d r).1 = true ∧ Rg (genE f d r).2 := by
  have leafV : ∀ s : Str, s.length ≤ 1 → szE (eVar s) ≤ 2 ∧ rgE (eVar s) = true := fun s h => by
    simp only [eVar, szE, szEs, rgE, rgEs]
    exact ⟨by omega, by decide⟩
  have leafN : ∀ n : Int, InR n → szE (eNum n) ≤ 2 ∧ rgE (eNum n) = true := fun n h => by
    simp only [eNum, szE, szEs, rgE, rgEs, List.length_nil]
    exact ⟨by omega, by simp; exact h⟩
  intro d
  induction d with
  | zero =>
    intro r hr
    have a := leafV _ (nm_len f (pm r.hd))
    have b := leafN _ (wordL_in (n := pm r.hd) hr.hd)
    simp only [genE, eb]
    split
    · exact ⟨a.1, a.2, hr.next⟩
    · exact ⟨b.1, b.2, hr.next⟩
  | succ d ih =>
    intro r hr
    have a := leafV _ (nm_len f (pm r.hd))
    have b := leafN _ (wordL_in (n := pm r.hd) hr.hd)
    obtain ⟨x1, x2, x3⟩ := ih r.next hr.next
    obtain ⟨y1, y2, y3⟩ := ih _ x3
    obtain ⟨z1, z2, z3⟩ := ih _ y3
    have la := ab_len (pm r.hd)
    simp only [genE, eb]
    split
    · split
      · exact ⟨Nat.le_trans a.1 (by omega), a.2, hr.next⟩
      · exact ⟨Nat.le_trans b.1 (by omega), b.2, hr.next⟩
    · split
      · refine ⟨?_, ?_, x3⟩
        · simp only [eIdx, szE, szEs]; omega
        · simp [eIdx, rgE, rgEs, x2]
      · split
        · refine ⟨?_, ?_, z3⟩
          · simp only [eCond, szE, szEs, List.length_nil]; omega
          · simp [eCond, rgE, rgEs, x2, y2, z2]
        · split
          · refine ⟨?_, ?_, x3⟩
            · simp only [eOp, szE, szEs, List.length_nil]; omega
            · simp [eOp, rgE, rgEs, x2]
          · refine ⟨?_, ?_, y3⟩
            · simp only [eOp, szE, szEs, List.length_nil]; omega
            · simp [eOp, rgE, rgEs, x2, y2]
theorem genL_b {g : Rdr → LS × Rdr} {S : Nat} (hg : ∀ r, Rg r → szS (g r).1 ≤ S ∧ rgS (g r).1 = true ∧ Rg (g r).2) : ∀ (n : Nat) (r : Rdr), Rg r → szSs (genL g n r).1 ≤ n * S ∧ rgSs (genL g n r).1 = true ∧ Rg (genL g n r).2
  | 0, r, hr => ⟨by simp [genL, szSs], rfl, hr⟩
  | n + 1, r, hr => by
    simp only [genL]
    split
    · exact ⟨by simp [szSs], rfl, hr⟩
    · obtain ⟨h1, h2, h3⟩ := hg r hr
      obtain ⟨i1, i2, i3⟩ := genL_b hg n _ h3
      refine ⟨?_, ?_, i3⟩
      · simp only [szSs, Nat.add_mul]; omega
      · simp only [rgSs, h2, i2, Bool.and_self]
theorem stmtsOf_b {g : Rdr → LS × Rdr} {S : Nat} (hg : ∀ r, Rg r → szS (g r).1 ≤ S ∧ rgS (g r).1 = true ∧ Rg (g r).2) (most : Nat) (r : Rdr) (hr : Rg r) : szSs (stmtsOf g most r).1 ≤ most * S ∧ rgSs (stmtsOf g most r).1 = true ∧ Rg (stmtsOf g most r).2 := by
  unfold stmtsOf
  obtain ⟨h1, h2, h3⟩ := genL_b hg (r.hd % ((most : Int) + 1)).toNat r.next hr.next
  refine ⟨Nat.le_trans h1 (Nat.mul_le_mul_right _ ?_), h2, h3⟩
  have := Int.emod_lt_of_pos r.hd (show (0 : Int) < (most : Int) + 1 by omega)
  omega
theorem rg0 : rgE e0 = true := by decide
theorem genArgs_b (f m : Nat) (r : Rdr) (hr : Rg r) : szEs (genArgs f m r).1 ≤ 2 * eb 2 ∧ rgEs (genArgs f m r).1 = true ∧ Rg (genArgs f m r).2 := by
  obtain ⟨x1, x2, x3⟩ := genE_b f 2 r hr
  obtain ⟨y1, y2, y3⟩ := genE_b f 2 _ x3
  unfold genArgs
  split
  · exact ⟨by simp only [szEs]; omega, by simp [rgEs, x2, y2], y3⟩
  · exact ⟨by simp only [szEs]; omega, by simp [rgEs, x2], x3⟩
theorem genS1_b (f k m : Nat) (sub : Nat → Rdr → List LS × Rdr) (S : Nat) (hs : ∀ n r, Rg r → szSs (sub n r).1 ≤ n * S ∧ rgSs (sub n r).1 = true ∧ Rg (sub n r).2) (r : Rdr) (hr : Rg r) : szS (genS1 f k m sub r).1 ≤ 400 + 5 * S ∧ rgS (genS1 f k m sub r).1 = true ∧ Rg (genS1 f k m sub r).2 := by
  have ln := nm_len f m
  have la := ab_len m
  have lf : (fg m).length ≤ 1 := by unfold fg; split <;> simp
  have z0 : szE e0 = 1 := by decide
  have e2 : eb 2 = 26 := rfl
  have e3 : eb 3 = 80 := rfl
  have e4 : eb 4 = 242 := rfl
  obtain ⟨a1, a2, a3⟩ := genE_b f 4 r hr
  obtain ⟨b1, b2, b3⟩ := genE_b f 2 r hr
  obtain ⟨c1, c2, c3⟩ := genE_b f 3 _ b3
  obtain ⟨d1, d2, d3⟩ := genE_b f 3 r hr
  obtain ⟨i1, i2, i3⟩ := genE_b f 3 r.inc hr.inc
  obtain ⟨p1, p2, p3⟩ := hs 3 _ d3
  obtain ⟨q1, q2, q3⟩ := hs 2 _ p3
  obtain ⟨u1, u2, u3⟩ := hs 3 _ i3
  obtain ⟨v1, v2, v3⟩ := genArgs_b f m r hr
  have g0 := rg0
  unfold genS1
  repeat' split
  · exact ⟨by simp only [sAssign, szS, szSs, szEs, List.length_nil, z0]; omega, by simp [sAssign, rgS, rgSs, rgEs, g0, a2], a3⟩
  · exact ⟨by simp only [sStore, szS, szSs, szEs, List.length_nil]; omega, by simp [sStore, rgS, rgSs, rgEs, b2, c2], c3⟩
  · exact ⟨by simp only [sIf, szS, szEs, List.length_nil, z0]; omega, by simp [sIf, rgS, rgEs, g0, d2, p2, q2], q3⟩
  · exact ⟨by simp only [sWhile, szS, szSs, szEs, List.length_nil, z0]; omega, by simp [sWhile, rgS, rgSs, rgEs, g0, i2, u2], u3⟩
  · exact ⟨by simp only [sOut, szS, szSs, szEs, List.length_nil, z0]; omega, by simp [sOut, rgS, rgSs, rgEs, g0, d2], d3⟩
  · exact ⟨by simp only [sCall, szS, szSs, z0]; omega, by simp [sCall, rgS, rgSs, g0, v2], v3⟩
  · exact ⟨by simp only [sTrap, szS, szSs, szEs, List.length_nil, z0]; omega, by simp [sTrap, rgS, rgSs, rgEs, g0], hr⟩
def sb : Nat → Nat
  | 0 => 400
  | d + 1 => 400 + 5 * sb d
theorem genS_b (f : Nat) : ∀ (d : Nat) (r : Rdr), Rg r → szS (genS f d r).1 ≤ sb d ∧ rgS (genS f d r).1 = true ∧ Rg (genS f d r).2
  | 0, r, hr => by
    have := genS1_b f (kS 0 r) (pm r.hd) (fun _ r => ([], r)) 0 (fun n r h => ⟨by simp [szSs], rfl, h⟩) r.next hr.next
    exact this
  | d + 1, r, hr => genS1_b f (kS (d + 1) r) (pm r.hd) (stmtsOf (genS f d)) (sb d) (fun n r h => stmtsOf_b (genS_b f d) n r h) r.next hr.next
theorem genP_b (r : Rdr) (hr : Rg r) : szP (genP r) ≤ 500000 ∧ rgP (genP r) = true ∧ (genP r).arrays ≠ [] := by
  obtain ⟨a1, a2, a3⟩ := stmtsOf_b (genS_b 0 3) 5 r.next hr.next
  obtain ⟨b1, b2, b3⟩ := genE_b 0 3 _ a3
  obtain ⟨c1, c2, c3⟩ := stmtsOf_b (genS_b 1 2) 3 _ b3
  obtain ⟨d1, d2, d3⟩ := genE_b 1 3 _ c3
  have e3 : eb 3 = 80 := rfl
  have s3 : sb 3 = 62400 := rfl
  have s2 : sb 2 = 12400 := rfl
  refine ⟨?_, ?_, by simp [genP]⟩
  · simp only [genP, szP, szF, List.map_cons, List.map_nil, List.sum_cons, List.sum_nil, List.length_cons, List.length_nil]
    omega
  · simp [genP, rgP, rgF, a2, b2, c2, d2]
end
end Go.Proofs.YtpkchglfgkkcbaaDoor.Vs
namespace Go.Proofs.YtpkchglfgkkcbaaDoor.Vs
open Go.Proofs.YtpkchglfgkkcbaaDoor.Ev
noncomputable section
attribute [local go_sem] bodyS evS evL want chkV opV isEf neV efV env look put putO keep bi un1 v0 binC isSh binI wb next2 regS condS outS resS tmS nb nl blockS virts round trunc_same loadC one asN_nat faC cellsAt2 storeC cellsOf setAt buildC partsC fillC repC rowC toPs chunks at_len at_add set_len set_add nilChk callV ev2 fieldC unC pickC slcC slcP bnd obnd asN_lit asN_0 asN_1 asN_2 asN_mod asN_modl succ_ne succ_pos' leave3 leave_p undefC
set_option linter.unusedSimpArgs false
def piecesL : List Str := [[32], [40], [41], [59], [120], [48], [45], [62], [33], [63], [58], [125], [35], [10], [119, 104, 105, 108, 101], [57, 50, 50, 51, 51, 55, 50, 48, 51, 54, 56, 53, 52, 55, 55, 53, 56, 48, 56], [95], []]
section
variable {T : FuncId → Option SF}
theorem pick_eq2 (hT : T F_kp_Pick = some sf_kp_Pick) (n m : Int) (hm : 0 < m) (hm2 : m ≤ 4000000000000000000) (τ : St2) : go T F_kp_Pick [.i n, .i m] τ = some (.i (n % m), τ) := by
  rw [go_eq, hT]
  have h0 : m ≠ 0 := by omega
  by_cases h : n.tmod m < 0
  · have h2 : n.tmod m + m = n % m := by
      rw [Int.tmod_eq_emod] at h ⊢
      have := Int.emod_nonneg n h0
      have := Int.emod_lt_of_pos n hm
      split at h
      · omega
      · rw [if_neg (by assumption)]
        have : (m.natAbs : Int) = m := by omega
        omega
    have h3 : IntKind.i64.wrap (n % m) = n % m := wrap_in (by have := Int.emod_nonneg n h0; omega) (by have := Int.emod_lt_of_pos n hm; omega)
    simp [go_sem, lenC, idxSC, binS, isCell, sf_kp_Pick, h0, h, h2, h3, -Bool.exists_bool]
  · have h2 : n.tmod m = n % m := by
      rw [Int.tmod_eq_emod] at h ⊢
      have := Int.emod_nonneg n h0
      have := Int.emod_lt_of_pos n hm
      split at h
      · rw [if_pos (by assumption)]; omega
      · have : (m.natAbs : Int) = m := by omega
        omega
    rw [h2] at h
    simp [go_sem, lenC, idxSC, binS, isCell, sf_kp_Pick, h0, h, h2, -Bool.exists_bool]

structure HText (T : FuncId → Option SF) : Prop extends HPrt T, HCheck T where
  gen : HGenS T
  prog : T F_kp_Program = some sfProgram
  print : T F_r3_Print = some sf_r3_Print
  keep : T F_kp_Text = some sf_kp_Text
theorem keep_text (H : HText T) (xs : List Int) (v : PV) (hv : IntsV xs v) (hx : ∀ n, n ∈ xs → InR n) (how at_ : Int) (τ : St2) : ∃ s : Str, go T F_kp_Text [.p v, .i how, .i at_] τ = some (.s s, τ) ∧ s.length ≤ 1000000000000000 := by
  obtain ⟨r, h1, h2, -⟩ := program_eq H.gen H.prog xs v hv τ
  have hr : Rg r := fun n hn => hx n (List.mem_of_mem_take (by rw [h2] at hn; exact hn))
  obtain ⟨b1, b2, b3⟩ := genP_b r hr
  have hp := fun τ => (print_eq H.toHPrt H.toHCheck H.print (genP r) (by omega) b3 b2 τ).1
  have hlen := (print_eq H.toHPrt H.toHCheck H.print (genP r) (by omega) b3 b2 τ).2
  generalize printL (genP r) = s at hp hlen
  have hlv := fun L x => leave_pL τ L x
  have hP := H.gen.pick
  have hpk := fun n τ => pick_eq hP n 3 (by decide) (by decide) τ
  simp only [LP.row, List.map] at h1 hp
  rw [go_eq, H.keep]
  by_cases q : how % 3 = 0
  · refine ⟨s, ?_, by omega⟩
    simp [go_sem, len_list, len_nils, len_ms, len_str, len_sl, idx_list, idx_ms, idx_sl, binS, isCell_p, isCell_ms, isCell_ptr, at_c0, at_ck, cleanT_get, soil_clean, pureAt, okV, okCell_p, okCell_ms, okCell_ptr, sf_kp_Text, h1, hp, hpk, q, hlv, -Bool.exists_bool]
  · have hw0 : IntKind.i64.wrap ((s.length : Int) + 1) = (s.length : Int) + 1 := wrap_in (by omega) (by omega)
    have hpl := fun n τ => pick_eq2 hP n ((s.length : Int) + 1) (by omega) (by omega) τ
    have hpq := fun n τ => pick_eq hP n 18 (by decide) (by decide) τ
    obtain ⟨k, hk, hk2⟩ : ∃ k : Nat, at_ % ((s.length : Int) + 1) = k ∧ k ≤ s.length := ⟨(at_ % ((s.length : Int) + 1)).toNat, by
      have := Int.emod_nonneg at_ (show (s.length : Int) + 1 ≠ 0 by omega)
      omega, by
      have := Int.emod_lt_of_pos at_ (show (0 : Int) < (s.length : Int) + 1 by omega)
      omega⟩
    obtain ⟨i, hi, hi2⟩ : ∃ i : Nat, (IntKind.i64.wrap (how.tdiv 3)) % 18 = i ∧ i < 18 := ⟨((IntKind.i64.wrap (how.tdiv 3)) % 18).toNat, by omega, by omega⟩
    obtain ⟨j, hj, hj2⟩ : ∃ j : Nat, (IntKind.i64.wrap (at_.tdiv 7)) % 3 = j ∧ j < 3 := ⟨((IntKind.i64.wrap (at_.tdiv 7)) % 3).toNat, by omega, by omega⟩
    obtain ⟨kj, hkj⟩ : ∃ kj : Nat, kj = k + j := ⟨_, rfl⟩
    have hw1 : IntKind.i64.wrap ((k : Int) + (j : Int)) = (kj : Int) := by rw [hkj, Int.natCast_add]; exact wrap_in (by omega) (by omega)
    have hmn : mnC (.p (.int .i64 (s.length : Int))) (.p (.int .i64 (kj : Int))) = some (.p (.int .i64 ((min s.length kj : Nat) : Int))) := by
      simp only [mnC, decide_true, cond_true]
      congr 3
      split <;> omega
    have hmn2 : min s.length kj ≤ s.length := Nat.min_le_left _ _
    generalize min s.length kj = m at hmn hmn2
    obtain ⟨pc, hpc, hpl2⟩ : ∃ pc : Str, ([[PV.str [32]], [PV.str [40]], [PV.str [41]], [PV.str [59]], [PV.str [120]], [PV.str [48]], [PV.str [45]], [PV.str [62]], [PV.str [33]], [PV.str [63]], [PV.str [58]], [PV.str [125]], [PV.str [35]], [PV.str [10]], [PV.str [119, 104, 105, 108, 101]], [PV.str [57, 50, 50, 51, 51, 55, 50, 48, 51, 54, 56, 53, 52, 55, 55, 53, 56, 48, 56]], [PV.str [95]], [PV.str []]] : List (List PV))[i]? = some [.str pc] ∧ pc.length ≤ 19 := by
      have : i = 0 ∨ i = 1 ∨ i = 2 ∨ i = 3 ∨ i = 4 ∨ i = 5 ∨ i = 6 ∨ i = 7 ∨ i = 8 ∨ i = 9 ∨ i = 10 ∨ i = 11 ∨ i = 12 ∨ i = 13 ∨ i = 14 ∨ i = 15 ∨ i = 16 ∨ i = 17 := by omega
      rcases this with rfl | rfl | rfl | rfl | rfl | rfl | rfl | rfl | rfl | rfl | rfl | rfl | rfl | rfl | rfl | rfl | rfl | rfl <;> exact ⟨_, rfl, by decide⟩
    have hpc2 := at2 hpc
    refine ⟨s.take k ++ (pc ++ s.drop m), ?_, by simp; omega⟩
    have c1 : (s.take k).length + pc.length ≤ 4611686018427387904 := by simp; omega
    have c2 : (s.take k ++ pc).length + (s.drop m).length ≤ 4611686018427387904 := by simp; omega
    have c3 : (s.take k).length + (pc.length + (s.drop m).length) ≤ 4611686018427387904 := by simp; omega
    have tk : List.take (s.length - m) (List.drop m s) = List.drop m s := List.take_of_length_le (by simp)
    simp (config := { maxSteps := 400000 }) (disch := first | omega | (simp [tmB, refsB]; done) | (simp only [List.length_append, List.length_cons, List.length_nil]; omega)) [go_sem, catS, eqlS, neqS, len_list, len_nils, len_ms, len_str, len_sl, idx_list, idx_ms, idx_sl, isCell_p, isCell_ms, isCell_ptr, at_c0, at_ck, cleanT_get, soil_clean, pureAt, okV, okCell_p, okCell_ms, okCell_ptr, sf_kp_Text, h1, hp, hpk, hpl, hpq, q, hlv, hw0, hk, hi, hj, hw1, hmn, hpc, hpc2, slcStrC, hk2, hmn2, tk, -Bool.exists_bool]
end
end
end Go.Proofs.YtpkchglfgkkcbaaDoor.Vs
