/-
  The generator of programs, by equations.
-/
import Derived.Test.YtpkchglfgkkcbaaDoorVsC
import Derived.Attr

namespace Go.Proofs.YtpkchglfgkkcbaaDoor.Vs
open Go.Proofs.YtpkchglfgkkcbaaDoor.Ev
noncomputable section
abbrev Str := List UInt8
def slP (nl : Option Bool) (es : Nat) (rows : List (List PV)) : PV :=
  match nl with
  | some x => .list x es rows
  | none => match rows with
    | [] => .nils
    | _ :: _ => .list false es rows
inductive LE where
  | mk (kind n : Int) (name : Str) (op : Int) (nl : Option Bool) (kids : List LE)
mutual
def LE.row : LE → List PV
  | .mk k n s o nl kids => [.int .i64 k, .int .i64 n, .str s, .int .i64 o, slP nl 5 (rowsE kids)]
def rowsE : List LE → List (List PV)
  | [] => []
  | e :: es => e.row :: rowsE es
end
theorem rowsE_map : ∀ l : List LE, rowsE l = l.map LE.row
  | [] => by simp [rowsE]
  | e :: es => by simp [rowsE, rowsE_map es]
theorem LE.row_len (e : LE) : e.row.length = 5 := by cases e; rfl
theorem LE.row5 : ∀ e : LE, ∃ k n s o v, e.row = [.int .i64 k, .int .i64 n, .str s, .int .i64 o, v]
  | .mk _ _ _ _ _ _ => ⟨_, _, _, _, _, rfl⟩
def LE.kids : LE → List LE
  | .mk _ _ _ _ _ ks => ks
def LE.kind : LE → Int
  | .mk k _ _ _ _ _ => k
def LE.num : LE → Int
  | .mk _ n _ _ _ _ => n
def LE.name : LE → Str
  | .mk _ _ s _ _ _ => s
def LE.op : LE → Int
  | .mk _ _ _ o _ _ => o
theorem LE.ind {p : LE → Prop} (h : ∀ k n s o nl kids, (∀ e, e ∈ kids → p e) → p (.mk k n s o nl kids)) (e : LE) : p e :=
  LE.rec (motive_1 := p) (motive_2 := fun l => ∀ e, e ∈ l → p e) (fun k n s o nl kids ih => h k n s o nl kids ih) (fun e he => by cases he)
    (fun e l he hl x hx => by
      rcases List.mem_cons.1 hx with rfl | hx
      · exact he
      · exact hl x hx) e
inductive LS where
  | mk (kind : Int) (name to : Str) (n : Int) (at_ value : LE) (anl : Option Bool) (args : List LE) (tnl : Option Bool) (then_ : List LS) (enl : Option Bool) (else_ : List LS)
mutual
def LS.row : LS → List PV
  | .mk k s t n a v anl as tnl th enl el => [.int .i64 k, .str s, .str t, .int .i64 n] ++ a.row ++ v.row ++ [slP anl 5 (rowsE as), slP tnl 17 (rowsS th), slP enl 17 (rowsS el)]
def rowsS : List LS → List (List PV)
  | [] => []
  | e :: es => e.row :: rowsS es
end
theorem rowsS_map : ∀ l : List LS, rowsS l = l.map LS.row
  | [] => by simp [rowsS]
  | e :: es => by simp [rowsS, rowsS_map es]
theorem LS.row_len (s : LS) : s.row.length = 17 := by cases s; simp [LS.row, LE.row_len]
theorem LS.ind {p : LS → Prop} (h : ∀ k s t n a v anl as tnl th enl el, (∀ x, x ∈ th → p x) → (∀ x, x ∈ el → p x) → p (.mk k s t n a v anl as tnl th enl el)) (s : LS) : p s :=
  LS.rec (motive_1 := p) (motive_2 := fun l => ∀ e, e ∈ l → p e) (fun k s t n a v anl as tnl th enl el h1 h2 => h k s t n a v anl as tnl th enl el h1 h2) (fun e he => by cases he)
    (fun e l he hl x hx => by
      rcases List.mem_cons.1 hx with rfl | hx
      · exact he
      · exact hl x hx) s
def e0 : LE := .mk 0 0 [] 0 none []
def rowsN (l : List Str) : List (List PV) := l.map fun s => [.str s]
structure LF where
  name : Str
  pnl : Option Bool
  params : List Str
  lnl : Option Bool
  locals : List Str
  bnl : Option Bool
  body : List LS
  value : LE
def LF.row (f : LF) : List PV := [.str f.name, slP f.pnl 1 (rowsN f.params), slP f.lnl 1 (rowsN f.locals), slP f.bnl 17 (rowsS f.body)] ++ f.value.row
def rowsF (l : List LF) : List (List PV) := l.map LF.row
def rowsA (l : List (Str × Int)) : List (List PV) := l.map fun a => [.str a.1, .int .i64 a.2]
structure LP where
  anl : Option Bool
  arrays : List (Str × Int)
  fnl : Option Bool
  funcs : List LF
def LP.row (p : LP) : List PV := [slP p.anl 2 (rowsA p.arrays), slP p.fnl 9 (rowsF p.funcs)]

section
variable {τ L : St2} {l : Nat} {B B' X : B2} {k : Nat}
theorem at_sl (τ L : St2) (l : Nat) (B : B2) : (τ.set l B ++ L)[τ.length]? = L[0]? := at_len' (by simp)
theorem at_sa (τ L : St2) (l : Nat) (B : B2) (k : Nat) : (τ.set l B ++ L)[τ.length + k]? = L[k]? := by
  rw [List.getElem?_append_right (by simp)]; congr 1; simp
theorem set_sl (τ L : St2) (l : Nat) (B X : B2) : (τ.set l B ++ L).set τ.length X = τ.set l B ++ L.set 0 X := set_len' (by simp)
theorem set_sa (τ L : St2) (l : Nat) (B X : B2) (k : Nat) : (τ.set l B ++ L).set (τ.length + k) X = τ.set l B ++ L.set k X := by
  rw [List.set_append_right _ _ (by simp)]; congr 2; simp
theorem get_l (h : l < τ.length) : (τ.set l B ++ L)[l]? = some B := by rw [at_low (by simpa using h)]; exact List.getElem?_set_self h
theorem get_l0 (h : l < τ.length) : (τ.set l B)[l]? = some B := List.getElem?_set_self h
theorem get_o (h : k < τ.length) (hn : k ≠ l) : (τ.set l B ++ L)[k]? = τ[k]? := by rw [at_low (by simpa using h)]; exact List.getElem?_set_ne (Ne.symm hn)
theorem get_o0 (hn : k ≠ l) : (τ.set l B)[k]? = τ[k]? := List.getElem?_set_ne (Ne.symm hn)
theorem put_l (h : l < τ.length) : (τ.set l B ++ L).set l B' = τ.set l B' ++ L := by rw [set_low (by simpa using h), List.set_set]
theorem below_s (hB : refsBs τ.length B'.cells = true) (hl : l < τ.length) : Below2 (τ.set l B).length (τ.set l B) (τ.set l B' ++ L) := by
  have := below_set (τ := τ.set l B) (L := L) (l := l) (B := B') (by simpa using hB) (by simpa using hl)
  simpa using this
theorem leave_s {cs ds : List C} (h : fzL (fzC (τ.set l B' ++ L) τ.length (τ.length + L.length + 2)) cs = some ds) (hr : refsBs τ.length ds = true) (hB : refsBs τ.length B'.cells = true) (hl : l < τ.length) :
    leave false (τ.set l B) (τ.set l B' ++ L) cs = some (tup1 ds, τ.set l B') := by
  have h' : fzL (fzC (τ.set l B' ++ L) (τ.set l B).length ((τ.set l B' ++ L).length + 2)) cs = some ds := by simpa using h
  have := leave_gen (τ := τ.set l B) (τ' := τ.set l B' ++ L) h' (by simpa using hr) (below_s hB hl) (by simp)
  rw [this, List.take_append_of_le_length (by simp), List.take_of_length_le (by simp)]
theorem leave_sp (hB : refsBs τ.length B'.cells = true) (hl : l < τ.length) (L : St2) (x : PV) : leave false (τ.set l B) (τ.set l B' ++ L) [.p x] = some (.p x, τ.set l B') :=
  leave_s (ds := [.p x]) rfl rfl hB hl
theorem leave_sp0 (hB : refsBs τ.length B'.cells = true) (hl : l < τ.length) (x : PV) : leave false (τ.set l B) (τ.set l B') [.p x] = some (.p x, τ.set l B') := by
  have := leave_sp (B := B) hB hl [] x
  rwa [List.append_nil] at this
theorem leave_sn (hB : refsBs τ.length B'.cells = true) (hl : l < τ.length) (L : St2) : leave false (τ.set l B) (τ.set l B' ++ L) [] = some (.tup [], τ.set l B') :=
  leave_s (ds := []) rfl rfl hB hl
theorem leave_sn0 (hB : refsBs τ.length B'.cells = true) (hl : l < τ.length) : leave false (τ.set l B) (τ.set l B') [] = some (.tup [], τ.set l B') := by
  have := leave_sn (B := B) hB hl []
  rwa [List.append_nil] at this
theorem leave_sa (hB : refsBs τ.length B'.cells = true) (hl : l < τ.length) (L : St2) (ps : List PV) : leave false (τ.set l B) (τ.set l B' ++ L) [.agg (ps.map .p)] = some (.agg (ps.map .p), τ.set l B') :=
  leave_s (ds := [.agg (ps.map .p)]) (by simp only [fzL, fz_agg]) (refs_agg _ ps) hB hl
theorem trunc_s {tm : Tm} {L0 L1 : St2} (h : tmB (τ.length + L0.length) tm = true) (hl : l < τ.length) (hB : refsBs (τ.length + L0.length) B'.cells = true) (hle : L0.length ≤ L1.length) (hL : ∀ i, i < L0.length → L1[i]? = L0[i]? ∨ ∀ T, L1[i]? = some T → refsBs (τ.length + L0.length) T.cells = true) :
    trunc tm (τ.set l B ++ L0) (τ.set l B' ++ L1) = τ.set l B' ++ L1.take L0.length := by
  unfold trunc
  rw [if_pos]
  · rw [List.length_append, List.length_set, show τ.length = (τ.set l B').length by simp, List.take_length_add_append]
  · refine ⟨by simpa using h, fun i hi => ?_, by simp; omega⟩
    by_cases hlt : i < τ.length
    · rw [List.getElem?_append_left (by simpa using hlt), List.getElem?_append_left (by simpa using hlt)]
      by_cases e : l = i
      · subst e
        right
        intro T hT
        rw [List.getElem?_set_self hl] at hT
        obtain rfl := Option.some.inj hT
        simpa using hB
      · left
        rw [List.getElem?_set_ne e, List.getElem?_set_ne e]
    · simp only [List.length_append, List.length_set] at hi
      rw [List.getElem?_append_right (by simp; omega), List.getElem?_append_right (by simp; omega)]
      simpa using hL (i - τ.length) (by omega)
end

def preS : Nat → SC → SC
  | 0, _ => .skip
  | n + 1, .seq a b => .seq a (preS n b)
  | _ + 1, c => c
def postS : Nat → SC → SC
  | 0, c => c
  | n + 1, .seq _ b => postS n b
  | _ + 1, _ => .skip
theorem evS_cut (fl : Fl) (call : Call2) : ∀ (n : Nat) (c : SC) (tm : Tm) (τ : St2), evS fl call c tm τ = next2 (evS fl call (postS n c)) (evS fl call (preS n c) tm τ)
  | 0, c, tm, τ => rfl
  | n + 1, .seq a b, tm, τ => by
    simp only [evS, preS, postS]
    cases h : evS fl call a tm τ with
    | none => rfl
    | some y =>
      obtain ⟨o, tm', τ'⟩ := y
      cases o with
      | normal => exact evS_cut fl call n b tm' τ'
      | exit id => rfl
      | ret => rfl
  | n + 1, .skip, tm, τ => rfl
  | n + 1, .ret, tm, τ => rfl
  | n + 1, .exit id, tm, τ => rfl
  | n + 1, .reg l ks, tm, τ => by
    simp only [preS, postS]
    cases h : evS fl call (.reg l ks) tm τ with
    | none => rfl
    | some y => obtain ⟨o, tm', τ'⟩ := y; cases o <;> rfl
  | n + 1, .cond x a b, tm, τ => by
    simp only [preS, postS]
    cases h : evS fl call (.cond x a b) tm τ with
    | none => rfl
    | some y => obtain ⟨o, tm', τ'⟩ := y; cases o <;> rfl
  | n + 1, .block id a, tm, τ => by
    simp only [preS, postS]
    cases h : evS fl call (.block id a) tm τ with
    | none => rfl
    | some y => obtain ⟨o, tm', τ'⟩ := y; cases o <;> rfl
  | n + 1, .loop ac ks a, tm, τ => by
    simp only [preS, postS]
    cases h : evS fl call (.loop ac ks a) tm τ with
    | none => rfl
    | some y => obtain ⟨o, tm', τ'⟩ := y; cases o <;> rfl
theorem body_cut (n : Nat) {sf : SF} (he : sf.ext = none) (call : Call2) (args : List C) (τ : St2) (hn : Nat.ble args.length sf.n = true) :
    bodyS (some sf) call args τ = outS sf τ (next2 (evS sf.fl call (postS n sf.code)) (evS sf.fl call (preS n sf.code) (tmS args 0) τ)) := by
  simp only [bodyS, he, hn, cond_true]
  rw [← evS_cut]
theorem asN_lit (k : IntKind) (n : Nat) : asN (.p (.int k (no_index (@OfNat.ofNat Int n _)))) = some n := rfl
theorem asN_0 (k : IntKind) : asN (.p (.int k 0)) = some 0 := rfl
theorem asN_1 (k : IntKind) : asN (.p (.int k 1)) = some 1 := rfl
theorem asN_2 (k : IntKind) : asN (.p (.int k 2)) = some 2 := rfl
theorem asN_mod (k : IntKind) (m n : Nat) : asN (.p (.int k ((m : Int) % (n : Int)))) = some (m % n) := rfl
theorem asN_modl (k : IntKind) (m n : Nat) : asN (.p (.int k ((m : Int) % (no_index (@OfNat.ofNat Int n _))))) = some (m % n) := rfl
inductive TS where
  | e (x : Bool)
  | m (lt g o : Nat) (ns : List Int)
def TS.c : TS → C
  | .e x => .p (.list x 1 [])
  | .m lt g o ns => .ms lt g o ns.length ucap
def TS.tape : TS → List Int
  | .e _ => []
  | .m _ _ _ ns => ns
def TS.tail : TS → TS
  | .e x => .e x
  | .m lt g o ns => .m lt g (o + 1) ns.tail
structure Rdr where
  ts : TS
  loops : Nat
def Rdr.B (r : Rdr) (d : Bool) : B2 := ⟨[r.ts.c, .p (.int .i64 r.loops)], .live, 2, d⟩
def TS.ok (τ : St2) (l : Nat) : TS → Prop
  | .e _ => True
  | .m lt g o ns => lt ≠ l ∧ lt < τ.length ∧ ∃ cs d, τ[lt]? = some ⟨cs, .live, 1, d⟩ ∧ cs.length = g ∧ o + ns.length = g ∧ ∀ i (h : i < ns.length), (cs.drop (o + i)).take 1 = [.p (.int .i64 ns[i])]
def Rdr.next (r : Rdr) : Rdr := match r.ts.tape with
  | [] => r
  | _ :: _ => ⟨r.ts.tail, r.loops⟩
def Rdr.hd (r : Rdr) : Int := r.ts.tape.headD 0
theorem TS.ok_tail {τ : St2} {l : Nat} {ts : TS} (h : ts.ok τ l) (hne : ts.tape ≠ []) : ts.tail.ok τ l := by
  cases ts with
  | e x => trivial
  | m lt g o ns =>
    obtain ⟨h1, h2, cs, d, h3, h4, h5, h6⟩ := h
    cases ns with
    | nil => exact absurd rfl hne
    | cons a ns =>
      refine ⟨h1, h2, cs, d, h3, h4, by simp at h5 ⊢; omega, fun i hi => ?_⟩
      have := h6 (i + 1) (by simp at hi ⊢; omega)
      rw [Nat.add_assoc, Nat.add_comm 1 i]
      simpa using this
theorem Rdr.ok_next {τ : St2} {l : Nat} {r : Rdr} (h : r.ts.ok τ l) : r.next.ts.ok τ l := by
  unfold Rdr.next
  split
  · exact h
  · rename_i he
    exact TS.ok_tail h (by rw [he]; exact fun e => by cases e)
theorem TS.ok_app {τ : St2} {l : Nat} {ts : TS} (h : ts.ok τ l) (L : St2) : ts.ok (τ ++ L) l := by
  cases ts with
  | e x => trivial
  | m lt g o ns =>
    obtain ⟨h1, h2, cs, d, h3, h⟩ := h
    exact ⟨h1, by simp; omega, cs, d, by rw [List.getElem?_append_left h2]; exact h3, h⟩
theorem Rdr.refs {τ : St2} {l : Nat} {r : Rdr} (h : r.ts.ok τ l) (d : Bool) : refsBs τ.length (r.B d).cells = true := by
  obtain ⟨ts, lo⟩ := r
  cases ts with
  | e x => rfl
  | m lt g o ns => have := h.2.1; simp [Rdr.B, TS.c, refsBs, refsB, nl]; omega
theorem cleanT_app (τ L : St2) : cleanT (τ ++ L) = cleanT τ ++ cleanT L := by simp [cleanT]
theorem cleanT_set (τ : St2) (l : Nat) (B : B2) : cleanT (τ.set l B) = (cleanT τ).set l { B with dirty := false } := by simp [cleanT, List.map_set]
theorem cleanT_len (τ : St2) : (cleanT τ).length = τ.length := by simp [cleanT]
theorem soil_clean : ∀ τ : St2, soil τ (cleanT τ) = τ
  | [] => rfl
  | B :: τ => by
    have := soil_clean τ
    simp only [cleanT, List.map_cons, soil, Bool.or_false] at this ⊢
    rw [this]
theorem soil_set : ∀ (τ : St2) (l : Nat) (B B' : B2), soil (τ.set l B) ((cleanT τ).set l B') = τ.set l { B' with dirty := B.dirty || B'.dirty }
  | [], _, _, _ => by simp [soil, cleanT]
  | X :: τ, 0, B, B' => by
    have := soil_clean τ
    simp only [cleanT] at this
    simp [cleanT, soil, this]
  | X :: τ, l + 1, B, B' => by
    have := soil_set τ l B B'
    simp only [cleanT] at this
    simp [cleanT, soil, this]
theorem soil_app : ∀ {τ τ' : St2} (L L' : St2), τ.length = τ'.length → soil (τ ++ L) (τ' ++ L') = soil τ τ' ++ soil L L'
  | [], [], L, L', _ => rfl
  | B :: τ, B' :: τ', L, L', h => by simp [soil, soil_app L L' (Nat.succ.inj h)]
  | [], _ :: _, _, _, h => by cases h
  | _ :: _, [], _, _, h => by cases h
theorem soil_sl (τ L : St2) (l : Nat) (B B' : B2) : soil (τ.set l B ++ L) ((cleanT τ).set l B' ++ cleanT L) = τ.set l { B' with dirty := B.dirty || B'.dirty } ++ L := by
  rw [soil_app _ _ (by simp [cleanT_len]), soil_set, soil_clean]
theorem TS.ok_clean {τ : St2} {l : Nat} {ts : TS} (h : ts.ok τ l) : ts.ok (cleanT τ) l := by
  cases ts with
  | e x => trivial
  | m lt g o ns =>
    obtain ⟨h1, h2, cs, d, h3, h⟩ := h
    exact ⟨h1, by rw [cleanT_len]; exact h2, cs, false, by simp [cleanT, h3], h⟩
def GD (T : FuncId → Option SF) (f : FuncId) (args : List C) (r : Rdr) (v : C) (r' : Rdr) : Prop :=
  ∀ (τ : St2) (l : Nat) (d : Bool), l < τ.length → r.ts.ok τ l → (∃ d', go T f (.ptr l 2 0 :: args) (τ.set l (r.B d)) = some (v, τ.set l (r'.B d'))) ∧ r'.ts.ok τ l
theorem GD.own {T : FuncId → Option SF} {f : FuncId} {args : List C} {r r' : Rdr} {v : C} (h : GD T f args r v r') {τ : St2} {l : Nat} (hl : l < τ.length) (hr : r.ts.ok τ l) :
    ∃ g g' : Bool → St2 → Bool, (∀ d L, go T f (.ptr l 2 0 :: args) (τ.set l (r.B d) ++ L) = some (v, τ.set l (r'.B (g d L)) ++ L)) ∧ (∀ d L, go T f (.ptr l 2 0 :: args) (cleanT (τ.set l (r.B d) ++ L)) = some (v, (cleanT τ).set l (r'.B (g' d L)) ++ cleanT L)) ∧ r'.ts.ok τ l := by
  have h1 : ∀ d L, ∃ d', go T f (.ptr l 2 0 :: args) (τ.set l (r.B d) ++ L) = some (v, τ.set l (r'.B d') ++ L) := fun d L => by
    obtain ⟨d', h'⟩ := (h (τ ++ L) l d (by simp; omega) (TS.ok_app hr L)).1
    rw [set_low hl, set_low hl] at h'
    exact ⟨d', h'⟩
  have h2 : ∀ d L, ∃ d', go T f (.ptr l 2 0 :: args) (cleanT (τ.set l (r.B d) ++ L)) = some (v, (cleanT τ).set l (r'.B d') ++ cleanT L) := fun d L => by
    have hl' : l < (cleanT τ).length := by rw [cleanT_len]; exact hl
    obtain ⟨d', h'⟩ := (h (cleanT τ ++ cleanT L) l false (by simp; omega) (TS.ok_app (TS.ok_clean hr) _)).1
    rw [set_low hl', set_low hl'] at h'
    exact ⟨d', by rw [cleanT_app, cleanT_set]; exact h'⟩
  obtain ⟨g, hg⟩ : ∃ g : Bool → St2 → Bool, ∀ d L, go T f (.ptr l 2 0 :: args) (τ.set l (r.B d) ++ L) = some (v, τ.set l (r'.B (g d L)) ++ L) := ⟨fun d L => (h1 d L).choose, fun d L => (h1 d L).choose_spec⟩
  obtain ⟨g', hg'⟩ : ∃ g' : Bool → St2 → Bool, ∀ d L, go T f (.ptr l 2 0 :: args) (cleanT (τ.set l (r.B d) ++ L)) = some (v, (cleanT τ).set l (r'.B (g' d L)) ++ cleanT L) := ⟨fun d L => (h2 d L).choose, fun d L => (h2 d L).choose_spec⟩
  exact ⟨g, g', hg, hg', (h τ l true hl hr).2⟩
theorem soil_r (τ L : St2) (l : Nat) (r r' : Rdr) (d d' : Bool) : soil (τ.set l (r.B d) ++ L) ((cleanT τ).set l (r'.B d') ++ cleanT L) = τ.set l (r'.B (d || d')) ++ L := soil_sl _ _ _ _ _
end
end Go.Proofs.YtpkchglfgkkcbaaDoor.Vs
namespace Go.Proofs.YtpkchglfgkkcbaaDoor.Vs
open Go.Proofs.YtpkchglfgkkcbaaDoor.Ev
theorem len_list (x : Bool) (es : Nat) (rows : List (List PV)) : lenC false (.p (.list x es rows)) = some rows.length := rfl
theorem len_nils : lenC false (.p .nils) = some 0 := rfl
theorem len_ms (l g o n c : Nat) : lenC false (.ms l g o n c) = some n := rfl
theorem len_str (s : List UInt8) : lenC true (.p (.str s)) = some s.length := rfl
theorem len_sl (nl : Option Bool) (es : Nat) (rows : List (List PV)) : lenC false (.p (slP nl es rows)) = some rows.length := by
  cases nl with
  | some x => rfl
  | none => cases rows <;> rfl
theorem idx_list (es : Nat) (x : Bool) (rows : List (List PV)) (i : Nat) : idxSC es (.p (.list x es rows)) i = match rows[i]? with
    | some r => some (.fp r 0)
    | none => none := by
  show (bif Nat.beq es es then _ else none) = _
  rw [Nat.beq_refl]
  rfl
theorem idx_ms (es l g o n c i : Nat) : idxSC es (.ms l g o n c) i = bif Nat.ble (i + 1) n then some (.ptr l g (o + i * es)) else none := rfl
theorem idx_sl (nl : Option Bool) (es : Nat) (rows : List (List PV)) (i : Nat) : idxSC es (.p (slP nl es rows)) i = match rows[i]? with
    | some r => some (.fp r 0)
    | none => none := by
  cases nl with
  | some x => exact idx_list es x rows i
  | none => cases rows with
    | nil => simp [slP, idxSC]
    | cons r rows => exact idx_list es false (r :: rows) i

end Go.Proofs.YtpkchglfgkkcbaaDoor.Vs
namespace Go.Proofs.YtpkchglfgkkcbaaDoor.Vs
open Go.Proofs.YtpkchglfgkkcbaaDoor.Ev
noncomputable section
abbrev F_kp_Text : Nat := 8
abbrev F_kp_Pick : Nat := 12
abbrev F_r3_Print : Nat := 17
abbrev F_kp_Program : Nat := 18
abbrev F_r1_isLetter : Nat := 21
abbrev F_r1_isDigit : Nat := 22
abbrev F_r3_Check : Nat := 35
abbrev F_r1_Text : Nat := 36
abbrev F_r3_join : Nat := 37
abbrev F_r3_formatStmts : Nat := 38
abbrev F_r3_formatExpr : Nat := 39
abbrev F_kp_Reader_Next : Nat := 40
abbrev F_kp_Reader_Stmts : Nat := 41
abbrev F_kp_Reader_Expr : Nat := 42
abbrev F_r3_exceedsLimits : Nat := 57
abbrev F_r3_wellFormed : Nat := 58
abbrev F_r3_hasDuplicates : Nat := 59
abbrev F_r3_scope_checkStmts : Nat := 60
abbrev F_r3_scope_definedExpr : Nat := 61
abbrev F_r1_formatUint : Nat := 62
abbrev F_r3_formatOperand : Nat := 63
abbrev F_r3_operatorText : Nat := 64
abbrev F_kp_Reader_Stmt : Nat := 65
abbrev F_kp_names : Nat := 66
abbrev F_kp_Word : Nat := 67
abbrev F_r3_Reserved : Nat := 81
abbrev F_r3_countStmts : Nat := 86
abbrev F_r3_tooDeep : Nat := 87
abbrev F_r3_depth : Nat := 88
abbrev F_r3_ValidName : Nat := 89
abbrev F_r3_wellFormedStmts : Nat := 90
abbrev F_r3_wellFormedExpr : Nat := 91
abbrev F_r3_contains : Nat := 92
abbrev F_r3_FindFunc : Nat := 93
abbrev F_r3_scope_definedStmt : Nat := 94
abbrev F_r1_IsName : Nat := 104
abbrev F_r3_wellFormedStmt : Nat := 105
abbrev F_r3_IsBinaryOp : Nat := 106
abbrev F_r3_isZero : Nat := 121
abbrev F_r3_onlyValue : Nat := 122
def sf_kp_Text : SF := ⟨.seq (.reg [⟨some 6,.mv (.c (.p (.str []))),none,[]⟩] [0,1,2]) (.seq (.reg [⟨some 10,.mv (.t 0),none,[]⟩,⟨some 11,.call (.c (.p (.fn F_kp_Program))) [(.t 10)],none,[]⟩,⟨some 12,.call (.c (.p (.fn F_r3_Print))) [(.t 11)],none,[]⟩,⟨some 7,.mv (.t 12),none,[]⟩] [1,2,7]) (.seq (.seq (.reg [⟨some 13,.mv (.t 1),none,[]⟩,⟨some 14,.call (.c (.p (.fn F_kp_Pick))) [(.t 13),(.c (.p (.int .i64 3)))],none,[]⟩,⟨some 15,.bin false .eql (.t 14) (.c (.p (.int .i64 0))),none,[]⟩] [1,2,7,15]) (.cond (.t 15) (.seq (.reg [⟨some 16,.mv (.t 7),none,[]⟩,⟨some 6,.mv (.t 16),none,[]⟩] [6]) (.ret)) (.skip))) (.seq (.reg [⟨some 17,.mv (.t 2),none,[]⟩,⟨some 18,.mv (.t 7),none,[]⟩,⟨some 19,.len true (.t 18),none,[]⟩,⟨some 20,.bin false .add (.t 19) (.c (.p (.int .i64 1))),none,[]⟩,⟨some 21,.call (.c (.p (.fn F_kp_Pick))) [(.t 17),(.t 20)],none,[]⟩,⟨some 8,.mv (.t 21),none,[]⟩] [1,2,7,8]) (.seq (.reg [⟨some 22,.row 22 1 18 [(.str [])] [(0,1,(.c (.p (.str [32])))),(1,1,(.c (.p (.str [40])))),(2,1,(.c (.p (.str [41])))),(3,1,(.c (.p (.str [59])))),(4,1,(.c (.p (.str [120])))),(5,1,(.c (.p (.str [48])))),(6,1,(.c (.p (.str [45])))),(7,1,(.c (.p (.str [62])))),(8,1,(.c (.p (.str [33])))),(9,1,(.c (.p (.str [63])))),(10,1,(.c (.p (.str [58])))),(11,1,(.c (.p (.str [125])))),(12,1,(.c (.p (.str [35])))),(13,1,(.c (.p (.str [10])))),(14,1,(.c (.p (.str [119,104,105,108,101])))),(15,1,(.c (.p (.str [57,50,50,51,51,55,50,48,51,54,56,53,52,55,55,53,56,48,56])))),(16,1,(.c (.p (.str [95])))),(17,1,(.c (.p (.str []))))],none,[]⟩,⟨some 9,.mv (.t 22),none,[]⟩] [1,2,7,8,9]) (.seq (.seq (.reg [] [1,2,7,8,9]) (.reg [⟨some 65536,.mv (.t 7),none,[]⟩,⟨some 65537,.mv (.t 8),none,[]⟩,⟨some 65538,.slcStr (.t 65536) none (some (.t 65537)),none,[(.c (.p .nilp))]⟩,⟨some 65539,.mv (.t 9),none,[]⟩,⟨some 65540,.mv (.t 1),none,[]⟩,⟨some 65541,.bin false .quo (.t 65540) (.c (.p (.int .i64 3))),none,[]⟩,⟨some 65542,.mv (.t 9),none,[]⟩,⟨some 65543,.len false (.t 65542),none,[]⟩,⟨some 65548,.mv (.t 7),none,[]⟩,⟨some 65549,.mv (.t 7),none,[]⟩,⟨some 65550,.len true (.t 65549),none,[]⟩,⟨some 65551,.mv (.t 8),none,[]⟩,⟨some 65552,.mv (.t 2),none,[]⟩,⟨some 65553,.bin false .quo (.t 65552) (.c (.p (.int .i64 7))),none,[]⟩,⟨some 65544,.call (.c (.p (.fn F_kp_Pick))) [(.t 65541),(.t 65543)],none,[(.t 65536)]⟩,⟨some 65545,.idxS 1 (.t 65539) (.t 65544),none,[]⟩,⟨some 65546,.load 1 false (.t 65545),none,[(.c (.p .nilp))]⟩,⟨some 65547,.bin false .add (.t 65538) (.t 65546),none,[]⟩,⟨some 65554,.call (.c (.p (.fn F_kp_Pick))) [(.t 65553),(.c (.p (.int .i64 3)))],none,[(.t 65545),(.t 65536)]⟩,⟨some 65555,.bin false .add (.t 65551) (.t 65554),none,[]⟩,⟨some 65556,.mn (.t 65550) (.t 65555),none,[]⟩,⟨some 65557,.slcStr (.t 65548) (some (.t 65556)) none,none,[(.c (.p .nilp))]⟩,⟨some 65558,.bin false .add (.t 65547) (.t 65557),none,[]⟩,⟨some 65559,.mv (.t 65558),none,[]⟩,⟨some 6,.mv (.t 65559),none,[]⟩] [6])) (.ret)))))),[.tmp 6],46,⟨fun _ => false,false⟩,none⟩
def sf_kp_Pick : SF := ⟨.seq (.reg [⟨some 4,.mv (.c (.p (.int .i64 0))),none,[]⟩] [0,1]) (.seq (.reg [⟨some 5,.mv (.t 0),none,[]⟩,⟨some 6,.mv (.t 1),none,[]⟩,⟨some 7,.bin false .rem (.t 5) (.t 6),none,[]⟩,⟨some 0,.mv (.t 7),none,[]⟩] [0,1]) (.seq (.seq (.reg [⟨some 8,.mv (.t 0),none,[]⟩,⟨some 9,.bin false .lss (.t 8) (.c (.p (.int .i64 0))),none,[]⟩] [0,1,9]) (.cond (.t 9) (.reg [⟨some 10,.mv (.t 0),none,[]⟩,⟨some 11,.mv (.t 1),none,[]⟩,⟨some 12,.bin false .add (.t 10) (.t 11),none,[]⟩,⟨some 0,.mv (.t 12),none,[]⟩] [0]) (.skip))) (.seq (.reg [⟨some 13,.mv (.t 0),none,[]⟩,⟨some 4,.mv (.t 13),none,[]⟩] [4]) (.ret)))),[.tmp 4],14,⟨fun _ => false,false⟩,none⟩
def lb_r3_Print_0 : SC := .seq (.seq (.reg [⟨some 10,.mv (.t 4),none,[]⟩,⟨some 11,.fieldAddr 0 (.t 1),none,[]⟩,⟨some 12,.load 1 false (.t 11),none,[]⟩,⟨some 13,.len false (.t 12),none,[]⟩,⟨some 14,.bin false .lss (.t 10) (.t 13),none,[]⟩] [1,3,4,14]) (.cond (.t 14) (.skip) (.exit 0))) (.seq (.block 1 (.seq (.reg [] [1,3,4]) (.reg [⟨some 65536,.mv (.t 3),none,[]⟩,⟨some 65537,.bin false .add (.t 65536) (.c (.p (.str [97,114,114,97,121,32]))),none,[]⟩,⟨some 65538,.fieldAddr 0 (.t 1),none,[]⟩,⟨some 65539,.load 1 false (.t 65538),none,[(.c (.p .nilp))]⟩,⟨some 65540,.mv (.t 4),none,[]⟩,⟨some 65541,.idxS 2 (.t 65539) (.t 65540),none,[]⟩,⟨some 65542,.fieldAddr 0 (.t 65541),none,[]⟩,⟨some 65543,.load 1 false (.t 65542),none,[(.c (.p .nilp))]⟩,⟨some 65544,.bin false .add (.t 65537) (.t 65543),none,[]⟩,⟨some 65545,.bin false .add (.t 65544) (.c (.p (.str [32]))),none,[]⟩,⟨some 65546,.fieldAddr 0 (.t 1),none,[]⟩,⟨some 65547,.load 1 false (.t 65546),none,[(.c (.p .nilp))]⟩,⟨some 65548,.mv (.t 4),none,[]⟩,⟨some 65549,.idxS 2 (.t 65547) (.t 65548),none,[]⟩,⟨some 65550,.fieldAddr 1 (.t 65549),none,[]⟩,⟨some 65551,.load 1 false (.t 65550),none,[(.c (.p .nilp))]⟩,⟨some 65552,.call (.c (.p (.fn F_r1_Text))) [(.t 65551)],none,[(.t 65542),(.t 65538)]⟩,⟨some 65553,.bin false .add (.t 65545) (.t 65552),none,[]⟩,⟨some 65554,.bin false .add (.t 65553) (.c (.p (.str [59,10]))),none,[]⟩,⟨some 65555,.mv (.t 65554),none,[]⟩,⟨some 3,.mv (.t 65555),none,[]⟩] [1,3,4]))) (.reg [⟨some 15,.mv (.t 4),none,[]⟩,⟨some 16,.bin false .add (.t 15) (.c (.p (.int .i64 1))),none,[]⟩,⟨some 4,.mv (.t 16),none,[]⟩] [1,3,4]))
def lb_r3_Print_1 : SC := .seq (.seq (.reg [⟨some 36,.mv (.t 5),none,[]⟩,⟨some 37,.fieldAddr 1 (.t 1),none,[]⟩,⟨some 38,.load 1 false (.t 37),none,[]⟩,⟨some 39,.len false (.t 38),none,[]⟩,⟨some 40,.bin false .lss (.t 36) (.t 39),none,[]⟩] [1,3,5,40]) (.cond (.t 40) (.skip) (.exit 2))) (.seq (.block 3 (.seq (.reg [⟨some 43,.fieldAddr 1 (.t 1),none,[]⟩,⟨some 44,.load 1 false (.t 43),none,[]⟩,⟨some 45,.mv (.t 5),none,[]⟩,⟨some 46,.idxS 9 (.t 44) (.t 45),none,[]⟩,⟨some 47,.load 9 true (.t 46),none,[]⟩,⟨some 6,.alloc [(.str []),.nils,.nils,.nils,(.int .i64 0),(.int .i64 0),(.str []),(.int .i64 0),.nils],none,[]⟩,⟨none,.store 9 (.t 6) (.t 47),none,[]⟩] [1,3,5,6]) (.seq (.seq (.reg [] [1,3,5,6]) (.reg [⟨some 65536,.mv (.t 3),none,[]⟩,⟨some 65537,.bin false .add (.t 65536) (.c (.p (.str [102,117,110,99,32]))),none,[]⟩,⟨some 65538,.fieldAddr 0 (.t 6),none,[]⟩,⟨some 65539,.load 1 false (.t 65538),none,[(.c (.p .nilp))]⟩,⟨some 65540,.bin false .add (.t 65537) (.t 65539),none,[]⟩,⟨some 65541,.bin false .add (.t 65540) (.c (.p (.str [40]))),none,[]⟩,⟨some 65542,.fieldAddr 1 (.t 6),none,[]⟩,⟨some 65543,.load 1 false (.t 65542),none,[(.c (.p .nilp))]⟩,⟨some 65544,.call (.c (.p (.fn F_r3_join))) [(.t 65543)],none,[(.t 65538)]⟩,⟨some 65545,.bin false .add (.t 65541) (.t 65544),none,[]⟩,⟨some 65546,.bin false .add (.t 65545) (.c (.p (.str [41,32]))),none,[]⟩,⟨some 65547,.mv (.t 65546),none,[]⟩,⟨some 3,.mv (.t 65547),none,[]⟩] [1,3,5,6])) (.seq (.seq (.reg [⟨some 59,.fieldAddr 2 (.t 6),none,[]⟩,⟨some 60,.load 1 false (.t 59),none,[]⟩,⟨some 61,.len false (.t 60),none,[]⟩,⟨some 62,.bin false .gtr (.t 61) (.c (.p (.int .i64 0))),none,[]⟩] [1,3,5,6,62]) (.cond (.t 62) (.reg [⟨some 63,.mv (.t 3),none,[]⟩,⟨some 64,.bin false .add (.t 63) (.c (.p (.str [118,97,114,32]))),none,[]⟩,⟨some 65,.fieldAddr 2 (.t 6),none,[]⟩,⟨some 66,.load 1 false (.t 65),none,[]⟩,⟨some 67,.call (.c (.p (.fn F_r3_join))) [(.t 66)],none,[]⟩,⟨some 68,.bin false .add (.t 64) (.t 67),none,[]⟩,⟨some 69,.bin false .add (.t 68) (.c (.p (.str [32]))),none,[]⟩,⟨some 3,.mv (.t 69),none,[]⟩] [1,3,5,6]) (.skip))) (.seq (.reg [] [1,3,5,6]) (.reg [⟨some 65536,.mv (.t 3),none,[]⟩,⟨some 65537,.bin false .add (.t 65536) (.c (.p (.str [123,10]))),none,[]⟩,⟨some 65538,.fieldAddr 3 (.t 6),none,[]⟩,⟨some 65539,.load 1 false (.t 65538),none,[(.c (.p .nilp))]⟩,⟨some 65543,.fieldAddr 4 (.t 6),none,[]⟩,⟨some 65544,.load 5 true (.t 65543),none,[(.c (.p .nilp))]⟩,⟨some 65540,.call (.c (.p (.fn F_r3_formatStmts))) [(.t 65539),(.c (.p (.str [32,32])))],none,[(.t 65543)]⟩,⟨some 65541,.bin false .add (.t 65537) (.t 65540),none,[]⟩,⟨some 65542,.bin false .add (.t 65541) (.c (.p (.str [32,32,114,101,116,117,114,110,32]))),none,[]⟩,⟨some 65545,.call (.c (.p (.fn F_r3_formatExpr))) [(.t 65544)],none,[]⟩,⟨some 65546,.bin false .add (.t 65542) (.t 65545),none,[]⟩,⟨some 65547,.bin false .add (.t 65546) (.c (.p (.str [59,10,125,10]))),none,[]⟩,⟨some 65548,.mv (.t 65547),none,[]⟩,⟨some 3,.mv (.t 65548),none,[]⟩] [1,3,5])))))) (.reg [⟨some 41,.mv (.t 5),none,[]⟩,⟨some 42,.bin false .add (.t 41) (.c (.p (.int .i64 1))),none,[]⟩,⟨some 5,.mv (.t 42),none,[]⟩] [1,3,5]))
def sf_r3_Print : SF := ⟨.seq (.reg [⟨some 1,.box 2 (.t 0),none,[]⟩,⟨some 2,.mv (.c (.p (.str []))),none,[]⟩] [1]) (.seq (.seq (.reg [⟨some 7,.load 2 true (.t 1),none,[]⟩,⟨some 8,.call (.c (.p (.fn F_r3_Check))) [(.t 7)],none,[]⟩,⟨some 9,.bin false .neq (.t 8) (.c (.p (.int .i64 0))),none,[]⟩] [1,9]) (.cond (.t 9) (.seq (.reg [⟨some 2,.mv (.c (.p (.str []))),none,[]⟩] [2]) (.ret)) (.skip))) (.seq (.reg [⟨some 3,.mv (.c (.p (.str []))),none,[]⟩] [1,3]) (.seq (.seq (.reg [⟨some 4,.mv (.c (.p (.int .i64 0))),none,[]⟩] [1,3,4]) (.block 0 (.loop [] [1,3,4] (lb_r3_Print_0)))) (.seq (.seq (.reg [⟨some 5,.mv (.c (.p (.int .i64 0))),none,[]⟩] [1,3,5]) (.block 2 (.loop [] [1,3,5] (lb_r3_Print_1)))) (.seq (.reg [⟨some 82,.mv (.t 3),none,[]⟩,⟨some 2,.mv (.t 82),none,[]⟩] [2]) (.ret)))))),[.tmp 2],83,⟨fun _ => false,false⟩,none⟩
def sf_kp_Program : SF := ⟨.seq (.reg [⟨some 2,.alloc [.nils,.nils],none,[]⟩] [0,2]) (.seq (.reg [⟨some 6,.row 6 1 0 [(.int .i64 0)] [],none,[]⟩,⟨some 7,.mv (.t 0),none,[]⟩,⟨some 8,.mv (.t 0),none,[]⟩,⟨some 9,.len false (.t 8),none,[]⟩,⟨some 10,.mn (.t 9) (.c (.p (.int .i64 60))),none,[]⟩,⟨some 11,.slc 1 (.t 7) none (some (.t 10)),none,[]⟩,⟨some 12,.app 1 (.t 6) (.t 11),none,[]⟩,⟨some 13,.build [.nils,(.int .i64 0)] [(0,1,(.t 12))],none,[]⟩,⟨some 14,.box 2 (.t 13),none,[]⟩,⟨some 3,.mv (.t 14),none,[]⟩] [2,3]) (.seq (.reg [⟨some 15,.mv (.t 3),none,[]⟩,⟨some 16,.call (.c (.p (.fn F_kp_Reader_Next))) [(.t 15)],none,[]⟩,⟨some 4,.mv (.t 16),none,[]⟩] [2,3,4]) (.seq (.reg [⟨some 17,.mv (.t 4),none,[]⟩,⟨some 18,.call (.c (.p (.fn F_kp_Pick))) [(.t 17),(.c (.p (.int .i64 4)))],none,[]⟩,⟨some 19,.bin false .add (.c (.p (.int .i64 1))) (.t 18),none,[]⟩,⟨some 20,.build [(.str []),(.int .i64 0)] [(0,1,(.c (.p (.str [97])))),(1,1,(.t 19))],none,[]⟩,⟨some 21,.mv (.t 4),none,[]⟩,⟨some 22,.bin false .quo (.t 21) (.c (.p (.int .i64 4))),none,[]⟩,⟨some 23,.call (.c (.p (.fn F_kp_Pick))) [(.t 22),(.c (.p (.int .i64 4)))],none,[]⟩,⟨some 24,.bin false .add (.c (.p (.int .i64 1))) (.t 23),none,[]⟩,⟨some 25,.build [(.str []),(.int .i64 0)] [(0,1,(.c (.p (.str [98])))),(1,1,(.t 24))],none,[]⟩,⟨some 26,.row 26 2 2 [(.str []),(.int .i64 0)] [(0,2,(.t 20)),(2,2,(.t 25))],none,[]⟩,⟨some 27,.build [.nils,.nils] [(0,1,(.t 26))],none,[]⟩,⟨some 5,.alloc [.nils,.nils],none,[]⟩,⟨none,.store 2 (.t 5) (.t 27),none,[]⟩] [2,3,5]) (.seq (.reg [⟨some 28,.row 28 1 2 [(.str [])] [(0,1,(.c (.p (.str [120])))),(1,1,(.c (.p (.str [121]))))],none,[]⟩,⟨some 29,.row 29 1 2 [(.str [])] [(0,1,(.c (.p (.str [105])))),(1,1,(.c (.p (.str [106]))))],none,[]⟩,⟨some 30,.build [(.str []),.nils,.nils,.nils,(.int .i64 0),(.int .i64 0),(.str []),(.int .i64 0),.nils] [(0,1,(.c (.p (.str [102])))),(1,1,(.t 28)),(2,1,(.t 29))],none,[]⟩,⟨some 31,.row 31 1 1 [(.str [])] [(0,1,(.c (.p (.str [110]))))],none,[]⟩,⟨some 32,.row 32 1 1 [(.str [])] [(0,1,(.c (.p (.str [105]))))],none,[]⟩,⟨some 33,.build [(.str []),.nils,.nils,.nils,(.int .i64 0),(.int .i64 0),(.str []),(.int .i64 0),.nils] [(0,1,(.c (.p (.str [103])))),(1,1,(.t 31)),(2,1,(.t 32))],none,[]⟩,⟨some 34,.row 34 9 2 [(.str []),.nils,.nils,.nils,(.int .i64 0),(.int .i64 0),(.str []),(.int .i64 0),.nils] [(0,9,(.t 30)),(9,9,(.t 33))],none,[]⟩,⟨some 35,.fieldAddr 1 (.t 5),none,[]⟩,⟨none,.store 1 (.t 35) (.t 34),none,[]⟩] [2,3,5]) (.seq (.seq (.reg [] [2,3,5]) (.reg [⟨some 65536,.fieldAddr 1 (.t 5),none,[]⟩,⟨some 65537,.load 1 false (.t 65536),none,[(.c (.p .nilp))]⟩,⟨some 65538,.mv (.t 3),none,[]⟩,⟨some 65539,.call (.c (.p (.fn F_kp_Reader_Stmts))) [(.t 65538),(.c (.p (.int .i64 0))),(.c (.p (.int .i64 0))),(.c (.p (.int .i64 5)))],none,[(.t 65536)]⟩,⟨some 65540,.idxS 9 (.t 65537) (.c (.p (.int .i64 0))),none,[]⟩,⟨some 65541,.fieldAddr 3 (.t 65540),none,[]⟩,⟨some 65542,.store 1 (.t 65541) (.t 65539),none,[]⟩] [2,3,5])) (.seq (.seq (.reg [] [2,3,5]) (.reg [⟨some 65536,.fieldAddr 1 (.t 5),none,[]⟩,⟨some 65537,.load 1 false (.t 65536),none,[(.c (.p .nilp))]⟩,⟨some 65538,.mv (.t 3),none,[]⟩,⟨some 65539,.call (.c (.p (.fn F_kp_Reader_Expr))) [(.t 65538),(.c (.p (.int .i64 0))),(.c (.p (.int .i64 1)))],none,[(.t 65536)]⟩,⟨some 65540,.idxS 9 (.t 65537) (.c (.p (.int .i64 0))),none,[]⟩,⟨some 65541,.fieldAddr 4 (.t 65540),none,[]⟩,⟨some 65542,.store 5 (.t 65541) (.t 65539),none,[]⟩] [2,3,5])) (.seq (.seq (.reg [] [2,3,5]) (.reg [⟨some 65536,.fieldAddr 1 (.t 5),none,[]⟩,⟨some 65537,.load 1 false (.t 65536),none,[(.c (.p .nilp))]⟩,⟨some 65538,.mv (.t 3),none,[]⟩,⟨some 65539,.call (.c (.p (.fn F_kp_Reader_Stmts))) [(.t 65538),(.c (.p (.int .i64 1))),(.c (.p (.int .i64 1))),(.c (.p (.int .i64 3)))],none,[(.t 65536)]⟩,⟨some 65540,.idxS 9 (.t 65537) (.c (.p (.int .i64 1))),none,[]⟩,⟨some 65541,.fieldAddr 3 (.t 65540),none,[]⟩,⟨some 65542,.store 1 (.t 65541) (.t 65539),none,[]⟩] [2,3,5])) (.seq (.seq (.reg [] [2,3,5]) (.reg [⟨some 65536,.fieldAddr 1 (.t 5),none,[]⟩,⟨some 65537,.load 1 false (.t 65536),none,[(.c (.p .nilp))]⟩,⟨some 65538,.mv (.t 3),none,[]⟩,⟨some 65539,.call (.c (.p (.fn F_kp_Reader_Expr))) [(.t 65538),(.c (.p (.int .i64 1))),(.c (.p (.int .i64 1)))],none,[(.t 65536)]⟩,⟨some 65540,.idxS 9 (.t 65537) (.c (.p (.int .i64 1))),none,[]⟩,⟨some 65541,.fieldAddr 4 (.t 65540),none,[]⟩,⟨some 65542,.store 5 (.t 65541) (.t 65539),none,[]⟩] [2,5])) (.seq (.reg [⟨some 60,.load 2 true (.t 5),none,[]⟩,⟨none,.store 2 (.t 2) (.t 60),none,[]⟩] [2]) (.ret)))))))))),[.cell 2 2 true],61,⟨fun _ => false,false⟩,none⟩
def sf_r1_isLetter : SF := ⟨.seq (.reg [⟨some 2,.mv (.c (.p (.bool false))),none,[]⟩] [0]) (.seq (.reg [⟨some 3,.mv (.t 0),none,[]⟩,⟨some 4,.bin false .geq (.t 3) (.c (.p (.int .u8 97))),none,[]⟩,⟨some 5,.mv (.t 4),none,[]⟩,⟨some 6,.mv (.t 0),(some (5,true)),[]⟩,⟨some 7,.bin false .leq (.t 6) (.c (.p (.int .u8 122))),(some (5,true)),[]⟩,⟨some 8,.pick (.t 5) (.t 7) (.c (.p (.bool false))),none,[]⟩,⟨some 9,.mv (.t 8),none,[]⟩,⟨some 10,.mv (.t 0),(some (9,false)),[]⟩,⟨some 11,.bin false .geq (.t 10) (.c (.p (.int .u8 65))),(some (9,false)),[]⟩,⟨some 12,.mv (.t 11),(some (9,false)),[]⟩,⟨some 13,.mv (.t 0),(some (12,true)),[]⟩,⟨some 14,.bin false .leq (.t 13) (.c (.p (.int .u8 90))),(some (12,true)),[]⟩,⟨some 15,.pick (.t 12) (.t 14) (.c (.p (.bool false))),(some (9,false)),[]⟩,⟨some 16,.pick (.t 9) (.c (.p (.bool true))) (.t 15),none,[]⟩,⟨some 17,.mv (.t 16),none,[]⟩,⟨some 18,.mv (.t 0),(some (17,false)),[]⟩,⟨some 19,.bin false .eql (.t 18) (.c (.p (.int .u8 95))),(some (17,false)),[]⟩,⟨some 20,.pick (.t 17) (.c (.p (.bool true))) (.t 19),none,[]⟩,⟨some 2,.mv (.t 20),none,[]⟩] [2]) (.ret)),[.tmp 2],21,⟨fun _ => false,false⟩,none⟩
def sf_r1_isDigit : SF := ⟨.seq (.reg [⟨some 2,.mv (.c (.p (.bool false))),none,[]⟩] [0]) (.seq (.reg [⟨some 3,.mv (.t 0),none,[]⟩,⟨some 4,.bin false .geq (.t 3) (.c (.p (.int .u8 48))),none,[]⟩,⟨some 5,.mv (.t 4),none,[]⟩,⟨some 6,.mv (.t 0),(some (5,true)),[]⟩,⟨some 7,.bin false .leq (.t 6) (.c (.p (.int .u8 57))),(some (5,true)),[]⟩,⟨some 8,.pick (.t 5) (.t 7) (.c (.p (.bool false))),none,[]⟩,⟨some 2,.mv (.t 8),none,[]⟩] [2]) (.ret)),[.tmp 2],9,⟨fun _ => false,false⟩,none⟩
def lb_r3_Check_0 : SC := .seq (.seq (.reg [⟨some 43,.mv (.t 7),none,[]⟩,⟨some 44,.fieldAddr 0 (.t 1),none,[]⟩,⟨some 45,.load 1 false (.t 44),none,[]⟩,⟨some 46,.len false (.t 45),none,[]⟩,⟨some 47,.bin false .lss (.t 43) (.t 46),none,[]⟩] [1,3,4,5,6,7,47]) (.cond (.t 47) (.skip) (.exit 5))) (.seq (.block 6 (.seq (.reg [] [1,3,4,5,6,7]) (.reg [⟨some 65536,.fieldAddr 1 (.t 6),none,[]⟩,⟨some 65537,.load 1 false (.t 65536),none,[(.c (.p .nilp))]⟩,⟨some 65538,.fieldAddr 0 (.t 1),none,[]⟩,⟨some 65539,.load 1 false (.t 65538),none,[(.c (.p .nilp))]⟩,⟨some 65540,.mv (.t 7),none,[]⟩,⟨some 65541,.idxS 2 (.t 65539) (.t 65540),none,[]⟩,⟨some 65542,.fieldAddr 0 (.t 65541),none,[]⟩,⟨some 65543,.load 1 false (.t 65542),none,[(.c (.p .nilp))]⟩,⟨some 65544,.row 58 1 1 [(.str [])] [(0,1,(.t 65543))],none,[]⟩,⟨some 65545,.app 1 (.t 65537) (.t 65544),none,[]⟩,⟨some 65546,.fieldAddr 1 (.t 6),none,[]⟩,⟨some 65547,.store 1 (.t 65546) (.t 65545),none,[]⟩] [1,3,4,5,6,7]))) (.reg [⟨some 48,.mv (.t 7),none,[]⟩,⟨some 49,.bin false .add (.t 48) (.c (.p (.int .i64 1))),none,[]⟩,⟨some 7,.mv (.t 49),none,[]⟩] [1,3,4,5,6,7]))
def lb_r3_Check_1 : SC := .seq (.seq (.reg [⟨some 22,.mv (.t 4),none,[]⟩,⟨some 23,.fieldAddr 1 (.t 1),none,[]⟩,⟨some 24,.load 1 false (.t 23),none,[]⟩,⟨some 25,.len false (.t 24),none,[]⟩,⟨some 26,.bin false .lss (.t 22) (.t 25),none,[]⟩] [1,3,4,26]) (.cond (.t 26) (.skip) (.exit 3))) (.seq (.block 4 (.seq (.reg [⟨some 29,.fieldAddr 1 (.t 1),none,[]⟩,⟨some 30,.load 1 false (.t 29),none,[]⟩,⟨some 31,.mv (.t 4),none,[]⟩,⟨some 32,.idxS 9 (.t 30) (.t 31),none,[]⟩,⟨some 33,.load 9 true (.t 32),none,[]⟩,⟨some 5,.alloc [(.str []),.nils,.nils,.nils,(.int .i64 0),(.int .i64 0),(.str []),(.int .i64 0),.nils],none,[]⟩,⟨none,.store 9 (.t 5) (.t 33),none,[]⟩] [1,3,4,5]) (.seq (.seq (.reg [] [1,3,4,5]) (.reg [⟨some 65536,.row 34 1 0 [(.str [])] [],none,[]⟩,⟨some 65537,.fieldAddr 1 (.t 5),none,[]⟩,⟨some 65538,.load 1 false (.t 65537),none,[(.c (.p .nilp))]⟩,⟨some 65540,.fieldAddr 2 (.t 5),none,[]⟩,⟨some 65541,.load 1 false (.t 65540),none,[(.c (.p .nilp))]⟩,⟨some 65543,.load 2 true (.t 1),none,[(.c (.p .nilp))]⟩,⟨some 65545,.alloc [.nils,.nils,.nils,.nils],none,[]⟩,⟨some 65539,.app 1 (.t 65536) (.t 65538),none,[(.t 1),(.t 65540)]⟩,⟨some 65542,.app 1 (.t 65539) (.t 65541),none,[(.t 1)]⟩,⟨some 65544,.build [.nils,.nils,.nils,.nils] [(0,1,(.t 65542)),(2,2,(.t 65543))],none,[]⟩,⟨some 65546,.store 4 (.t 65545) (.t 65544),none,[]⟩,⟨some 6,.mv (.t 65545),none,[]⟩] [1,3,4,5,6])) (.seq (.seq (.reg [⟨some 7,.mv (.c (.p (.int .i64 0))),none,[]⟩] [1,3,4,5,6,7]) (.block 5 (.loop [] [1,3,4,5,6,7] (lb_r3_Check_0)))) (.seq (.seq (.reg [⟨some 61,.mv (.t 3),none,[]⟩,⟨some 62,.bin false .eql (.t 61) (.c (.p (.int .i64 0))),none,[]⟩,⟨some 63,.mv (.t 62),none,[]⟩,⟨some 64,.load 4 true (.t 6),(some (63,true)),[]⟩,⟨some 65,.fieldAddr 3 (.t 5),(some (63,true)),[]⟩,⟨some 66,.load 1 false (.t 65),(some (63,true)),[]⟩,⟨some 67,.call (.c (.p (.fn F_r3_scope_checkStmts))) [(.t 64),(.t 66),(.c (.p (.bool false)))],(some (63,true)),[]⟩,⟨some 68,.un .not (.t 67),(some (63,true)),[]⟩,⟨some 69,.mv (.t 68),(some (63,true)),[]⟩,⟨some 70,.load 4 true (.t 6),(some (69,false)),[]⟩,⟨some 71,.fieldAddr 4 (.t 5),(some (69,false)),[]⟩,⟨some 72,.load 5 true (.t 71),(some (69,false)),[]⟩,⟨some 73,.call (.c (.p (.fn F_r3_scope_definedExpr))) [(.t 70),(.t 72)],(some (69,false)),[]⟩,⟨some 74,.un .not (.t 73),(some (69,false)),[]⟩,⟨some 75,.pick (.t 69) (.c (.p (.bool true))) (.t 74),(some (63,true)),[]⟩,⟨some 76,.pick (.t 63) (.t 75) (.c (.p (.bool false))),none,[]⟩] [1,3,4,5,6,76]) (.cond (.t 76) (.seq (.reg [⟨some 2,.mv (.c (.p (.int .i64 3))),none,[]⟩] [2]) (.ret)) (.skip))) (.seq (.reg [⟨some 77,.mv (.t 3),none,[]⟩,⟨some 78,.bin false .eql (.t 77) (.c (.p (.int .i64 1))),none,[]⟩,⟨some 79,.mv (.t 78),none,[]⟩,⟨some 80,.load 4 true (.t 6),(some (79,true)),[]⟩,⟨some 81,.fieldAddr 3 (.t 5),(some (79,true)),[]⟩,⟨some 82,.load 1 false (.t 81),(some (79,true)),[]⟩,⟨some 83,.call (.c (.p (.fn F_r3_scope_checkStmts))) [(.t 80),(.t 82),(.c (.p (.bool true)))],(some (79,true)),[]⟩,⟨some 84,.un .not (.t 83),(some (79,true)),[]⟩,⟨some 85,.pick (.t 79) (.t 84) (.c (.p (.bool false))),none,[]⟩] [1,3,4,85]) (.cond (.t 85) (.seq (.reg [⟨some 2,.mv (.c (.p (.int .i64 5))),none,[]⟩] [2]) (.ret)) (.skip)))))))) (.reg [⟨some 27,.mv (.t 4),none,[]⟩,⟨some 28,.bin false .add (.t 27) (.c (.p (.int .i64 1))),none,[]⟩,⟨some 4,.mv (.t 28),none,[]⟩] [1,3,4]))
def lb_r3_Check_2 : SC := .seq (.seq (.reg [⟨some 18,.mv (.t 3),none,[]⟩,⟨some 19,.bin false .lss (.t 18) (.c (.p (.int .i64 2))),none,[]⟩] [1,3,19]) (.cond (.t 19) (.skip) (.exit 1))) (.seq (.block 2 (.seq (.reg [⟨some 4,.mv (.c (.p (.int .i64 0))),none,[]⟩] [1,3,4]) (.block 3 (.loop [] [1,3,4] (lb_r3_Check_1))))) (.reg [⟨some 20,.mv (.t 3),none,[]⟩,⟨some 21,.bin false .add (.t 20) (.c (.p (.int .i64 1))),none,[]⟩,⟨some 3,.mv (.t 21),none,[]⟩] [1,3]))
def sf_r3_Check : SF := ⟨.seq (.reg [⟨some 1,.box 2 (.t 0),none,[]⟩,⟨some 2,.mv (.c (.p (.int .i64 0))),none,[]⟩] [1]) (.seq (.block 0 (.seq (.reg [⟨some 9,.load 2 true (.t 1),none,[]⟩,⟨some 10,.call (.c (.p (.fn F_r3_exceedsLimits))) [(.t 9)],none,[]⟩,⟨some 8,.mv (.t 10),none,[]⟩] [1,8]) (.cond (.t 8) (.seq (.reg [⟨some 2,.mv (.c (.p (.int .i64 6))),none,[]⟩] [2]) (.ret)) (.seq (.reg [⟨some 12,.load 2 true (.t 1),none,[]⟩,⟨some 13,.call (.c (.p (.fn F_r3_wellFormed))) [(.t 12)],none,[]⟩,⟨some 14,.un .not (.t 13),none,[]⟩,⟨some 11,.mv (.t 14),none,[]⟩] [1,11]) (.cond (.t 11) (.seq (.reg [⟨some 2,.mv (.c (.p (.int .i64 2))),none,[]⟩] [2]) (.ret)) (.seq (.reg [⟨some 16,.load 2 true (.t 1),none,[]⟩,⟨some 17,.call (.c (.p (.fn F_r3_hasDuplicates))) [(.t 16)],none,[]⟩,⟨some 15,.mv (.t 17),none,[]⟩] [1,15]) (.cond (.t 15) (.seq (.reg [⟨some 2,.mv (.c (.p (.int .i64 4))),none,[]⟩] [2]) (.ret)) (.skip)))))))) (.seq (.seq (.reg [⟨some 3,.mv (.c (.p (.int .i64 0))),none,[]⟩] [1,3]) (.block 1 (.loop [] [1,3] (lb_r3_Check_2)))) (.seq (.reg [⟨some 2,.mv (.c (.p (.int .i64 0))),none,[]⟩] [2]) (.ret)))),[.tmp 2],86,⟨fun _ => false,false⟩,none⟩
def sf_r1_Text : SF := ⟨.seq (.reg [⟨some 2,.mv (.c (.p (.str []))),none,[]⟩] [0]) (.seq (.seq (.reg [⟨some 3,.mv (.t 0),none,[]⟩,⟨some 4,.bin false .lss (.t 3) (.c (.p (.int .i64 0))),none,[]⟩] [0,4]) (.cond (.t 4) (.seq (.reg [⟨some 5,.mv (.t 0),none,[]⟩,⟨some 6,.bin false .add (.t 5) (.c (.p (.int .i64 1))),none,[]⟩,⟨some 7,.un .neg (.t 6),none,[]⟩,⟨some 8,.conv .u64 (.t 7),none,[]⟩,⟨some 9,.bin false .add (.t 8) (.c (.p (.int .u64 1))),none,[]⟩,⟨some 10,.call (.c (.p (.fn F_r1_formatUint))) [(.t 9)],none,[]⟩,⟨some 11,.bin false .add (.c (.p (.str [45]))) (.t 10),none,[]⟩,⟨some 2,.mv (.t 11),none,[]⟩] [2]) (.ret)) (.skip))) (.seq (.reg [⟨some 12,.mv (.t 0),none,[]⟩,⟨some 13,.conv .u64 (.t 12),none,[]⟩,⟨some 14,.call (.c (.p (.fn F_r1_formatUint))) [(.t 13)],none,[]⟩,⟨some 2,.mv (.t 14),none,[]⟩] [2]) (.ret))),[.tmp 2],15,⟨fun _ => false,false⟩,none⟩
def lb_r3_join_0 : SC := .seq (.seq (.reg [⟨some 5,.mv (.t 4),none,[]⟩,⟨some 6,.mv (.t 0),none,[]⟩,⟨some 7,.len false (.t 6),none,[]⟩,⟨some 8,.bin false .lss (.t 5) (.t 7),none,[]⟩] [0,3,4,8]) (.cond (.t 8) (.skip) (.exit 0))) (.seq (.block 1 (.seq (.seq (.reg [⟨some 11,.mv (.t 4),none,[]⟩,⟨some 12,.bin false .gtr (.t 11) (.c (.p (.int .i64 0))),none,[]⟩] [0,3,4,12]) (.cond (.t 12) (.reg [⟨some 13,.mv (.t 3),none,[]⟩,⟨some 14,.bin false .add (.t 13) (.c (.p (.str [44,32]))),none,[]⟩,⟨some 3,.mv (.t 14),none,[]⟩] [0,3,4]) (.skip))) (.reg [⟨some 15,.mv (.t 3),none,[]⟩,⟨some 16,.mv (.t 0),none,[]⟩,⟨some 17,.mv (.t 4),none,[]⟩,⟨some 18,.idxS 1 (.t 16) (.t 17),none,[]⟩,⟨some 19,.load 1 false (.t 18),none,[]⟩,⟨some 20,.bin false .add (.t 15) (.t 19),none,[]⟩,⟨some 3,.mv (.t 20),none,[]⟩] [0,3,4]))) (.reg [⟨some 9,.mv (.t 4),none,[]⟩,⟨some 10,.bin false .add (.t 9) (.c (.p (.int .i64 1))),none,[]⟩,⟨some 4,.mv (.t 10),none,[]⟩] [0,3,4]))
def sf_r3_join : SF := ⟨.seq (.reg [⟨some 2,.mv (.c (.p (.str []))),none,[]⟩] [0]) (.seq (.reg [⟨some 3,.mv (.c (.p (.str []))),none,[]⟩] [0,3]) (.seq (.seq (.reg [⟨some 4,.mv (.c (.p (.int .i64 0))),none,[]⟩] [0,3,4]) (.block 0 (.loop [] [0,3,4] (lb_r3_join_0)))) (.seq (.reg [⟨some 21,.mv (.t 3),none,[]⟩,⟨some 2,.mv (.t 21),none,[]⟩] [2]) (.ret)))),[.tmp 2],22,⟨fun _ => false,false⟩,none⟩
def lb_r3_formatStmts_0 : SC := .seq (.seq (.reg [⟨some 25,.mv (.t 9),none,[]⟩,⟨some 26,.fieldAddr 14 (.t 7),none,[]⟩,⟨some 27,.load 1 false (.t 26),none,[]⟩,⟨some 28,.len false (.t 27),none,[]⟩,⟨some 29,.bin false .lss (.t 25) (.t 28),none,[]⟩] [0,1,5,6,7,8,9,29]) (.cond (.t 29) (.skip) (.exit 3))) (.seq (.block 4 (.reg [⟨some 32,.mv (.t 8),none,[]⟩,⟨some 33,.fieldAddr 14 (.t 7),none,[]⟩,⟨some 34,.load 1 false (.t 33),none,[]⟩,⟨some 35,.mv (.t 9),none,[]⟩,⟨some 36,.idxS 5 (.t 34) (.t 35),none,[]⟩,⟨some 37,.load 5 true (.t 36),none,[]⟩,⟨some 38,.call (.c (.p (.fn F_r3_formatExpr))) [(.t 37)],none,[]⟩,⟨some 39,.row 39 1 1 [(.str [])] [(0,1,(.t 38))],none,[]⟩,⟨some 40,.app 1 (.t 32) (.t 39),none,[]⟩,⟨some 8,.mv (.t 40),none,[]⟩] [0,1,5,6,7,8,9])) (.reg [⟨some 30,.mv (.t 9),none,[]⟩,⟨some 31,.bin false .add (.t 30) (.c (.p (.int .i64 1))),none,[]⟩,⟨some 9,.mv (.t 31),none,[]⟩] [0,1,5,6,7,8,9]))
def lb_r3_formatStmts_1 : SC := .seq (.seq (.reg [⟨some 10,.mv (.t 6),none,[]⟩,⟨some 11,.mv (.t 0),none,[]⟩,⟨some 12,.len false (.t 11),none,[]⟩,⟨some 13,.bin false .lss (.t 10) (.t 12),none,[]⟩] [0,1,5,6,13]) (.cond (.t 13) (.skip) (.exit 0))) (.seq (.block 1 (.seq (.reg [⟨some 16,.mv (.t 0),none,[]⟩,⟨some 17,.mv (.t 6),none,[]⟩,⟨some 18,.idxS 17 (.t 16) (.t 17),none,[]⟩,⟨some 19,.load 17 true (.t 18),none,[]⟩,⟨some 7,.alloc [(.int .i64 0),(.str []),(.str []),(.int .i64 0),(.int .i64 0),(.int .i64 0),(.str []),(.int .i64 0),.nils,(.int .i64 0),(.int .i64 0),(.str []),(.int .i64 0),.nils,.nils,.nils,.nils],none,[]⟩,⟨none,.store 17 (.t 7) (.t 19),none,[]⟩] [0,1,5,6,7]) (.seq (.reg [⟨some 20,.mv (.t 5),none,[]⟩,⟨some 21,.mv (.t 1),none,[]⟩,⟨some 22,.bin false .add (.t 20) (.t 21),none,[]⟩,⟨some 5,.mv (.t 22),none,[]⟩] [0,1,5,6,7]) (.seq (.reg [⟨some 23,.fieldAddr 0 (.t 7),none,[]⟩,⟨some 24,.load 1 false (.t 23),none,[]⟩] [0,1,5,6,7,24]) (.block 2 (.seq (.reg [⟨some 55,.bin false .eql (.t 24) (.c (.p (.int .i64 1))),none,[]⟩,⟨some 54,.mv (.t 55),none,[]⟩] [0,1,5,6,7,24,54]) (.cond (.t 54) (.seq (.reg [] [0,1,5,6,7]) (.reg [⟨some 65536,.mv (.t 5),none,[]⟩,⟨some 65537,.fieldAddr 1 (.t 7),none,[]⟩,⟨some 65538,.load 1 false (.t 65537),none,[(.c (.p .nilp))]⟩,⟨some 65539,.bin false .add (.t 65536) (.t 65538),none,[]⟩,⟨some 65540,.bin false .add (.t 65539) (.c (.p (.str [32,61,32]))),none,[]⟩,⟨some 65541,.fieldAddr 9 (.t 7),none,[]⟩,⟨some 65542,.load 5 true (.t 65541),none,[(.c (.p .nilp))]⟩,⟨some 65543,.call (.c (.p (.fn F_r3_formatExpr))) [(.t 65542)],none,[(.t 65537)]⟩,⟨some 65544,.bin false .add (.t 65540) (.t 65543),none,[]⟩,⟨some 65545,.bin false .add (.t 65544) (.c (.p (.str [59,10]))),none,[]⟩,⟨some 65546,.mv (.t 65545),none,[]⟩,⟨some 5,.mv (.t 65546),none,[]⟩] [0,1,5,6])) (.seq (.reg [⟨some 67,.bin false .eql (.t 24) (.c (.p (.int .i64 2))),none,[]⟩,⟨some 66,.mv (.t 67),none,[]⟩] [0,1,5,6,7,24,66]) (.cond (.t 66) (.seq (.reg [] [0,1,5,6,7]) (.reg [⟨some 65536,.mv (.t 5),none,[]⟩,⟨some 65537,.fieldAddr 1 (.t 7),none,[]⟩,⟨some 65538,.load 1 false (.t 65537),none,[(.c (.p .nilp))]⟩,⟨some 65539,.bin false .add (.t 65536) (.t 65538),none,[]⟩,⟨some 65540,.bin false .add (.t 65539) (.c (.p (.str [91]))),none,[]⟩,⟨some 65541,.fieldAddr 4 (.t 7),none,[]⟩,⟨some 65542,.load 5 true (.t 65541),none,[(.c (.p .nilp))]⟩,⟨some 65546,.fieldAddr 9 (.t 7),none,[]⟩,⟨some 65547,.load 5 true (.t 65546),none,[(.c (.p .nilp))]⟩,⟨some 65543,.call (.c (.p (.fn F_r3_formatExpr))) [(.t 65542)],none,[(.t 65546),(.t 65537)]⟩,⟨some 65544,.bin false .add (.t 65540) (.t 65543),none,[]⟩,⟨some 65545,.bin false .add (.t 65544) (.c (.p (.str [93,32,61,32]))),none,[]⟩,⟨some 65548,.call (.c (.p (.fn F_r3_formatExpr))) [(.t 65547)],none,[(.t 65537)]⟩,⟨some 65549,.bin false .add (.t 65545) (.t 65548),none,[]⟩,⟨some 65550,.bin false .add (.t 65549) (.c (.p (.str [59,10]))),none,[]⟩,⟨some 65551,.mv (.t 65550),none,[]⟩,⟨some 5,.mv (.t 65551),none,[]⟩] [0,1,5,6])) (.seq (.reg [⟨some 84,.bin false .eql (.t 24) (.c (.p (.int .i64 5))),none,[]⟩,⟨some 83,.mv (.t 84),none,[]⟩] [0,1,5,6,7,24,83]) (.cond (.t 83) (.reg [⟨some 85,.mv (.t 5),none,[]⟩,⟨some 86,.bin false .add (.t 85) (.c (.p (.str [111,117,116,32]))),none,[]⟩,⟨some 87,.fieldAddr 9 (.t 7),none,[]⟩,⟨some 88,.load 5 true (.t 87),none,[]⟩,⟨some 89,.call (.c (.p (.fn F_r3_formatExpr))) [(.t 88)],none,[]⟩,⟨some 90,.bin false .add (.t 86) (.t 89),none,[]⟩,⟨some 91,.bin false .add (.t 90) (.c (.p (.str [59,10]))),none,[]⟩,⟨some 5,.mv (.t 91),none,[]⟩] [0,1,5,6]) (.seq (.reg [⟨some 93,.bin false .eql (.t 24) (.c (.p (.int .i64 7))),none,[]⟩,⟨some 92,.mv (.t 93),none,[]⟩] [0,1,5,6,7,24,92]) (.cond (.t 92) (.reg [⟨some 94,.mv (.t 5),none,[]⟩,⟨some 95,.bin false .add (.t 94) (.c (.p (.str [116,114,97,112,32]))),none,[]⟩,⟨some 96,.fieldAddr 3 (.t 7),none,[]⟩,⟨some 97,.load 1 false (.t 96),none,[]⟩,⟨some 98,.call (.c (.p (.fn F_r1_Text))) [(.t 97)],none,[]⟩,⟨some 99,.bin false .add (.t 95) (.t 98),none,[]⟩,⟨some 100,.bin false .add (.t 99) (.c (.p (.str [59,10]))),none,[]⟩,⟨some 5,.mv (.t 100),none,[]⟩] [0,1,5,6]) (.seq (.reg [⟨some 102,.bin false .eql (.t 24) (.c (.p (.int .i64 4))),none,[]⟩,⟨some 101,.mv (.t 102),none,[]⟩] [0,1,5,6,7,24,101]) (.cond (.t 101) (.seq (.reg [] [0,1,5,6,7]) (.reg [⟨some 65536,.mv (.t 5),none,[]⟩,⟨some 65537,.bin false .add (.t 65536) (.c (.p (.str [119,104,105,108,101,32,40]))),none,[]⟩,⟨some 65538,.fieldAddr 9 (.t 7),none,[]⟩,⟨some 65539,.load 5 true (.t 65538),none,[(.c (.p .nilp))]⟩,⟨some 65543,.fieldAddr 15 (.t 7),none,[]⟩,⟨some 65544,.load 1 false (.t 65543),none,[(.c (.p .nilp))]⟩,⟨some 65545,.mv (.t 1),none,[]⟩,⟨some 65546,.bin false .add (.t 65545) (.c (.p (.str [32,32]))),none,[]⟩,⟨some 65549,.mv (.t 1),none,[]⟩,⟨some 65540,.call (.c (.p (.fn F_r3_formatExpr))) [(.t 65539)],none,[(.t 65543)]⟩,⟨some 65541,.bin false .add (.t 65537) (.t 65540),none,[]⟩,⟨some 65542,.bin false .add (.t 65541) (.c (.p (.str [41,32,123,10]))),none,[]⟩,⟨some 65547,.call (.c (.p (.fn F_r3_formatStmts))) [(.t 65544),(.t 65546)],none,[]⟩,⟨some 65548,.bin false .add (.t 65542) (.t 65547),none,[]⟩,⟨some 65550,.bin false .add (.t 65548) (.t 65549),none,[]⟩,⟨some 65551,.bin false .add (.t 65550) (.c (.p (.str [125,10]))),none,[]⟩,⟨some 65552,.mv (.t 65551),none,[]⟩,⟨some 5,.mv (.t 65552),none,[]⟩] [0,1,5,6])) (.seq (.reg [⟨some 120,.bin false .eql (.t 24) (.c (.p (.int .i64 3))),none,[]⟩,⟨some 119,.mv (.t 120),none,[]⟩] [0,1,5,6,7,119]) (.cond (.t 119) (.seq (.seq (.reg [] [0,1,5,6,7]) (.reg [⟨some 65536,.mv (.t 5),none,[]⟩,⟨some 65537,.bin false .add (.t 65536) (.c (.p (.str [105,102,32,40]))),none,[]⟩,⟨some 65538,.fieldAddr 9 (.t 7),none,[]⟩,⟨some 65539,.load 5 true (.t 65538),none,[(.c (.p .nilp))]⟩,⟨some 65543,.fieldAddr 15 (.t 7),none,[]⟩,⟨some 65544,.load 1 false (.t 65543),none,[(.c (.p .nilp))]⟩,⟨some 65545,.mv (.t 1),none,[]⟩,⟨some 65546,.bin false .add (.t 65545) (.c (.p (.str [32,32]))),none,[]⟩,⟨some 65549,.mv (.t 1),none,[]⟩,⟨some 65540,.call (.c (.p (.fn F_r3_formatExpr))) [(.t 65539)],none,[(.t 65543)]⟩,⟨some 65541,.bin false .add (.t 65537) (.t 65540),none,[]⟩,⟨some 65542,.bin false .add (.t 65541) (.c (.p (.str [41,32,123,10]))),none,[]⟩,⟨some 65547,.call (.c (.p (.fn F_r3_formatStmts))) [(.t 65544),(.t 65546)],none,[]⟩,⟨some 65548,.bin false .add (.t 65542) (.t 65547),none,[]⟩,⟨some 65550,.bin false .add (.t 65548) (.t 65549),none,[]⟩,⟨some 65551,.bin false .add (.t 65550) (.c (.p (.str [125]))),none,[]⟩,⟨some 65552,.mv (.t 65551),none,[]⟩,⟨some 5,.mv (.t 65552),none,[]⟩] [0,1,5,6,7])) (.seq (.seq (.reg [⟨some 137,.fieldAddr 16 (.t 7),none,[]⟩,⟨some 138,.load 1 false (.t 137),none,[]⟩,⟨some 139,.len false (.t 138),none,[]⟩,⟨some 140,.bin false .gtr (.t 139) (.c (.p (.int .i64 0))),none,[]⟩] [0,1,5,6,7,140]) (.cond (.t 140) (.reg [⟨some 141,.mv (.t 5),none,[]⟩,⟨some 142,.bin false .add (.t 141) (.c (.p (.str [32,101,108,115,101,32,123,10]))),none,[]⟩,⟨some 143,.fieldAddr 16 (.t 7),none,[]⟩,⟨some 144,.load 1 false (.t 143),none,[]⟩,⟨some 145,.mv (.t 1),none,[]⟩,⟨some 146,.bin false .add (.t 145) (.c (.p (.str [32,32]))),none,[]⟩,⟨some 147,.call (.c (.p (.fn F_r3_formatStmts))) [(.t 144),(.t 146)],none,[]⟩,⟨some 148,.bin false .add (.t 142) (.t 147),none,[]⟩,⟨some 149,.mv (.t 1),none,[]⟩,⟨some 150,.bin false .add (.t 148) (.t 149),none,[]⟩,⟨some 151,.bin false .add (.t 150) (.c (.p (.str [125]))),none,[]⟩,⟨some 5,.mv (.t 151),none,[]⟩] [0,1,5,6]) (.skip))) (.reg [⟨some 152,.mv (.t 5),none,[]⟩,⟨some 153,.bin false .add (.t 152) (.c (.p (.str [10]))),none,[]⟩,⟨some 5,.mv (.t 153),none,[]⟩] [0,1,5,6]))) (.seq (.reg [⟨some 8,.mv (.c (.p .nils)),none,[]⟩] [0,1,5,6,7,8]) (.seq (.seq (.reg [⟨some 9,.mv (.c (.p (.int .i64 0))),none,[]⟩] [0,1,5,6,7,8,9]) (.block 3 (.loop [(8,1)] [0,1,5,6,7,8,9] (lb_r3_formatStmts_0)))) (.seq (.reg [] [0,1,5,6,7,8]) (.reg [⟨some 65536,.mv (.t 5),none,[]⟩,⟨some 65537,.fieldAddr 1 (.t 7),none,[]⟩,⟨some 65538,.load 1 false (.t 65537),none,[(.c (.p .nilp))]⟩,⟨some 65539,.bin false .add (.t 65536) (.t 65538),none,[]⟩,⟨some 65540,.bin false .add (.t 65539) (.c (.p (.str [32,61,32]))),none,[]⟩,⟨some 65541,.fieldAddr 2 (.t 7),none,[]⟩,⟨some 65542,.load 1 false (.t 65541),none,[(.c (.p .nilp))]⟩,⟨some 65543,.bin false .add (.t 65540) (.t 65542),none,[]⟩,⟨some 65544,.bin false .add (.t 65543) (.c (.p (.str [40]))),none,[]⟩,⟨some 65545,.mv (.t 8),none,[]⟩,⟨some 65546,.call (.c (.p (.fn F_r3_join))) [(.t 65545)],none,[(.t 65541),(.t 65537)]⟩,⟨some 65547,.bin false .add (.t 65544) (.t 65546),none,[]⟩,⟨some 65548,.bin false .add (.t 65547) (.c (.p (.str [41,59,10]))),none,[]⟩,⟨some 65549,.mv (.t 65548),none,[]⟩,⟨some 5,.mv (.t 65549),none,[]⟩] [0,1,5,6]))))))))))))))))))))) (.reg [⟨some 14,.mv (.t 6),none,[]⟩,⟨some 15,.bin false .add (.t 14) (.c (.p (.int .i64 1))),none,[]⟩,⟨some 6,.mv (.t 15),none,[]⟩] [0,1,5,6]))
def sf_r3_formatStmts : SF := ⟨.seq (.reg [⟨some 4,.mv (.c (.p (.str []))),none,[]⟩] [0,1]) (.seq (.reg [⟨some 5,.mv (.c (.p (.str []))),none,[]⟩] [0,1,5]) (.seq (.seq (.reg [⟨some 6,.mv (.c (.p (.int .i64 0))),none,[]⟩] [0,1,5,6]) (.block 0 (.loop [] [0,1,5,6] (lb_r3_formatStmts_1)))) (.seq (.reg [⟨some 154,.mv (.t 5),none,[]⟩,⟨some 4,.mv (.t 154),none,[]⟩] [4]) (.ret)))),[.tmp 4],155,⟨fun _ => false,false⟩,none⟩
def sf_r3_formatExpr : SF := ⟨.seq (.reg [⟨some 1,.box 5 (.t 0),none,[]⟩,⟨some 2,.mv (.c (.p (.str []))),none,[]⟩] [1]) (.seq (.block 0 (.seq (.reg [⟨some 4,.fieldAddr 0 (.t 1),none,[]⟩,⟨some 5,.load 1 false (.t 4),none,[]⟩,⟨some 6,.bin false .eql (.t 5) (.c (.p (.int .i64 1))),none,[]⟩,⟨some 3,.mv (.t 6),none,[]⟩] [1,3]) (.cond (.t 3) (.seq (.reg [⟨some 7,.fieldAddr 1 (.t 1),none,[]⟩,⟨some 8,.load 1 false (.t 7),none,[]⟩,⟨some 9,.call (.c (.p (.fn F_r1_Text))) [(.t 8)],none,[]⟩,⟨some 2,.mv (.t 9),none,[]⟩] [2]) (.ret)) (.seq (.reg [⟨some 11,.fieldAddr 0 (.t 1),none,[]⟩,⟨some 12,.load 1 false (.t 11),none,[]⟩,⟨some 13,.bin false .eql (.t 12) (.c (.p (.int .i64 2))),none,[]⟩,⟨some 10,.mv (.t 13),none,[]⟩] [1,10]) (.cond (.t 10) (.seq (.reg [⟨some 14,.fieldAddr 2 (.t 1),none,[]⟩,⟨some 15,.load 1 false (.t 14),none,[]⟩,⟨some 2,.mv (.t 15),none,[]⟩] [2]) (.ret)) (.seq (.reg [⟨some 17,.fieldAddr 0 (.t 1),none,[]⟩,⟨some 18,.load 1 false (.t 17),none,[]⟩,⟨some 19,.bin false .eql (.t 18) (.c (.p (.int .i64 3))),none,[]⟩,⟨some 16,.mv (.t 19),none,[]⟩] [1,16]) (.cond (.t 16) (.seq (.seq (.reg [] [1]) (.reg [⟨some 65536,.fieldAddr 2 (.t 1),none,[]⟩,⟨some 65537,.load 1 false (.t 65536),none,[(.c (.p .nilp))]⟩,⟨some 65538,.bin false .add (.t 65537) (.c (.p (.str [91]))),none,[]⟩,⟨some 65539,.fieldAddr 4 (.t 1),none,[]⟩,⟨some 65540,.load 1 false (.t 65539),none,[(.c (.p .nilp))]⟩,⟨some 65541,.idxS 5 (.t 65540) (.c (.p (.int .i64 0))),none,[]⟩,⟨some 65542,.load 5 true (.t 65541),none,[(.c (.p .nilp))]⟩,⟨some 65543,.call (.c (.p (.fn F_r3_formatExpr))) [(.t 65542)],none,[(.t 65536)]⟩,⟨some 65544,.bin false .add (.t 65538) (.t 65543),none,[]⟩,⟨some 65545,.bin false .add (.t 65544) (.c (.p (.str [93]))),none,[]⟩,⟨some 65546,.mv (.t 65545),none,[]⟩,⟨some 2,.mv (.t 65546),none,[]⟩] [2])) (.ret)) (.seq (.reg [⟨some 31,.fieldAddr 0 (.t 1),none,[]⟩,⟨some 32,.load 1 false (.t 31),none,[]⟩,⟨some 33,.bin false .eql (.t 32) (.c (.p (.int .i64 5))),none,[]⟩,⟨some 30,.mv (.t 33),none,[]⟩] [1,30]) (.cond (.t 30) (.seq (.seq (.reg [] [1]) (.reg [⟨some 65536,.fieldAddr 4 (.t 1),none,[]⟩,⟨some 65537,.load 1 false (.t 65536),none,[(.c (.p .nilp))]⟩,⟨some 65538,.idxS 5 (.t 65537) (.c (.p (.int .i64 0))),none,[]⟩,⟨some 65539,.load 5 true (.t 65538),none,[(.c (.p .nilp))]⟩,⟨some 65542,.fieldAddr 4 (.t 1),none,[]⟩,⟨some 65543,.load 1 false (.t 65542),none,[(.c (.p .nilp))]⟩,⟨some 65544,.idxS 5 (.t 65543) (.c (.p (.int .i64 1))),none,[]⟩,⟨some 65545,.load 5 true (.t 65544),none,[(.c (.p .nilp))]⟩,⟨some 65549,.fieldAddr 4 (.t 1),none,[]⟩,⟨some 65550,.load 1 false (.t 65549),none,[(.c (.p .nilp))]⟩,⟨some 65551,.idxS 5 (.t 65550) (.c (.p (.int .i64 2))),none,[]⟩,⟨some 65552,.load 5 true (.t 65551),none,[(.c (.p .nilp))]⟩,⟨some 65540,.call (.c (.p (.fn F_r3_formatOperand))) [(.t 65539),(.c (.p (.bool false)))],none,[(.t 65551),(.t 65549),(.t 65544),(.t 65542)]⟩,⟨some 65541,.bin false .add (.t 65540) (.c (.p (.str [32,63,32]))),none,[]⟩,⟨some 65546,.call (.c (.p (.fn F_r3_formatOperand))) [(.t 65545),(.c (.p (.bool false)))],none,[(.t 65551),(.t 65549)]⟩,⟨some 65547,.bin false .add (.t 65541) (.t 65546),none,[]⟩,⟨some 65548,.bin false .add (.t 65547) (.c (.p (.str [32,58,32]))),none,[]⟩,⟨some 65553,.call (.c (.p (.fn F_r3_formatOperand))) [(.t 65552),(.c (.p (.bool false)))],none,[]⟩,⟨some 65554,.bin false .add (.t 65548) (.t 65553),none,[]⟩,⟨some 65555,.mv (.t 65554),none,[]⟩,⟨some 2,.mv (.t 65555),none,[]⟩] [2])) (.ret)) (.seq (.reg [⟨some 54,.fieldAddr 3 (.t 1),none,[]⟩,⟨some 55,.load 1 false (.t 54),none,[]⟩,⟨some 56,.bin false .eql (.t 55) (.c (.p (.int .i64 20))),none,[]⟩,⟨some 53,.mv (.t 56),none,[]⟩] [1,53]) (.cond (.t 53) (.seq (.reg [⟨some 57,.fieldAddr 4 (.t 1),none,[]⟩,⟨some 58,.load 1 false (.t 57),none,[]⟩,⟨some 59,.idxS 5 (.t 58) (.c (.p (.int .i64 0))),none,[]⟩,⟨some 60,.load 5 true (.t 59),none,[]⟩,⟨some 61,.call (.c (.p (.fn F_r3_formatOperand))) [(.t 60),(.c (.p (.bool true)))],none,[]⟩,⟨some 62,.bin false .add (.c (.p (.str [45]))) (.t 61),none,[]⟩,⟨some 2,.mv (.t 62),none,[]⟩] [2]) (.ret)) (.seq (.reg [⟨some 64,.fieldAddr 3 (.t 1),none,[]⟩,⟨some 65,.load 1 false (.t 64),none,[]⟩,⟨some 66,.bin false .eql (.t 65) (.c (.p (.int .i64 21))),none,[]⟩,⟨some 63,.mv (.t 66),none,[]⟩] [1,63]) (.cond (.t 63) (.seq (.reg [⟨some 67,.fieldAddr 4 (.t 1),none,[]⟩,⟨some 68,.load 1 false (.t 67),none,[]⟩,⟨some 69,.idxS 5 (.t 68) (.c (.p (.int .i64 0))),none,[]⟩,⟨some 70,.load 5 true (.t 69),none,[]⟩,⟨some 71,.call (.c (.p (.fn F_r3_formatOperand))) [(.t 70),(.c (.p (.bool false)))],none,[]⟩,⟨some 72,.bin false .add (.c (.p (.str [126]))) (.t 71),none,[]⟩,⟨some 2,.mv (.t 72),none,[]⟩] [2]) (.ret)) (.skip)))))))))))))) (.seq (.seq (.reg [] [1]) (.reg [⟨some 65536,.fieldAddr 4 (.t 1),none,[]⟩,⟨some 65537,.load 1 false (.t 65536),none,[(.c (.p .nilp))]⟩,⟨some 65538,.idxS 5 (.t 65537) (.c (.p (.int .i64 0))),none,[]⟩,⟨some 65539,.load 5 true (.t 65538),none,[(.c (.p .nilp))]⟩,⟨some 65542,.fieldAddr 3 (.t 1),none,[]⟩,⟨some 65543,.load 1 false (.t 65542),none,[(.c (.p .nilp))]⟩,⟨some 65547,.fieldAddr 4 (.t 1),none,[]⟩,⟨some 65548,.load 1 false (.t 65547),none,[(.c (.p .nilp))]⟩,⟨some 65549,.idxS 5 (.t 65548) (.c (.p (.int .i64 1))),none,[]⟩,⟨some 65550,.load 5 true (.t 65549),none,[(.c (.p .nilp))]⟩,⟨some 65540,.call (.c (.p (.fn F_r3_formatOperand))) [(.t 65539),(.c (.p (.bool false)))],none,[(.t 65549),(.t 65547),(.t 65542)]⟩,⟨some 65541,.bin false .add (.t 65540) (.c (.p (.str [32]))),none,[]⟩,⟨some 65544,.call (.c (.p (.fn F_r3_operatorText))) [(.t 65543)],none,[(.t 65549),(.t 65547)]⟩,⟨some 65545,.bin false .add (.t 65541) (.t 65544),none,[]⟩,⟨some 65546,.bin false .add (.t 65545) (.c (.p (.str [32]))),none,[]⟩,⟨some 65551,.call (.c (.p (.fn F_r3_formatOperand))) [(.t 65550),(.c (.p (.bool false)))],none,[]⟩,⟨some 65552,.bin false .add (.t 65546) (.t 65551),none,[]⟩,⟨some 65553,.mv (.t 65552),none,[]⟩,⟨some 2,.mv (.t 65553),none,[]⟩] [2])) (.ret))),[.tmp 2],90,⟨fun _ => false,false⟩,none⟩
def sf_kp_Reader_Next : SF := ⟨.seq (.reg [⟨some 2,.mv (.c (.p (.int .i64 0))),none,[]⟩] [0]) (.seq (.seq (.reg [⟨some 4,.mv (.t 0),none,[]⟩,⟨some 5,.nilCheck (.t 4),none,[]⟩,⟨some 6,.fieldAddr 0 (.t 5),none,[]⟩,⟨some 7,.load 1 false (.t 6),none,[]⟩,⟨some 8,.len false (.t 7),none,[]⟩,⟨some 9,.bin false .eql (.t 8) (.c (.p (.int .i64 0))),none,[]⟩] [0,9]) (.cond (.t 9) (.seq (.reg [⟨some 2,.mv (.c (.p (.int .i64 0))),none,[]⟩] [2]) (.ret)) (.skip))) (.seq (.reg [⟨some 10,.mv (.t 0),none,[]⟩,⟨some 11,.nilCheck (.t 10),none,[]⟩,⟨some 12,.fieldAddr 0 (.t 11),none,[]⟩,⟨some 13,.load 1 false (.t 12),none,[]⟩,⟨some 14,.idxS 1 (.t 13) (.c (.p (.int .i64 0))),none,[]⟩,⟨some 15,.load 1 false (.t 14),none,[]⟩,⟨some 3,.mv (.t 15),none,[]⟩] [0,3]) (.seq (.reg [⟨some 16,.mv (.t 0),none,[]⟩,⟨some 17,.mv (.t 0),none,[]⟩,⟨some 18,.nilCheck (.t 17),none,[]⟩,⟨some 19,.fieldAddr 0 (.t 18),none,[]⟩,⟨some 20,.load 1 false (.t 19),none,[]⟩,⟨some 21,.slc 1 (.t 20) (some (.c (.p (.int .i64 1)))) none,none,[]⟩,⟨some 22,.nilCheck (.t 16),none,[]⟩,⟨some 23,.fieldAddr 0 (.t 22),none,[]⟩,⟨none,.store 1 (.t 23) (.t 21),none,[]⟩] [3]) (.seq (.reg [⟨some 24,.mv (.t 3),none,[]⟩,⟨some 2,.mv (.t 24),none,[]⟩] [2]) (.ret))))),[.tmp 2],25,⟨fun _ => false,false⟩,none⟩
def lb_kp_Reader_Stmts_0 : SC := .seq (.seq (.reg [⟨some 16,.mv (.t 10),none,[]⟩,⟨some 17,.bin false .gtr (.t 16) (.c (.p (.int .i64 0))),none,[]⟩,⟨some 18,.mv (.t 17),none,[]⟩,⟨some 19,.mv (.t 0),(some (18,true)),[]⟩,⟨some 20,.nilCheck (.t 19),(some (18,true)),[]⟩,⟨some 21,.fieldAddr 0 (.t 20),(some (18,true)),[]⟩,⟨some 22,.load 1 false (.t 21),(some (18,true)),[]⟩,⟨some 23,.len false (.t 22),(some (18,true)),[]⟩,⟨some 24,.bin false .gtr (.t 23) (.c (.p (.int .i64 0))),(some (18,true)),[]⟩,⟨some 25,.pick (.t 18) (.t 24) (.c (.p (.bool false))),none,[]⟩] [0,1,2,9,10,25]) (.cond (.t 25) (.skip) (.exit 0))) (.seq (.block 1 (.reg [⟨some 28,.mv (.t 9),none,[]⟩,⟨some 29,.mv (.t 0),none,[]⟩,⟨some 30,.mv (.t 1),none,[]⟩,⟨some 31,.mv (.t 2),none,[]⟩,⟨some 32,.call (.c (.p (.fn F_kp_Reader_Stmt))) [(.t 29),(.t 30),(.t 31)],none,[]⟩,⟨some 33,.row 33 17 1 [(.int .i64 0),(.str []),(.str []),(.int .i64 0),(.int .i64 0),(.int .i64 0),(.str []),(.int .i64 0),.nils,(.int .i64 0),(.int .i64 0),(.str []),(.int .i64 0),.nils,.nils,.nils,.nils] [(0,17,(.t 32))],none,[]⟩,⟨some 34,.app 17 (.t 28) (.t 33),none,[]⟩,⟨some 9,.mv (.t 34),none,[]⟩] [0,1,2,9,10])) (.reg [⟨some 26,.mv (.t 10),none,[]⟩,⟨some 27,.bin false .sub (.t 26) (.c (.p (.int .i64 1))),none,[]⟩,⟨some 10,.mv (.t 27),none,[]⟩] [0,1,2,9,10]))
def sf_kp_Reader_Stmts : SF := ⟨.seq (.reg [⟨some 8,.mv (.c (.p .nils)),none,[]⟩] [0,1,2,3]) (.seq (.reg [⟨some 9,.mv (.c (.p .nils)),none,[]⟩] [0,1,2,3,9]) (.seq (.seq (.reg [⟨some 11,.mv (.t 0),none,[]⟩,⟨some 12,.call (.c (.p (.fn F_kp_Reader_Next))) [(.t 11)],none,[]⟩,⟨some 13,.mv (.t 3),none,[]⟩,⟨some 14,.bin false .add (.t 13) (.c (.p (.int .i64 1))),none,[]⟩,⟨some 15,.call (.c (.p (.fn F_kp_Pick))) [(.t 12),(.t 14)],none,[]⟩,⟨some 10,.mv (.t 15),none,[]⟩] [0,1,2,9,10]) (.block 0 (.loop [(9,17)] [0,1,2,9,10] (lb_kp_Reader_Stmts_0)))) (.seq (.reg [⟨some 35,.mv (.t 9),none,[]⟩,⟨some 8,.mv (.t 35),none,[]⟩] [8]) (.ret)))),[.tmp 8],36,⟨fun _ => false,false⟩,none⟩
def sf_kp_Reader_Expr : SF := ⟨.seq (.reg [⟨some 6,.alloc [(.int .i64 0),(.int .i64 0),(.str []),(.int .i64 0),.nils],none,[]⟩] [0,1,2,6]) (.seq (.reg [⟨some 11,.mv (.t 0),none,[]⟩,⟨some 12,.call (.c (.p (.fn F_kp_Reader_Next))) [(.t 11)],none,[]⟩,⟨some 7,.mv (.t 12),none,[]⟩] [0,1,2,6,7]) (.seq (.reg [⟨some 13,.mv (.t 1),none,[]⟩,⟨some 14,.call (.c (.p (.fn F_kp_names))) [(.t 13)],none,[]⟩,⟨some 8,.mv (.t 14),none,[]⟩] [0,1,2,6,7,8]) (.seq (.reg [⟨some 15,.mv (.t 7),none,[]⟩,⟨some 16,.call (.c (.p (.fn F_kp_Pick))) [(.t 15),(.c (.p (.int .i64 16)))],none,[]⟩,⟨some 9,.mv (.t 16),none,[]⟩] [0,1,2,6,7,8,9]) (.seq (.reg [⟨some 17,.mv (.t 7),none,[]⟩,⟨some 18,.bin false .quo (.t 17) (.c (.p (.int .i64 16))),none,[]⟩,⟨some 19,.call (.c (.p (.fn F_kp_Pick))) [(.t 18),(.c (.p (.int .i64 1000)))],none,[]⟩,⟨some 10,.mv (.t 19),none,[]⟩] [0,1,2,6,7,8,9,10]) (.seq (.block 0 (.seq (.reg [⟨some 21,.mv (.t 9),none,[]⟩,⟨some 22,.bin false .lss (.t 21) (.c (.p (.int .i64 4))),none,[]⟩,⟨some 23,.mv (.t 22),none,[]⟩,⟨some 24,.mv (.t 2),(some (23,false)),[]⟩,⟨some 25,.bin false .gtr (.t 24) (.c (.p (.int .i64 3))),(some (23,false)),[]⟩,⟨some 26,.pick (.t 23) (.c (.p (.bool true))) (.t 25),none,[]⟩,⟨some 20,.mv (.t 26),none,[]⟩] [0,1,2,6,7,8,9,10,20]) (.cond (.t 20) (.seq (.seq (.reg [⟨some 27,.mv (.t 9),none,[]⟩,⟨some 28,.bin false .rem (.t 27) (.c (.p (.int .i64 2))),none,[]⟩,⟨some 29,.bin false .eql (.t 28) (.c (.p (.int .i64 0))),none,[]⟩,⟨some 30,.mv (.t 29),none,[]⟩,⟨some 31,.mv (.t 2),(some (30,false)),[]⟩,⟨some 32,.bin false .gtr (.t 31) (.c (.p (.int .i64 3))),(some (30,false)),[]⟩,⟨some 33,.mv (.t 32),(some (30,false)),[]⟩,⟨some 34,.mv (.t 9),(some (33,true)),[]⟩,⟨some 35,.bin false .gtr (.t 34) (.c (.p (.int .i64 8))),(some (33,true)),[]⟩,⟨some 36,.pick (.t 33) (.t 35) (.c (.p (.bool false))),(some (30,false)),[]⟩,⟨some 37,.pick (.t 30) (.c (.p (.bool true))) (.t 36),none,[]⟩] [6,7,8,10,37]) (.cond (.t 37) (.seq (.reg [⟨some 38,.mv (.t 8),none,[]⟩,⟨some 39,.mv (.t 10),none,[]⟩,⟨some 40,.mv (.t 8),none,[]⟩,⟨some 41,.len false (.t 40),none,[]⟩,⟨some 42,.bin false .rem (.t 39) (.t 41),none,[]⟩,⟨some 43,.idxS 1 (.t 38) (.t 42),none,[]⟩,⟨some 44,.load 1 false (.t 43),none,[]⟩,⟨some 45,.build [(.int .i64 0),(.int .i64 0),(.str []),(.int .i64 0),.nils] [(0,1,(.c (.p (.int .i64 2)))),(2,1,(.t 44))],none,[]⟩,⟨none,.store 5 (.t 6) (.t 45),none,[]⟩] [6]) (.ret)) (.skip))) (.seq (.reg [⟨some 46,.mv (.t 10),none,[]⟩,⟨some 47,.mv (.t 7),none,[]⟩,⟨some 48,.call (.c (.p (.fn F_kp_Word))) [(.t 46),(.t 47)],none,[]⟩,⟨some 49,.build [(.int .i64 0),(.int .i64 0),(.str []),(.int .i64 0),.nils] [(0,1,(.c (.p (.int .i64 1)))),(1,1,(.t 48))],none,[]⟩,⟨none,.store 5 (.t 6) (.t 49),none,[]⟩] [6]) (.ret))) (.seq (.reg [⟨some 51,.mv (.t 9),none,[]⟩,⟨some 52,.bin false .lss (.t 51) (.c (.p (.int .i64 6))),none,[]⟩,⟨some 50,.mv (.t 52),none,[]⟩] [0,1,2,6,9,10,50]) (.cond (.t 50) (.seq (.seq (.reg [] [0,1,2,6,10]) (.reg [⟨some 65536,.row 53 1 2 [(.str [])] [(0,1,(.c (.p (.str [97])))),(1,1,(.c (.p (.str [98]))))],none,[]⟩,⟨some 65537,.mv (.t 10),none,[]⟩,⟨some 65538,.bin false .rem (.t 65537) (.c (.p (.int .i64 2))),none,[]⟩,⟨some 65539,.idxS 1 (.t 65536) (.t 65538),none,[]⟩,⟨some 65540,.load 1 false (.t 65539),none,[(.c (.p .nilp))]⟩,⟨some 65541,.mv (.t 0),none,[]⟩,⟨some 65542,.mv (.t 1),none,[]⟩,⟨some 65543,.mv (.t 2),none,[]⟩,⟨some 65544,.bin false .add (.t 65543) (.c (.p (.int .i64 1))),none,[]⟩,⟨some 65545,.call (.c (.p (.fn F_kp_Reader_Expr))) [(.t 65541),(.t 65542),(.t 65544)],none,[(.t 65539)]⟩,⟨some 65546,.row 63 5 1 [(.int .i64 0),(.int .i64 0),(.str []),(.int .i64 0),.nils] [(0,5,(.t 65545))],none,[]⟩,⟨some 65547,.build [(.int .i64 0),(.int .i64 0),(.str []),(.int .i64 0),.nils] [(0,1,(.c (.p (.int .i64 3)))),(2,1,(.t 65540)),(4,1,(.t 65546))],none,[]⟩,⟨some 65548,.store 5 (.t 6) (.t 65547),none,[]⟩] [6])) (.ret)) (.seq (.reg [⟨some 66,.mv (.t 9),none,[]⟩,⟨some 67,.bin false .lss (.t 66) (.c (.p (.int .i64 7))),none,[]⟩,⟨some 65,.mv (.t 67),none,[]⟩] [0,1,2,6,9,10,65]) (.cond (.t 65) (.seq (.reg [⟨some 68,.mv (.t 0),none,[]⟩,⟨some 69,.mv (.t 1),none,[]⟩,⟨some 70,.mv (.t 2),none,[]⟩,⟨some 71,.bin false .add (.t 70) (.c (.p (.int .i64 1))),none,[]⟩,⟨some 72,.call (.c (.p (.fn F_kp_Reader_Expr))) [(.t 68),(.t 69),(.t 71)],none,[]⟩,⟨some 73,.mv (.t 0),none,[]⟩,⟨some 74,.mv (.t 1),none,[]⟩,⟨some 75,.mv (.t 2),none,[]⟩,⟨some 76,.bin false .add (.t 75) (.c (.p (.int .i64 1))),none,[]⟩,⟨some 77,.call (.c (.p (.fn F_kp_Reader_Expr))) [(.t 73),(.t 74),(.t 76)],none,[]⟩,⟨some 78,.mv (.t 0),none,[]⟩,⟨some 79,.mv (.t 1),none,[]⟩,⟨some 80,.mv (.t 2),none,[]⟩,⟨some 81,.bin false .add (.t 80) (.c (.p (.int .i64 1))),none,[]⟩,⟨some 82,.call (.c (.p (.fn F_kp_Reader_Expr))) [(.t 78),(.t 79),(.t 81)],none,[]⟩,⟨some 83,.row 83 5 3 [(.int .i64 0),(.int .i64 0),(.str []),(.int .i64 0),.nils] [(0,5,(.t 72)),(5,5,(.t 77)),(10,5,(.t 82))],none,[]⟩,⟨some 84,.build [(.int .i64 0),(.int .i64 0),(.str []),(.int .i64 0),.nils] [(0,1,(.c (.p (.int .i64 5)))),(4,1,(.t 83))],none,[]⟩,⟨none,.store 5 (.t 6) (.t 84),none,[]⟩] [6]) (.ret)) (.seq (.reg [⟨some 86,.mv (.t 9),none,[]⟩,⟨some 87,.bin false .lss (.t 86) (.c (.p (.int .i64 9))),none,[]⟩,⟨some 85,.mv (.t 87),none,[]⟩] [0,1,2,6,10,85]) (.cond (.t 85) (.seq (.seq (.reg [] [0,1,2,6,10]) (.reg [⟨some 65536,.row 88 1 2 [(.int .i64 0)] [(0,1,(.c (.p (.int .i64 20)))),(1,1,(.c (.p (.int .i64 21))))],none,[]⟩,⟨some 65537,.mv (.t 10),none,[]⟩,⟨some 65538,.bin false .rem (.t 65537) (.c (.p (.int .i64 2))),none,[]⟩,⟨some 65539,.idxS 1 (.t 65536) (.t 65538),none,[]⟩,⟨some 65540,.load 1 false (.t 65539),none,[(.c (.p .nilp))]⟩,⟨some 65541,.mv (.t 0),none,[]⟩,⟨some 65542,.mv (.t 1),none,[]⟩,⟨some 65543,.mv (.t 2),none,[]⟩,⟨some 65544,.bin false .add (.t 65543) (.c (.p (.int .i64 1))),none,[]⟩,⟨some 65545,.call (.c (.p (.fn F_kp_Reader_Expr))) [(.t 65541),(.t 65542),(.t 65544)],none,[(.t 65539)]⟩,⟨some 65546,.row 98 5 1 [(.int .i64 0),(.int .i64 0),(.str []),(.int .i64 0),.nils] [(0,5,(.t 65545))],none,[]⟩,⟨some 65547,.build [(.int .i64 0),(.int .i64 0),(.str []),(.int .i64 0),.nils] [(0,1,(.c (.p (.int .i64 4)))),(3,1,(.t 65540)),(4,1,(.t 65546))],none,[]⟩,⟨some 65548,.store 5 (.t 6) (.t 65547),none,[]⟩] [6])) (.ret)) (.skip)))))))))) (.seq (.reg [⟨some 100,.mv (.t 10),none,[]⟩,⟨some 101,.bin false .rem (.t 100) (.c (.p (.int .i64 15))),none,[]⟩,⟨some 102,.bin false .add (.c (.p (.int .i64 4))) (.t 101),none,[]⟩,⟨some 103,.mv (.t 0),none,[]⟩,⟨some 104,.mv (.t 1),none,[]⟩,⟨some 105,.mv (.t 2),none,[]⟩,⟨some 106,.bin false .add (.t 105) (.c (.p (.int .i64 1))),none,[]⟩,⟨some 107,.call (.c (.p (.fn F_kp_Reader_Expr))) [(.t 103),(.t 104),(.t 106)],none,[]⟩,⟨some 108,.mv (.t 0),none,[]⟩,⟨some 109,.mv (.t 1),none,[]⟩,⟨some 110,.mv (.t 2),none,[]⟩,⟨some 111,.bin false .add (.t 110) (.c (.p (.int .i64 1))),none,[]⟩,⟨some 112,.call (.c (.p (.fn F_kp_Reader_Expr))) [(.t 108),(.t 109),(.t 111)],none,[]⟩,⟨some 113,.row 113 5 2 [(.int .i64 0),(.int .i64 0),(.str []),(.int .i64 0),.nils] [(0,5,(.t 107)),(5,5,(.t 112))],none,[]⟩,⟨some 114,.build [(.int .i64 0),(.int .i64 0),(.str []),(.int .i64 0),.nils] [(0,1,(.c (.p (.int .i64 4)))),(3,1,(.t 102)),(4,1,(.t 113))],none,[]⟩,⟨none,.store 5 (.t 6) (.t 114),none,[]⟩] [6]) (.ret))))))),[.cell 6 5 true],115,⟨fun _ => false,false⟩,none⟩
def lb_r3_exceedsLimits_0 : SC := .seq (.seq (.reg [⟨some 19,.mv (.t 3),none,[]⟩,⟨some 20,.fieldAddr 0 (.t 1),none,[]⟩,⟨some 21,.load 1 false (.t 20),none,[]⟩,⟨some 22,.len false (.t 21),none,[]⟩,⟨some 23,.bin false .lss (.t 19) (.t 22),none,[]⟩] [1,3,23]) (.cond (.t 23) (.skip) (.exit 0))) (.seq (.block 1 (.seq (.reg [⟨some 26,.fieldAddr 0 (.t 1),none,[]⟩,⟨some 27,.load 1 false (.t 26),none,[]⟩,⟨some 28,.mv (.t 3),none,[]⟩,⟨some 29,.idxS 2 (.t 27) (.t 28),none,[]⟩,⟨some 30,.fieldAddr 1 (.t 29),none,[]⟩,⟨some 31,.load 1 false (.t 30),none,[]⟩,⟨some 32,.bin false .lss (.t 31) (.c (.p (.int .i64 1))),none,[]⟩,⟨some 33,.mv (.t 32),none,[]⟩,⟨some 34,.fieldAddr 0 (.t 1),(some (33,false)),[]⟩,⟨some 35,.load 1 false (.t 34),(some (33,false)),[]⟩,⟨some 36,.mv (.t 3),(some (33,false)),[]⟩,⟨some 37,.idxS 2 (.t 35) (.t 36),(some (33,false)),[]⟩,⟨some 38,.fieldAddr 1 (.t 37),(some (33,false)),[]⟩,⟨some 39,.load 1 false (.t 38),(some (33,false)),[]⟩,⟨some 40,.bin false .gtr (.t 39) (.c (.p (.int .i64 16))),(some (33,false)),[]⟩,⟨some 41,.pick (.t 33) (.c (.p (.bool true))) (.t 40),none,[]⟩] [1,3,41]) (.cond (.t 41) (.seq (.reg [⟨some 2,.mv (.c (.p (.bool true))),none,[]⟩] [2]) (.ret)) (.skip)))) (.reg [⟨some 24,.mv (.t 3),none,[]⟩,⟨some 25,.bin false .add (.t 24) (.c (.p (.int .i64 1))),none,[]⟩,⟨some 3,.mv (.t 25),none,[]⟩] [1,3]))
def lb_r3_exceedsLimits_1 : SC := .seq (.seq (.reg [⟨some 42,.mv (.t 4),none,[]⟩,⟨some 43,.fieldAddr 1 (.t 1),none,[]⟩,⟨some 44,.load 1 false (.t 43),none,[]⟩,⟨some 45,.len false (.t 44),none,[]⟩,⟨some 46,.bin false .lss (.t 42) (.t 45),none,[]⟩] [1,4,46]) (.cond (.t 46) (.skip) (.exit 2))) (.seq (.block 3 (.seq (.reg [⟨some 49,.fieldAddr 1 (.t 1),none,[]⟩,⟨some 50,.load 1 false (.t 49),none,[]⟩,⟨some 51,.mv (.t 4),none,[]⟩,⟨some 52,.idxS 9 (.t 50) (.t 51),none,[]⟩,⟨some 53,.load 9 true (.t 52),none,[]⟩,⟨some 5,.alloc [(.str []),.nils,.nils,.nils,(.int .i64 0),(.int .i64 0),(.str []),(.int .i64 0),.nils],none,[]⟩,⟨none,.store 9 (.t 5) (.t 53),none,[]⟩] [1,4,5]) (.seq (.reg [⟨some 55,.fieldAddr 3 (.t 5),none,[]⟩,⟨some 56,.load 1 false (.t 55),none,[]⟩,⟨some 57,.call (.c (.p (.fn F_r3_countStmts))) [(.t 56),(.c (.p (.int .i64 0)))],none,[]⟩,⟨some 54,.mv (.t 57),none,[]⟩,⟨some 58,.extract (.t 54) 0,none,[]⟩,⟨some 59,.extract (.t 54) 1,none,[]⟩,⟨some 60,.extract (.t 54) 2,none,[]⟩,⟨some 6,.mv (.t 58),none,[]⟩,⟨some 7,.mv (.t 59),none,[]⟩,⟨some 8,.mv (.t 60),none,[]⟩] [1,4,5,6,7,8]) (.seq (.reg [⟨some 61,.fieldAddr 1 (.t 5),none,[]⟩,⟨some 62,.load 1 false (.t 61),none,[]⟩,⟨some 63,.len false (.t 62),none,[]⟩,⟨some 64,.bin false .gtr (.t 63) (.c (.p (.int .i64 6))),none,[]⟩,⟨some 65,.mv (.t 64),none,[]⟩,⟨some 66,.fieldAddr 2 (.t 5),(some (65,false)),[]⟩,⟨some 67,.load 1 false (.t 66),(some (65,false)),[]⟩,⟨some 68,.len false (.t 67),(some (65,false)),[]⟩,⟨some 69,.bin false .gtr (.t 68) (.c (.p (.int .i64 8))),(some (65,false)),[]⟩,⟨some 70,.pick (.t 65) (.c (.p (.bool true))) (.t 69),none,[]⟩,⟨some 71,.mv (.t 70),none,[]⟩,⟨some 72,.mv (.t 6),(some (71,false)),[]⟩,⟨some 73,.bin false .gtr (.t 72) (.c (.p (.int .i64 200))),(some (71,false)),[]⟩,⟨some 74,.pick (.t 71) (.c (.p (.bool true))) (.t 73),none,[]⟩,⟨some 75,.mv (.t 74),none,[]⟩,⟨some 76,.mv (.t 7),(some (75,false)),[]⟩,⟨some 77,.bin false .gtr (.t 76) (.c (.p (.int .i64 16))),(some (75,false)),[]⟩,⟨some 78,.pick (.t 75) (.c (.p (.bool true))) (.t 77),none,[]⟩,⟨some 79,.mv (.t 78),none,[]⟩,⟨some 80,.mv (.t 8),(some (79,false)),[]⟩,⟨some 81,.bin false .gtr (.t 80) (.c (.p (.int .i64 20))),(some (79,false)),[]⟩,⟨some 82,.pick (.t 79) (.c (.p (.bool true))) (.t 81),none,[]⟩,⟨some 83,.mv (.t 82),none,[]⟩,⟨some 84,.fieldAddr 3 (.t 5),(some (83,false)),[]⟩,⟨some 85,.load 1 false (.t 84),(some (83,false)),[]⟩,⟨some 86,.call (.c (.p (.fn F_r3_tooDeep))) [(.t 85)],(some (83,false)),[]⟩,⟨some 87,.pick (.t 83) (.c (.p (.bool true))) (.t 86),none,[]⟩,⟨some 88,.mv (.t 87),none,[]⟩,⟨some 89,.fieldAddr 4 (.t 5),(some (88,false)),[]⟩,⟨some 90,.load 5 true (.t 89),(some (88,false)),[]⟩,⟨some 91,.call (.c (.p (.fn F_r3_depth))) [(.t 90)],(some (88,false)),[]⟩,⟨some 92,.bin false .gtr (.t 91) (.c (.p (.int .i64 20))),(some (88,false)),[]⟩,⟨some 93,.pick (.t 88) (.c (.p (.bool true))) (.t 92),none,[]⟩] [1,4,93]) (.cond (.t 93) (.seq (.reg [⟨some 2,.mv (.c (.p (.bool true))),none,[]⟩] [2]) (.ret)) (.skip)))))) (.reg [⟨some 47,.mv (.t 4),none,[]⟩,⟨some 48,.bin false .add (.t 47) (.c (.p (.int .i64 1))),none,[]⟩,⟨some 4,.mv (.t 48),none,[]⟩] [1,4]))
def sf_r3_exceedsLimits : SF := ⟨.seq (.reg [⟨some 1,.box 2 (.t 0),none,[]⟩,⟨some 2,.mv (.c (.p (.bool false))),none,[]⟩] [1]) (.seq (.seq (.reg [⟨some 9,.fieldAddr 0 (.t 1),none,[]⟩,⟨some 10,.load 1 false (.t 9),none,[]⟩,⟨some 11,.len false (.t 10),none,[]⟩,⟨some 12,.bin false .gtr (.t 11) (.c (.p (.int .i64 4))),none,[]⟩,⟨some 13,.mv (.t 12),none,[]⟩,⟨some 14,.fieldAddr 1 (.t 1),(some (13,false)),[]⟩,⟨some 15,.load 1 false (.t 14),(some (13,false)),[]⟩,⟨some 16,.len false (.t 15),(some (13,false)),[]⟩,⟨some 17,.bin false .gtr (.t 16) (.c (.p (.int .i64 8))),(some (13,false)),[]⟩,⟨some 18,.pick (.t 13) (.c (.p (.bool true))) (.t 17),none,[]⟩] [1,18]) (.cond (.t 18) (.seq (.reg [⟨some 2,.mv (.c (.p (.bool true))),none,[]⟩] [2]) (.ret)) (.skip))) (.seq (.seq (.reg [⟨some 3,.mv (.c (.p (.int .i64 0))),none,[]⟩] [1,3]) (.block 0 (.loop [] [1,3] (lb_r3_exceedsLimits_0)))) (.seq (.seq (.reg [⟨some 4,.mv (.c (.p (.int .i64 0))),none,[]⟩] [1,4]) (.block 2 (.loop [] [1,4] (lb_r3_exceedsLimits_1)))) (.seq (.reg [⟨some 2,.mv (.c (.p (.bool false))),none,[]⟩] [2]) (.ret))))),[.tmp 2],94,⟨fun _ => false,false⟩,none⟩
def lb_r3_wellFormed_0 : SC := .seq (.seq (.reg [⟨some 8,.mv (.t 3),none,[]⟩,⟨some 9,.fieldAddr 0 (.t 1),none,[]⟩,⟨some 10,.load 1 false (.t 9),none,[]⟩,⟨some 11,.len false (.t 10),none,[]⟩,⟨some 12,.bin false .lss (.t 8) (.t 11),none,[]⟩] [1,3,12]) (.cond (.t 12) (.skip) (.exit 0))) (.seq (.block 1 (.seq (.reg [⟨some 15,.fieldAddr 0 (.t 1),none,[]⟩,⟨some 16,.load 1 false (.t 15),none,[]⟩,⟨some 17,.mv (.t 3),none,[]⟩,⟨some 18,.idxS 2 (.t 16) (.t 17),none,[]⟩,⟨some 19,.fieldAddr 0 (.t 18),none,[]⟩,⟨some 20,.load 1 false (.t 19),none,[]⟩,⟨some 21,.call (.c (.p (.fn F_r3_ValidName))) [(.t 20)],none,[]⟩,⟨some 22,.un .not (.t 21),none,[]⟩] [1,3,22]) (.cond (.t 22) (.seq (.reg [⟨some 2,.mv (.c (.p (.bool false))),none,[]⟩] [2]) (.ret)) (.skip)))) (.reg [⟨some 13,.mv (.t 3),none,[]⟩,⟨some 14,.bin false .add (.t 13) (.c (.p (.int .i64 1))),none,[]⟩,⟨some 3,.mv (.t 14),none,[]⟩] [1,3]))
def lb_r3_wellFormed_1 : SC := .seq (.seq (.reg [⟨some 44,.mv (.t 7),none,[]⟩,⟨some 45,.mv (.t 6),none,[]⟩,⟨some 46,.len false (.t 45),none,[]⟩,⟨some 47,.bin false .lss (.t 44) (.t 46),none,[]⟩] [1,4,5,6,7,47]) (.cond (.t 47) (.skip) (.exit 4))) (.seq (.block 5 (.seq (.reg [⟨some 50,.mv (.t 6),none,[]⟩,⟨some 51,.mv (.t 7),none,[]⟩,⟨some 52,.idxS 1 (.t 50) (.t 51),none,[]⟩,⟨some 53,.load 1 false (.t 52),none,[]⟩,⟨some 54,.call (.c (.p (.fn F_r3_ValidName))) [(.t 53)],none,[]⟩,⟨some 55,.un .not (.t 54),none,[]⟩] [1,4,5,6,7,55]) (.cond (.t 55) (.seq (.reg [⟨some 2,.mv (.c (.p (.bool false))),none,[]⟩] [2]) (.ret)) (.skip)))) (.reg [⟨some 48,.mv (.t 7),none,[]⟩,⟨some 49,.bin false .add (.t 48) (.c (.p (.int .i64 1))),none,[]⟩,⟨some 7,.mv (.t 49),none,[]⟩] [1,4,5,6,7]))
def lb_r3_wellFormed_2 : SC := .seq (.seq (.reg [⟨some 23,.mv (.t 4),none,[]⟩,⟨some 24,.fieldAddr 1 (.t 1),none,[]⟩,⟨some 25,.load 1 false (.t 24),none,[]⟩,⟨some 26,.len false (.t 25),none,[]⟩,⟨some 27,.bin false .lss (.t 23) (.t 26),none,[]⟩] [1,4,27]) (.cond (.t 27) (.skip) (.exit 2))) (.seq (.block 3 (.seq (.reg [⟨some 30,.fieldAddr 1 (.t 1),none,[]⟩,⟨some 31,.load 1 false (.t 30),none,[]⟩,⟨some 32,.mv (.t 4),none,[]⟩,⟨some 33,.idxS 9 (.t 31) (.t 32),none,[]⟩,⟨some 34,.load 9 true (.t 33),none,[]⟩,⟨some 5,.alloc [(.str []),.nils,.nils,.nils,(.int .i64 0),(.int .i64 0),(.str []),(.int .i64 0),.nils],none,[]⟩,⟨none,.store 9 (.t 5) (.t 34),none,[]⟩] [1,4,5]) (.seq (.seq (.reg [] [1,4,5]) (.reg [⟨some 65536,.fieldAddr 0 (.t 5),none,[]⟩,⟨some 65537,.load 1 false (.t 65536),none,[(.c (.p .nilp))]⟩,⟨some 65538,.row 37 1 1 [(.str [])] [(0,1,(.t 65537))],none,[]⟩,⟨some 65539,.fieldAddr 1 (.t 5),none,[]⟩,⟨some 65540,.load 1 false (.t 65539),none,[(.c (.p .nilp))]⟩,⟨some 65542,.fieldAddr 2 (.t 5),none,[]⟩,⟨some 65543,.load 1 false (.t 65542),none,[(.c (.p .nilp))]⟩,⟨some 65541,.app 1 (.t 65538) (.t 65540),none,[(.t 65542)]⟩,⟨some 65544,.app 1 (.t 65541) (.t 65543),none,[]⟩,⟨some 65545,.mv (.t 65544),none,[]⟩,⟨some 6,.mv (.t 65545),none,[]⟩] [1,4,5,6])) (.seq (.seq (.reg [⟨some 7,.mv (.c (.p (.int .i64 0))),none,[]⟩] [1,4,5,6,7]) (.block 4 (.loop [] [1,4,5,6,7] (lb_r3_wellFormed_1)))) (.seq (.reg [⟨some 56,.fieldAddr 3 (.t 5),none,[]⟩,⟨some 57,.load 1 false (.t 56),none,[]⟩,⟨some 58,.call (.c (.p (.fn F_r3_wellFormedStmts))) [(.t 57)],none,[]⟩,⟨some 59,.un .not (.t 58),none,[]⟩,⟨some 60,.mv (.t 59),none,[]⟩,⟨some 61,.fieldAddr 4 (.t 5),(some (60,false)),[]⟩,⟨some 62,.load 5 true (.t 61),(some (60,false)),[]⟩,⟨some 63,.call (.c (.p (.fn F_r3_wellFormedExpr))) [(.t 62)],(some (60,false)),[]⟩,⟨some 64,.un .not (.t 63),(some (60,false)),[]⟩,⟨some 65,.pick (.t 60) (.c (.p (.bool true))) (.t 64),none,[]⟩] [1,4,65]) (.cond (.t 65) (.seq (.reg [⟨some 2,.mv (.c (.p (.bool false))),none,[]⟩] [2]) (.ret)) (.skip))))))) (.reg [⟨some 28,.mv (.t 4),none,[]⟩,⟨some 29,.bin false .add (.t 28) (.c (.p (.int .i64 1))),none,[]⟩,⟨some 4,.mv (.t 29),none,[]⟩] [1,4]))
def sf_r3_wellFormed : SF := ⟨.seq (.reg [⟨some 1,.box 2 (.t 0),none,[]⟩,⟨some 2,.mv (.c (.p (.bool false))),none,[]⟩] [1]) (.seq (.seq (.reg [⟨some 3,.mv (.c (.p (.int .i64 0))),none,[]⟩] [1,3]) (.block 0 (.loop [] [1,3] (lb_r3_wellFormed_0)))) (.seq (.seq (.reg [⟨some 4,.mv (.c (.p (.int .i64 0))),none,[]⟩] [1,4]) (.block 2 (.loop [] [1,4] (lb_r3_wellFormed_2)))) (.seq (.reg [⟨some 2,.mv (.c (.p (.bool true))),none,[]⟩] [2]) (.ret)))),[.tmp 2],66,⟨fun _ => false,false⟩,none⟩
def lb_r3_hasDuplicates_0 : SC := .seq (.seq (.reg [⟨some 11,.mv (.t 5),none,[]⟩,⟨some 12,.fieldAddr 0 (.t 1),none,[]⟩,⟨some 13,.load 1 false (.t 12),none,[]⟩,⟨some 14,.len false (.t 13),none,[]⟩,⟨some 15,.bin false .lss (.t 11) (.t 14),none,[]⟩] [1,3,4,5,15]) (.cond (.t 15) (.skip) (.exit 0))) (.seq (.block 1 (.seq (.seq (.reg [⟨some 18,.mv (.t 3),none,[]⟩,⟨some 19,.fieldAddr 0 (.t 1),none,[]⟩,⟨some 20,.load 1 false (.t 19),none,[]⟩,⟨some 21,.mv (.t 5),none,[]⟩,⟨some 22,.idxS 2 (.t 20) (.t 21),none,[]⟩,⟨some 23,.fieldAddr 0 (.t 22),none,[]⟩,⟨some 24,.load 1 false (.t 23),none,[]⟩,⟨some 25,.call (.c (.p (.fn F_r3_contains))) [(.t 18),(.t 24)],none,[]⟩] [1,3,4,5,25]) (.cond (.t 25) (.seq (.reg [⟨some 2,.mv (.c (.p (.bool true))),none,[]⟩] [2]) (.ret)) (.skip))) (.reg [⟨some 26,.mv (.t 3),none,[]⟩,⟨some 27,.fieldAddr 0 (.t 1),none,[]⟩,⟨some 28,.load 1 false (.t 27),none,[]⟩,⟨some 29,.mv (.t 5),none,[]⟩,⟨some 30,.idxS 2 (.t 28) (.t 29),none,[]⟩,⟨some 31,.fieldAddr 0 (.t 30),none,[]⟩,⟨some 32,.load 1 false (.t 31),none,[]⟩,⟨some 33,.row 33 1 1 [(.str [])] [(0,1,(.t 32))],none,[]⟩,⟨some 34,.app 1 (.t 26) (.t 33),none,[]⟩,⟨some 3,.mv (.t 34),none,[]⟩] [1,3,4,5]))) (.reg [⟨some 16,.mv (.t 5),none,[]⟩,⟨some 17,.bin false .add (.t 16) (.c (.p (.int .i64 1))),none,[]⟩,⟨some 5,.mv (.t 17),none,[]⟩] [1,3,4,5]))
def lb_r3_hasDuplicates_1 : SC := .seq (.seq (.reg [⟨some 66,.mv (.t 10),none,[]⟩,⟨some 67,.mv (.t 9),none,[]⟩,⟨some 68,.len false (.t 67),none,[]⟩,⟨some 69,.bin false .lss (.t 66) (.t 68),none,[]⟩] [1,3,4,6,8,9,10,69]) (.cond (.t 69) (.skip) (.exit 4))) (.seq (.block 5 (.seq (.seq (.reg [⟨some 72,.mv (.t 8),none,[]⟩,⟨some 73,.mv (.t 9),none,[]⟩,⟨some 74,.mv (.t 10),none,[]⟩,⟨some 75,.idxS 1 (.t 73) (.t 74),none,[]⟩,⟨some 76,.load 1 false (.t 75),none,[]⟩,⟨some 77,.call (.c (.p (.fn F_r3_contains))) [(.t 72),(.t 76)],none,[]⟩] [1,3,4,6,8,9,10,77]) (.cond (.t 77) (.seq (.reg [⟨some 2,.mv (.c (.p (.bool true))),none,[]⟩] [2]) (.ret)) (.skip))) (.reg [⟨some 78,.mv (.t 8),none,[]⟩,⟨some 79,.mv (.t 9),none,[]⟩,⟨some 80,.mv (.t 10),none,[]⟩,⟨some 81,.idxS 1 (.t 79) (.t 80),none,[]⟩,⟨some 82,.load 1 false (.t 81),none,[]⟩,⟨some 83,.row 83 1 1 [(.str [])] [(0,1,(.t 82))],none,[]⟩,⟨some 84,.app 1 (.t 78) (.t 83),none,[]⟩,⟨some 8,.mv (.t 84),none,[]⟩] [1,3,4,6,8,9,10]))) (.reg [⟨some 70,.mv (.t 10),none,[]⟩,⟨some 71,.bin false .add (.t 70) (.c (.p (.int .i64 1))),none,[]⟩,⟨some 10,.mv (.t 71),none,[]⟩] [1,3,4,6,8,9,10]))
def lb_r3_hasDuplicates_2 : SC := .seq (.seq (.reg [⟨some 35,.mv (.t 6),none,[]⟩,⟨some 36,.fieldAddr 1 (.t 1),none,[]⟩,⟨some 37,.load 1 false (.t 36),none,[]⟩,⟨some 38,.len false (.t 37),none,[]⟩,⟨some 39,.bin false .lss (.t 35) (.t 38),none,[]⟩] [1,3,4,6,39]) (.cond (.t 39) (.skip) (.exit 2))) (.seq (.block 3 (.seq (.reg [⟨some 42,.fieldAddr 1 (.t 1),none,[]⟩,⟨some 43,.load 1 false (.t 42),none,[]⟩,⟨some 44,.mv (.t 6),none,[]⟩,⟨some 45,.idxS 9 (.t 43) (.t 44),none,[]⟩,⟨some 46,.load 9 true (.t 45),none,[]⟩,⟨some 7,.alloc [(.str []),.nils,.nils,.nils,(.int .i64 0),(.int .i64 0),(.str []),(.int .i64 0),.nils],none,[]⟩,⟨none,.store 9 (.t 7) (.t 46),none,[]⟩] [1,3,4,6,7]) (.seq (.seq (.reg [⟨some 47,.mv (.t 4),none,[]⟩,⟨some 48,.fieldAddr 0 (.t 7),none,[]⟩,⟨some 49,.load 1 false (.t 48),none,[]⟩,⟨some 50,.call (.c (.p (.fn F_r3_contains))) [(.t 47),(.t 49)],none,[]⟩] [1,3,4,6,7,50]) (.cond (.t 50) (.seq (.reg [⟨some 2,.mv (.c (.p (.bool true))),none,[]⟩] [2]) (.ret)) (.skip))) (.seq (.reg [⟨some 51,.mv (.t 4),none,[]⟩,⟨some 52,.fieldAddr 0 (.t 7),none,[]⟩,⟨some 53,.load 1 false (.t 52),none,[]⟩,⟨some 54,.row 54 1 1 [(.str [])] [(0,1,(.t 53))],none,[]⟩,⟨some 55,.app 1 (.t 51) (.t 54),none,[]⟩,⟨some 4,.mv (.t 55),none,[]⟩] [1,3,4,6,7]) (.seq (.reg [⟨some 56,.row 56 1 0 [(.str [])] [],none,[]⟩,⟨some 57,.mv (.t 3),none,[]⟩,⟨some 58,.app 1 (.t 56) (.t 57),none,[]⟩,⟨some 8,.mv (.t 58),none,[]⟩] [1,3,4,6,7,8]) (.seq (.seq (.reg [] [1,3,4,6,7,8]) (.reg [⟨some 65536,.row 59 1 0 [(.str [])] [],none,[]⟩,⟨some 65537,.fieldAddr 1 (.t 7),none,[]⟩,⟨some 65538,.load 1 false (.t 65537),none,[(.c (.p .nilp))]⟩,⟨some 65540,.fieldAddr 2 (.t 7),none,[]⟩,⟨some 65541,.load 1 false (.t 65540),none,[(.c (.p .nilp))]⟩,⟨some 65539,.app 1 (.t 65536) (.t 65538),none,[(.t 65540)]⟩,⟨some 65542,.app 1 (.t 65539) (.t 65541),none,[]⟩,⟨some 65543,.mv (.t 65542),none,[]⟩,⟨some 9,.mv (.t 65543),none,[]⟩] [1,3,4,6,8,9])) (.seq (.reg [⟨some 10,.mv (.c (.p (.int .i64 0))),none,[]⟩] [1,3,4,6,8,9,10]) (.block 4 (.loop [(8,1)] [1,3,4,6,8,9,10] (lb_r3_hasDuplicates_1)))))))))) (.reg [⟨some 40,.mv (.t 6),none,[]⟩,⟨some 41,.bin false .add (.t 40) (.c (.p (.int .i64 1))),none,[]⟩,⟨some 6,.mv (.t 41),none,[]⟩] [1,3,4,6]))
def sf_r3_hasDuplicates : SF := ⟨.seq (.reg [⟨some 1,.box 2 (.t 0),none,[]⟩,⟨some 2,.mv (.c (.p (.bool false))),none,[]⟩] [1]) (.seq (.reg [⟨some 3,.mv (.c (.p .nils)),none,[]⟩,⟨some 4,.mv (.c (.p .nils)),none,[]⟩] [1,3,4]) (.seq (.seq (.reg [⟨some 5,.mv (.c (.p (.int .i64 0))),none,[]⟩] [1,3,4,5]) (.block 0 (.loop [(3,1)] [1,3,4,5] (lb_r3_hasDuplicates_0)))) (.seq (.seq (.reg [⟨some 6,.mv (.c (.p (.int .i64 0))),none,[]⟩] [1,3,4,6]) (.block 2 (.loop [(4,1)] [1,3,4,6] (lb_r3_hasDuplicates_2)))) (.seq (.reg [⟨some 2,.mv (.c (.p (.bool false))),none,[]⟩] [2]) (.ret))))),[.tmp 2],85,⟨fun _ => false,false⟩,none⟩
def lb_r3_scope_checkStmts_0 : SC := .seq (.seq (.reg [⟨some 9,.mv (.t 7),none,[]⟩,⟨some 10,.mv (.t 1),none,[]⟩,⟨some 11,.len false (.t 10),none,[]⟩,⟨some 12,.bin false .lss (.t 9) (.t 11),none,[]⟩] [1,2,3,7,12]) (.cond (.t 12) (.skip) (.exit 0))) (.seq (.block 1 (.seq (.reg [⟨some 15,.mv (.t 1),none,[]⟩,⟨some 16,.mv (.t 7),none,[]⟩,⟨some 17,.idxS 17 (.t 15) (.t 16),none,[]⟩,⟨some 18,.load 17 true (.t 17),none,[]⟩,⟨some 8,.alloc [(.int .i64 0),(.str []),(.str []),(.int .i64 0),(.int .i64 0),(.int .i64 0),(.str []),(.int .i64 0),.nils,(.int .i64 0),(.int .i64 0),(.str []),(.int .i64 0),.nils,.nils,.nils,.nils],none,[]⟩,⟨none,.store 17 (.t 8) (.t 18),none,[]⟩] [1,2,3,7,8]) (.seq (.seq (.reg [⟨some 19,.mv (.t 2),none,[]⟩] [1,2,3,7,8,19]) (.cond (.t 19) (.seq (.seq (.reg [] [1,2,3,7,8]) (.reg [⟨some 65536,.fieldAddr 0 (.t 8),none,[]⟩,⟨some 65537,.load 1 false (.t 65536),none,[(.c (.p .nilp))]⟩,⟨some 65538,.bin false .eql (.t 65537) (.c (.p (.int .i64 6))),none,[]⟩,⟨some 65539,.mv (.t 65538),none,[]⟩,⟨some 65540,.fieldAddr 14 (.t 8),(some (65539,true)),[]⟩,⟨some 65541,.load 1 false (.t 65540),(some (65539,true)),[(.c (.p .nilp))]⟩,⟨some 65542,.len false (.t 65541),(some (65539,true)),[]⟩,⟨some 65543,.fieldAddr 2 (.t 3),(some (65539,true)),[]⟩,⟨some 65544,.fieldAddr 1 (.t 65543),(some (65539,true)),[]⟩,⟨some 65545,.load 1 false (.t 65544),(some (65539,true)),[(.c (.p .nilp))]⟩,⟨some 65546,.fieldAddr 2 (.t 3),(some (65539,true)),[]⟩,⟨some 65547,.load 2 true (.t 65546),(some (65539,true)),[(.c (.p .nilp))]⟩,⟨some 65548,.fieldAddr 2 (.t 8),(some (65539,true)),[]⟩,⟨some 65549,.load 1 false (.t 65548),(some (65539,true)),[(.c (.p .nilp))]⟩,⟨some 65550,.call (.c (.p (.fn F_r3_FindFunc))) [(.t 65547),(.t 65549)],(some (65539,true)),[(.t 65544),(.t 65540)]⟩,⟨some 65551,.idxS 9 (.t 65545) (.t 65550),(some (65539,true)),[]⟩,⟨some 65552,.fieldAddr 1 (.t 65551),(some (65539,true)),[]⟩,⟨some 65553,.load 1 false (.t 65552),(some (65539,true)),[(.c (.p .nilp))]⟩,⟨some 65554,.len false (.t 65553),(some (65539,true)),[]⟩,⟨some 65555,.bin false .neq (.t 65542) (.t 65554),(some (65539,true)),[]⟩,⟨some 65556,.pick (.t 65539) (.t 65555) (.c (.p (.bool false))),none,[]⟩,⟨some 40,.mv (.t 65556),none,[]⟩] [1,2,3,7,8,40])) (.cond (.t 40) (.seq (.reg [⟨some 6,.mv (.c (.p (.bool false))),none,[]⟩] [6]) (.ret)) (.skip))) (.seq (.reg [⟨some 41,.load 4 true (.t 3),none,[]⟩,⟨some 42,.load 17 true (.t 8),none,[]⟩,⟨some 43,.call (.c (.p (.fn F_r3_scope_definedStmt))) [(.t 41),(.t 42)],none,[]⟩,⟨some 44,.un .not (.t 43),none,[]⟩] [1,2,3,7,8,44]) (.cond (.t 44) (.seq (.reg [⟨some 6,.mv (.c (.p (.bool false))),none,[]⟩] [6]) (.ret)) (.skip))))) (.seq (.reg [⟨some 45,.load 4 true (.t 3),none,[]⟩,⟨some 46,.fieldAddr 15 (.t 8),none,[]⟩,⟨some 47,.load 1 false (.t 46),none,[]⟩,⟨some 48,.mv (.t 2),none,[]⟩,⟨some 49,.call (.c (.p (.fn F_r3_scope_checkStmts))) [(.t 45),(.t 47),(.t 48)],none,[]⟩,⟨some 50,.un .not (.t 49),none,[]⟩,⟨some 51,.mv (.t 50),none,[]⟩,⟨some 52,.load 4 true (.t 3),(some (51,false)),[]⟩,⟨some 53,.fieldAddr 16 (.t 8),(some (51,false)),[]⟩,⟨some 54,.load 1 false (.t 53),(some (51,false)),[]⟩,⟨some 55,.mv (.t 2),(some (51,false)),[]⟩,⟨some 56,.call (.c (.p (.fn F_r3_scope_checkStmts))) [(.t 52),(.t 54),(.t 55)],(some (51,false)),[]⟩,⟨some 57,.un .not (.t 56),(some (51,false)),[]⟩,⟨some 58,.pick (.t 51) (.c (.p (.bool true))) (.t 57),none,[]⟩] [1,2,3,7,58]) (.cond (.t 58) (.seq (.reg [⟨some 6,.mv (.c (.p (.bool false))),none,[]⟩] [6]) (.ret)) (.skip)))))) (.reg [⟨some 13,.mv (.t 7),none,[]⟩,⟨some 14,.bin false .add (.t 13) (.c (.p (.int .i64 1))),none,[]⟩,⟨some 7,.mv (.t 14),none,[]⟩] [1,2,3,7]))
def sf_r3_scope_checkStmts : SF := ⟨.seq (.reg [⟨some 3,.box 4 (.t 0),none,[]⟩,⟨some 6,.mv (.c (.p (.bool false))),none,[]⟩] [1,2,3]) (.seq (.seq (.reg [⟨some 7,.mv (.c (.p (.int .i64 0))),none,[]⟩] [1,2,3,7]) (.block 0 (.loop [] [1,2,3,7] (lb_r3_scope_checkStmts_0)))) (.seq (.reg [⟨some 6,.mv (.c (.p (.bool true))),none,[]⟩] [6]) (.ret))),[.tmp 6],59,⟨fun _ => false,false⟩,none⟩
def lb_r3_scope_definedExpr_0 : SC := .seq (.seq (.reg [⟨some 6,.mv (.t 5),none,[]⟩,⟨some 7,.fieldAddr 4 (.t 3),none,[]⟩,⟨some 8,.load 1 false (.t 7),none,[]⟩,⟨some 9,.len false (.t 8),none,[]⟩,⟨some 10,.bin false .lss (.t 6) (.t 9),none,[]⟩] [2,3,5,10]) (.cond (.t 10) (.skip) (.exit 0))) (.seq (.block 1 (.seq (.seq (.reg [] [2,3,5]) (.reg [⟨some 65536,.load 4 true (.t 2),none,[(.c (.p .nilp))]⟩,⟨some 65537,.fieldAddr 4 (.t 3),none,[]⟩,⟨some 65538,.load 1 false (.t 65537),none,[(.c (.p .nilp))]⟩,⟨some 65539,.mv (.t 5),none,[]⟩,⟨some 65540,.idxS 5 (.t 65538) (.t 65539),none,[]⟩,⟨some 65541,.load 5 true (.t 65540),none,[(.c (.p .nilp))]⟩,⟨some 65542,.call (.c (.p (.fn F_r3_scope_definedExpr))) [(.t 65536),(.t 65541)],none,[]⟩,⟨some 65543,.un .not (.t 65542),none,[]⟩,⟨some 20,.mv (.t 65543),none,[]⟩] [2,3,5,20])) (.cond (.t 20) (.seq (.reg [⟨some 4,.mv (.c (.p (.bool false))),none,[]⟩] [4]) (.ret)) (.skip)))) (.reg [⟨some 11,.mv (.t 5),none,[]⟩,⟨some 12,.bin false .add (.t 11) (.c (.p (.int .i64 1))),none,[]⟩,⟨some 5,.mv (.t 12),none,[]⟩] [2,3,5]))
def sf_r3_scope_definedExpr : SF := ⟨.seq (.reg [⟨some 2,.box 4 (.t 0),none,[]⟩,⟨some 3,.box 5 (.t 1),none,[]⟩,⟨some 4,.mv (.c (.p (.bool false))),none,[]⟩] [2,3]) (.seq (.seq (.reg [⟨some 5,.mv (.c (.p (.int .i64 0))),none,[]⟩] [2,3,5]) (.block 0 (.loop [] [2,3,5] (lb_r3_scope_definedExpr_0)))) (.seq (.reg [⟨some 21,.fieldAddr 0 (.t 3),none,[]⟩,⟨some 22,.load 1 false (.t 21),none,[]⟩,⟨some 23,.bin false .neq (.t 22) (.c (.p (.int .i64 2))),none,[]⟩,⟨some 24,.mv (.t 23),none,[]⟩,⟨some 25,.fieldAddr 0 (.t 2),(some (24,false)),[]⟩,⟨some 26,.load 1 false (.t 25),(some (24,false)),[]⟩,⟨some 27,.fieldAddr 2 (.t 3),(some (24,false)),[]⟩,⟨some 28,.load 1 false (.t 27),(some (24,false)),[]⟩,⟨some 29,.call (.c (.p (.fn F_r3_contains))) [(.t 26),(.t 28)],(some (24,false)),[]⟩,⟨some 30,.pick (.t 24) (.c (.p (.bool true))) (.t 29),none,[]⟩,⟨some 31,.mv (.t 30),none,[]⟩,⟨some 32,.fieldAddr 0 (.t 3),(some (31,true)),[]⟩,⟨some 33,.load 1 false (.t 32),(some (31,true)),[]⟩,⟨some 34,.bin false .neq (.t 33) (.c (.p (.int .i64 3))),(some (31,true)),[]⟩,⟨some 35,.mv (.t 34),(some (31,true)),[]⟩,⟨some 36,.fieldAddr 1 (.t 2),(some (35,false)),[]⟩,⟨some 37,.load 1 false (.t 36),(some (35,false)),[]⟩,⟨some 38,.fieldAddr 2 (.t 3),(some (35,false)),[]⟩,⟨some 39,.load 1 false (.t 38),(some (35,false)),[]⟩,⟨some 40,.call (.c (.p (.fn F_r3_contains))) [(.t 37),(.t 39)],(some (35,false)),[]⟩,⟨some 41,.pick (.t 35) (.c (.p (.bool true))) (.t 40),(some (31,true)),[]⟩,⟨some 42,.pick (.t 31) (.t 41) (.c (.p (.bool false))),none,[]⟩,⟨some 4,.mv (.t 42),none,[]⟩] [4]) (.ret))),[.tmp 4],43,⟨fun _ => false,false⟩,none⟩
def sf_r1_formatUint : SF := ⟨.seq (.reg [⟨some 2,.mv (.c (.p (.str []))),none,[]⟩] [0]) (.seq (.seq (.reg [⟨some 3,.mv (.t 0),none,[]⟩,⟨some 4,.bin false .lss (.t 3) (.c (.p (.int .u64 10))),none,[]⟩] [0,4]) (.cond (.t 4) (.seq (.reg [⟨some 5,.mv (.t 0),none,[]⟩,⟨some 6,.bin false .add (.c (.p (.int .u64 48))) (.t 5),none,[]⟩,⟨some 7,.conv .u8 (.t 6),none,[]⟩,⟨some 8,.row 8 1 1 [(.int .u8 0)] [(0,1,(.t 7))],none,[]⟩,⟨some 9,.bytes (.t 8),none,[]⟩,⟨some 2,.mv (.t 9),none,[]⟩] [2]) (.ret)) (.skip))) (.seq (.seq (.reg [] [0]) (.reg [⟨some 65536,.mv (.t 0),none,[]⟩,⟨some 65537,.bin false .quo (.t 65536) (.c (.p (.int .u64 10))),none,[]⟩,⟨some 65539,.mv (.t 0),none,[]⟩,⟨some 65540,.bin false .rem (.t 65539) (.c (.p (.int .u64 10))),none,[]⟩,⟨some 65541,.bin false .add (.c (.p (.int .u64 48))) (.t 65540),none,[]⟩,⟨some 65542,.conv .u8 (.t 65541),none,[(.c (.p .nilp))]⟩,⟨some 65543,.row 17 1 1 [(.int .u8 0)] [(0,1,(.t 65542))],none,[]⟩,⟨some 65544,.bytes (.t 65543),none,[(.c (.p .nilp))]⟩,⟨some 65538,.call (.c (.p (.fn F_r1_formatUint))) [(.t 65537)],none,[(.t 65543),(.t 65541)]⟩,⟨some 65545,.bin false .add (.t 65538) (.t 65544),none,[]⟩,⟨some 65546,.mv (.t 65545),none,[]⟩,⟨some 2,.mv (.t 65546),none,[]⟩] [2])) (.ret))),[.tmp 2],20,⟨fun _ => false,false⟩,none⟩
def sf_r3_formatOperand : SF := ⟨.seq (.reg [⟨some 2,.box 5 (.t 0),none,[]⟩,⟨some 4,.mv (.c (.p (.str []))),none,[]⟩] [1,2]) (.seq (.seq (.reg [⟨some 5,.fieldAddr 0 (.t 2),none,[]⟩,⟨some 6,.load 1 false (.t 5),none,[]⟩,⟨some 7,.bin false .eql (.t 6) (.c (.p (.int .i64 4))),none,[]⟩,⟨some 8,.mv (.t 7),none,[]⟩,⟨some 9,.fieldAddr 0 (.t 2),(some (8,false)),[]⟩,⟨some 10,.load 1 false (.t 9),(some (8,false)),[]⟩,⟨some 11,.bin false .eql (.t 10) (.c (.p (.int .i64 5))),(some (8,false)),[]⟩,⟨some 12,.pick (.t 8) (.c (.p (.bool true))) (.t 11),none,[]⟩,⟨some 13,.mv (.t 12),none,[]⟩,⟨some 14,.mv (.t 1),(some (13,false)),[]⟩,⟨some 15,.mv (.t 14),(some (13,false)),[]⟩,⟨some 16,.fieldAddr 0 (.t 2),(some (15,true)),[]⟩,⟨some 17,.load 1 false (.t 16),(some (15,true)),[]⟩,⟨some 18,.bin false .eql (.t 17) (.c (.p (.int .i64 1))),(some (15,true)),[]⟩,⟨some 19,.pick (.t 15) (.t 18) (.c (.p (.bool false))),(some (13,false)),[]⟩,⟨some 20,.pick (.t 13) (.c (.p (.bool true))) (.t 19),none,[]⟩] [2,20]) (.cond (.t 20) (.seq (.reg [⟨some 21,.load 5 true (.t 2),none,[]⟩,⟨some 22,.call (.c (.p (.fn F_r3_formatExpr))) [(.t 21)],none,[]⟩,⟨some 23,.bin false .add (.c (.p (.str [40]))) (.t 22),none,[]⟩,⟨some 24,.bin false .add (.t 23) (.c (.p (.str [41]))),none,[]⟩,⟨some 4,.mv (.t 24),none,[]⟩] [4]) (.ret)) (.skip))) (.seq (.reg [⟨some 25,.load 5 true (.t 2),none,[]⟩,⟨some 26,.call (.c (.p (.fn F_r3_formatExpr))) [(.t 25)],none,[]⟩,⟨some 4,.mv (.t 26),none,[]⟩] [4]) (.ret))),[.tmp 4],27,⟨fun _ => false,false⟩,none⟩
def sf_r3_operatorText : SF := ⟨.seq (.reg [⟨some 2,.mv (.c (.p (.str []))),none,[]⟩] [0]) (.seq (.reg [⟨some 3,.row 3 1 15 [(.str [])] [(0,1,(.c (.p (.str [43])))),(1,1,(.c (.p (.str [45])))),(2,1,(.c (.p (.str [42])))),(3,1,(.c (.p (.str [47])))),(4,1,(.c (.p (.str [37])))),(5,1,(.c (.p (.str [38])))),(6,1,(.c (.p (.str [124])))),(7,1,(.c (.p (.str [94])))),(8,1,(.c (.p (.str [60,60])))),(9,1,(.c (.p (.str [62,62,62])))),(10,1,(.c (.p (.str [62,62])))),(11,1,(.c (.p (.str [61,61])))),(12,1,(.c (.p (.str [33,61])))),(13,1,(.c (.p (.str [60])))),(14,1,(.c (.p (.str [60,61]))))],none,[]⟩,⟨some 4,.mv (.t 0),none,[]⟩,⟨some 5,.bin false .sub (.t 4) (.c (.p (.int .i64 4))),none,[]⟩,⟨some 6,.idxS 1 (.t 3) (.t 5),none,[]⟩,⟨some 7,.load 1 false (.t 6),none,[]⟩,⟨some 2,.mv (.t 7),none,[]⟩] [2]) (.ret)),[.tmp 2],8,⟨fun _ => false,false⟩,none⟩
def lb_kp_Reader_Stmt_0 : SC := .seq (.seq (.reg [⟨some 138,.mv (.t 14),none,[]⟩,⟨some 139,.mv (.t 9),none,[]⟩,⟨some 140,.bin false .rem (.t 139) (.c (.p (.int .i64 2))),none,[]⟩,⟨some 141,.bin false .sub (.c (.p (.int .i64 2))) (.t 140),none,[]⟩,⟨some 142,.bin false .lss (.t 138) (.t 141),none,[]⟩] [0,1,6,9,13,14,142]) (.cond (.t 142) (.skip) (.exit 1))) (.seq (.block 2 (.seq (.reg [] [0,1,6,9,13,14]) (.reg [⟨some 65536,.fieldAddr 14 (.t 13),none,[]⟩,⟨some 65537,.load 1 false (.t 65536),none,[(.c (.p .nilp))]⟩,⟨some 65538,.mv (.t 0),none,[]⟩,⟨some 65539,.mv (.t 1),none,[]⟩,⟨some 65540,.call (.c (.p (.fn F_kp_Reader_Expr))) [(.t 65538),(.t 65539),(.c (.p (.int .i64 2)))],none,[(.t 65536)]⟩,⟨some 65541,.row 150 5 1 [(.int .i64 0),(.int .i64 0),(.str []),(.int .i64 0),.nils] [(0,5,(.t 65540))],none,[]⟩,⟨some 65542,.app 5 (.t 65537) (.t 65541),none,[]⟩,⟨some 65543,.fieldAddr 14 (.t 13),none,[]⟩,⟨some 65544,.store 1 (.t 65543) (.t 65542),none,[]⟩] [0,1,6,9,13,14]))) (.reg [⟨some 143,.mv (.t 14),none,[]⟩,⟨some 144,.bin false .add (.t 143) (.c (.p (.int .i64 1))),none,[]⟩,⟨some 14,.mv (.t 144),none,[]⟩] [0,1,6,9,13,14]))
def sf_kp_Reader_Stmt : SF := ⟨.seq (.reg [⟨some 6,.alloc [(.int .i64 0),(.str []),(.str []),(.int .i64 0),(.int .i64 0),(.int .i64 0),(.str []),(.int .i64 0),.nils,(.int .i64 0),(.int .i64 0),(.str []),(.int .i64 0),.nils,.nils,.nils,.nils],none,[]⟩] [0,1,2,6]) (.seq (.reg [⟨some 15,.mv (.t 0),none,[]⟩,⟨some 16,.call (.c (.p (.fn F_kp_Reader_Next))) [(.t 15)],none,[]⟩,⟨some 7,.mv (.t 16),none,[]⟩] [0,1,2,6,7]) (.seq (.reg [⟨some 17,.mv (.t 1),none,[]⟩,⟨some 18,.call (.c (.p (.fn F_kp_names))) [(.t 17)],none,[]⟩,⟨some 8,.mv (.t 18),none,[]⟩] [0,1,2,6,7,8]) (.seq (.reg [⟨some 19,.mv (.t 7),none,[]⟩,⟨some 20,.bin false .quo (.t 19) (.c (.p (.int .i64 16))),none,[]⟩,⟨some 21,.call (.c (.p (.fn F_kp_Pick))) [(.t 20),(.c (.p (.int .i64 1000)))],none,[]⟩,⟨some 9,.mv (.t 21),none,[]⟩] [0,1,2,6,7,8,9]) (.seq (.reg [⟨some 22,.mv (.t 7),none,[]⟩,⟨some 23,.call (.c (.p (.fn F_kp_Pick))) [(.t 22),(.c (.p (.int .i64 16)))],none,[]⟩,⟨some 10,.mv (.t 23),none,[]⟩] [0,1,2,6,8,9,10]) (.seq (.seq (.reg [⟨some 24,.mv (.t 2),none,[]⟩,⟨some 25,.bin false .gtr (.t 24) (.c (.p (.int .i64 2))),none,[]⟩,⟨some 26,.mv (.t 25),none,[]⟩,⟨some 27,.mv (.t 10),(some (26,true)),[]⟩,⟨some 28,.bin false .geq (.t 27) (.c (.p (.int .i64 8))),(some (26,true)),[]⟩,⟨some 29,.pick (.t 26) (.t 28) (.c (.p (.bool false))),none,[]⟩,⟨some 30,.mv (.t 29),none,[]⟩,⟨some 31,.mv (.t 10),(some (30,true)),[]⟩,⟨some 32,.bin false .lss (.t 31) (.c (.p (.int .i64 12))),(some (30,true)),[]⟩,⟨some 33,.pick (.t 30) (.t 32) (.c (.p (.bool false))),none,[]⟩,⟨some 34,.mv (.t 33),none,[]⟩,⟨some 35,.mv (.t 0),(some (34,false)),[]⟩,⟨some 36,.nilCheck (.t 35),(some (34,false)),[]⟩,⟨some 37,.fieldAddr 1 (.t 36),(some (34,false)),[]⟩,⟨some 38,.load 1 false (.t 37),(some (34,false)),[]⟩,⟨some 39,.bin false .geq (.t 38) (.c (.p (.int .i64 10))),(some (34,false)),[]⟩,⟨some 40,.mv (.t 39),(some (34,false)),[]⟩,⟨some 41,.mv (.t 10),(some (40,true)),[]⟩,⟨some 42,.bin false .geq (.t 41) (.c (.p (.int .i64 10))),(some (40,true)),[]⟩,⟨some 43,.pick (.t 40) (.t 42) (.c (.p (.bool false))),(some (34,false)),[]⟩,⟨some 44,.pick (.t 34) (.c (.p (.bool true))) (.t 43),none,[]⟩] [0,1,2,6,8,9,10,44]) (.cond (.t 44) (.reg [⟨some 10,.mv (.c (.p (.int .i64 0))),none,[]⟩] [0,1,2,6,8,9,10]) (.skip))) (.seq (.block 0 (.seq (.reg [⟨some 46,.mv (.t 10),none,[]⟩,⟨some 47,.bin false .lss (.t 46) (.c (.p (.int .i64 6))),none,[]⟩,⟨some 45,.mv (.t 47),none,[]⟩] [0,1,2,6,8,9,10,45]) (.cond (.t 45) (.seq (.seq (.reg [] [0,1,6,8,9]) (.reg [⟨some 65536,.mv (.t 8),none,[]⟩,⟨some 65537,.mv (.t 9),none,[]⟩,⟨some 65538,.mv (.t 8),none,[]⟩,⟨some 65539,.len false (.t 65538),none,[]⟩,⟨some 65540,.bin false .rem (.t 65537) (.t 65539),none,[]⟩,⟨some 65541,.idxS 1 (.t 65536) (.t 65540),none,[]⟩,⟨some 65542,.load 1 false (.t 65541),none,[(.c (.p .nilp))]⟩,⟨some 65543,.mv (.t 0),none,[]⟩,⟨some 65544,.mv (.t 1),none,[]⟩,⟨some 65545,.call (.c (.p (.fn F_kp_Reader_Expr))) [(.t 65543),(.t 65544),(.c (.p (.int .i64 0)))],none,[(.t 65541)]⟩,⟨some 65546,.build [(.int .i64 0),(.str []),(.str []),(.int .i64 0),(.int .i64 0),(.int .i64 0),(.str []),(.int .i64 0),.nils,(.int .i64 0),(.int .i64 0),(.str []),(.int .i64 0),.nils,.nils,.nils,.nils] [(0,1,(.c (.p (.int .i64 1)))),(1,1,(.t 65542)),(9,5,(.t 65545))],none,[]⟩,⟨some 65547,.store 17 (.t 6) (.t 65546),none,[]⟩] [6])) (.ret)) (.seq (.reg [⟨some 60,.mv (.t 10),none,[]⟩,⟨some 61,.bin false .lss (.t 60) (.c (.p (.int .i64 8))),none,[]⟩,⟨some 59,.mv (.t 61),none,[]⟩] [0,1,2,6,8,9,10,59]) (.cond (.t 59) (.seq (.seq (.reg [] [0,1,6,9]) (.reg [⟨some 65536,.row 62 1 2 [(.str [])] [(0,1,(.c (.p (.str [97])))),(1,1,(.c (.p (.str [98]))))],none,[]⟩,⟨some 65537,.mv (.t 9),none,[]⟩,⟨some 65538,.bin false .rem (.t 65537) (.c (.p (.int .i64 2))),none,[]⟩,⟨some 65539,.idxS 1 (.t 65536) (.t 65538),none,[]⟩,⟨some 65540,.load 1 false (.t 65539),none,[(.c (.p .nilp))]⟩,⟨some 65541,.mv (.t 0),none,[]⟩,⟨some 65542,.mv (.t 1),none,[]⟩,⟨some 65544,.mv (.t 0),none,[]⟩,⟨some 65545,.mv (.t 1),none,[]⟩,⟨some 65543,.call (.c (.p (.fn F_kp_Reader_Expr))) [(.t 65541),(.t 65542),(.c (.p (.int .i64 2)))],none,[(.t 65539)]⟩,⟨some 65546,.call (.c (.p (.fn F_kp_Reader_Expr))) [(.t 65544),(.t 65545),(.c (.p (.int .i64 1)))],none,[(.t 65539)]⟩,⟨some 65547,.build [(.int .i64 0),(.str []),(.str []),(.int .i64 0),(.int .i64 0),(.int .i64 0),(.str []),(.int .i64 0),.nils,(.int .i64 0),(.int .i64 0),(.str []),(.int .i64 0),.nils,.nils,.nils,.nils] [(0,1,(.c (.p (.int .i64 2)))),(1,1,(.t 65540)),(4,5,(.t 65543)),(9,5,(.t 65546))],none,[]⟩,⟨some 65548,.store 17 (.t 6) (.t 65547),none,[]⟩] [6])) (.ret)) (.seq (.reg [⟨some 75,.mv (.t 10),none,[]⟩,⟨some 76,.bin false .lss (.t 75) (.c (.p (.int .i64 10))),none,[]⟩,⟨some 74,.mv (.t 76),none,[]⟩] [0,1,2,6,8,9,10,74]) (.cond (.t 74) (.seq (.reg [⟨some 77,.mv (.t 0),none,[]⟩,⟨some 78,.mv (.t 1),none,[]⟩,⟨some 79,.call (.c (.p (.fn F_kp_Reader_Expr))) [(.t 77),(.t 78),(.c (.p (.int .i64 1)))],none,[]⟩,⟨some 80,.build [(.int .i64 0),(.str []),(.str []),(.int .i64 0),(.int .i64 0),(.int .i64 0),(.str []),(.int .i64 0),.nils,(.int .i64 0),(.int .i64 0),(.str []),(.int .i64 0),.nils,.nils,.nils,.nils] [(0,1,(.c (.p (.int .i64 3)))),(9,5,(.t 79))],none,[]⟩,⟨some 11,.alloc [(.int .i64 0),(.str []),(.str []),(.int .i64 0),(.int .i64 0),(.int .i64 0),(.str []),(.int .i64 0),.nils,(.int .i64 0),(.int .i64 0),(.str []),(.int .i64 0),.nils,.nils,.nils,.nils],none,[]⟩,⟨none,.store 17 (.t 11) (.t 80),none,[]⟩] [0,1,2,6,11]) (.seq (.reg [⟨some 81,.mv (.t 0),none,[]⟩,⟨some 82,.mv (.t 1),none,[]⟩,⟨some 83,.mv (.t 2),none,[]⟩,⟨some 84,.bin false .add (.t 83) (.c (.p (.int .i64 1))),none,[]⟩,⟨some 85,.call (.c (.p (.fn F_kp_Reader_Stmts))) [(.t 81),(.t 82),(.t 84),(.c (.p (.int .i64 3)))],none,[]⟩,⟨some 86,.fieldAddr 15 (.t 11),none,[]⟩,⟨none,.store 1 (.t 86) (.t 85),none,[]⟩] [0,1,2,6,11]) (.seq (.reg [⟨some 87,.mv (.t 0),none,[]⟩,⟨some 88,.mv (.t 1),none,[]⟩,⟨some 89,.mv (.t 2),none,[]⟩,⟨some 90,.bin false .add (.t 89) (.c (.p (.int .i64 1))),none,[]⟩,⟨some 91,.call (.c (.p (.fn F_kp_Reader_Stmts))) [(.t 87),(.t 88),(.t 90),(.c (.p (.int .i64 2)))],none,[]⟩,⟨some 92,.fieldAddr 16 (.t 11),none,[]⟩,⟨none,.store 1 (.t 92) (.t 91),none,[]⟩] [6,11]) (.seq (.reg [⟨some 93,.load 17 true (.t 11),none,[]⟩,⟨none,.store 17 (.t 6) (.t 93),none,[]⟩] [6]) (.ret))))) (.seq (.reg [⟨some 95,.mv (.t 10),none,[]⟩,⟨some 96,.bin false .lss (.t 95) (.c (.p (.int .i64 12))),none,[]⟩,⟨some 94,.mv (.t 96),none,[]⟩] [0,1,2,6,8,9,10,94]) (.cond (.t 94) (.seq (.reg [⟨some 97,.mv (.t 0),none,[]⟩,⟨some 98,.nilCheck (.t 97),none,[]⟩,⟨some 99,.fieldAddr 1 (.t 98),none,[]⟩,⟨some 100,.load 1 false (.t 99),none,[]⟩,⟨some 101,.bin false .add (.t 100) (.c (.p (.int .i64 1))),none,[]⟩,⟨some 102,.nilCheck (.t 97),none,[]⟩,⟨some 103,.fieldAddr 1 (.t 102),none,[]⟩,⟨none,.store 1 (.t 103) (.t 101),none,[]⟩] [0,1,2,6]) (.seq (.reg [⟨some 104,.mv (.t 0),none,[]⟩,⟨some 105,.mv (.t 1),none,[]⟩,⟨some 106,.call (.c (.p (.fn F_kp_Reader_Expr))) [(.t 104),(.t 105),(.c (.p (.int .i64 1)))],none,[]⟩,⟨some 107,.build [(.int .i64 0),(.str []),(.str []),(.int .i64 0),(.int .i64 0),(.int .i64 0),(.str []),(.int .i64 0),.nils,(.int .i64 0),(.int .i64 0),(.str []),(.int .i64 0),.nils,.nils,.nils,.nils] [(0,1,(.c (.p (.int .i64 4)))),(9,5,(.t 106))],none,[]⟩,⟨some 12,.alloc [(.int .i64 0),(.str []),(.str []),(.int .i64 0),(.int .i64 0),(.int .i64 0),(.str []),(.int .i64 0),.nils,(.int .i64 0),(.int .i64 0),(.str []),(.int .i64 0),.nils,.nils,.nils,.nils],none,[]⟩,⟨none,.store 17 (.t 12) (.t 107),none,[]⟩] [0,1,2,6,12]) (.seq (.reg [⟨some 108,.mv (.t 0),none,[]⟩,⟨some 109,.mv (.t 1),none,[]⟩,⟨some 110,.mv (.t 2),none,[]⟩,⟨some 111,.bin false .add (.t 110) (.c (.p (.int .i64 1))),none,[]⟩,⟨some 112,.call (.c (.p (.fn F_kp_Reader_Stmts))) [(.t 108),(.t 109),(.t 111),(.c (.p (.int .i64 3)))],none,[]⟩,⟨some 113,.fieldAddr 15 (.t 12),none,[]⟩,⟨none,.store 1 (.t 113) (.t 112),none,[]⟩] [6,12]) (.seq (.reg [⟨some 114,.load 17 true (.t 12),none,[]⟩,⟨none,.store 17 (.t 6) (.t 114),none,[]⟩] [6]) (.ret))))) (.seq (.reg [⟨some 116,.mv (.t 10),none,[]⟩,⟨some 117,.bin false .lss (.t 116) (.c (.p (.int .i64 14))),none,[]⟩,⟨some 115,.mv (.t 117),none,[]⟩] [0,1,6,8,9,10,115]) (.cond (.t 115) (.seq (.reg [⟨some 118,.mv (.t 0),none,[]⟩,⟨some 119,.mv (.t 1),none,[]⟩,⟨some 120,.call (.c (.p (.fn F_kp_Reader_Expr))) [(.t 118),(.t 119),(.c (.p (.int .i64 1)))],none,[]⟩,⟨some 121,.build [(.int .i64 0),(.str []),(.str []),(.int .i64 0),(.int .i64 0),(.int .i64 0),(.str []),(.int .i64 0),.nils,(.int .i64 0),(.int .i64 0),(.str []),(.int .i64 0),.nils,.nils,.nils,.nils] [(0,1,(.c (.p (.int .i64 5)))),(9,5,(.t 120))],none,[]⟩,⟨none,.store 17 (.t 6) (.t 121),none,[]⟩] [6]) (.ret)) (.seq (.reg [⟨some 123,.mv (.t 10),none,[]⟩,⟨some 124,.bin false .lss (.t 123) (.c (.p (.int .i64 15))),none,[]⟩,⟨some 122,.mv (.t 124),none,[]⟩] [0,1,6,8,9,122]) (.cond (.t 122) (.seq (.seq (.reg [] [0,1,6,8,9]) (.reg [⟨some 65536,.mv (.t 8),none,[]⟩,⟨some 65537,.mv (.t 9),none,[]⟩,⟨some 65538,.mv (.t 8),none,[]⟩,⟨some 65539,.len false (.t 65538),none,[]⟩,⟨some 65540,.bin false .rem (.t 65537) (.t 65539),none,[]⟩,⟨some 65541,.idxS 1 (.t 65536) (.t 65540),none,[]⟩,⟨some 65542,.load 1 false (.t 65541),none,[(.c (.p .nilp))]⟩,⟨some 65543,.row 132 1 2 [(.str [])] [(0,1,(.c (.p (.str [102])))),(1,1,(.c (.p (.str [103]))))],none,[]⟩,⟨some 65544,.mv (.t 9),none,[]⟩,⟨some 65545,.bin false .rem (.t 65544) (.c (.p (.int .i64 2))),none,[]⟩,⟨some 65546,.idxS 1 (.t 65543) (.t 65545),none,[]⟩,⟨some 65547,.load 1 false (.t 65546),none,[(.c (.p .nilp))]⟩,⟨some 65548,.build [(.int .i64 0),(.str []),(.str []),(.int .i64 0),(.int .i64 0),(.int .i64 0),(.str []),(.int .i64 0),.nils,(.int .i64 0),(.int .i64 0),(.str []),(.int .i64 0),.nils,.nils,.nils,.nils] [(0,1,(.c (.p (.int .i64 6)))),(1,1,(.t 65542)),(2,1,(.t 65547))],none,[]⟩,⟨some 65549,.alloc [(.int .i64 0),(.str []),(.str []),(.int .i64 0),(.int .i64 0),(.int .i64 0),(.str []),(.int .i64 0),.nils,(.int .i64 0),(.int .i64 0),(.str []),(.int .i64 0),.nils,.nils,.nils,.nils],none,[]⟩,⟨some 65550,.store 17 (.t 65549) (.t 65548),none,[]⟩,⟨some 13,.mv (.t 65549),none,[]⟩] [0,1,6,9,13])) (.seq (.seq (.reg [⟨some 14,.mv (.c (.p (.int .i64 0))),none,[]⟩] [0,1,6,9,13,14]) (.block 1 (.loop [] [0,1,6,9,13,14] (lb_kp_Reader_Stmt_0)))) (.seq (.reg [⟨some 153,.load 17 true (.t 13),none,[]⟩,⟨none,.store 17 (.t 6) (.t 153),none,[]⟩] [6]) (.ret)))) (.skip)))))))))))))) (.seq (.reg [⟨some 154,.mv (.t 9),none,[]⟩,⟨some 155,.build [(.int .i64 0),(.str []),(.str []),(.int .i64 0),(.int .i64 0),(.int .i64 0),(.str []),(.int .i64 0),.nils,(.int .i64 0),(.int .i64 0),(.str []),(.int .i64 0),.nils,.nils,.nils,.nils] [(0,1,(.c (.p (.int .i64 7)))),(3,1,(.t 154))],none,[]⟩,⟨none,.store 17 (.t 6) (.t 155),none,[]⟩] [6]) (.ret)))))))),[.cell 6 17 true],156,⟨fun _ => false,false⟩,none⟩
def sf_kp_names : SF := ⟨.seq (.reg [⟨some 2,.mv (.c (.p .nils)),none,[]⟩] [0]) (.seq (.seq (.reg [⟨some 3,.mv (.t 0),none,[]⟩,⟨some 4,.bin false .eql (.t 3) (.c (.p (.int .i64 0))),none,[]⟩] [4]) (.cond (.t 4) (.seq (.reg [⟨some 5,.row 5 1 4 [(.str [])] [(0,1,(.c (.p (.str [120])))),(1,1,(.c (.p (.str [121])))),(2,1,(.c (.p (.str [105])))),(3,1,(.c (.p (.str [106]))))],none,[]⟩,⟨some 2,.mv (.t 5),none,[]⟩] [2]) (.ret)) (.skip))) (.seq (.reg [⟨some 6,.row 6 1 2 [(.str [])] [(0,1,(.c (.p (.str [110])))),(1,1,(.c (.p (.str [105]))))],none,[]⟩,⟨some 2,.mv (.t 6),none,[]⟩] [2]) (.ret))),[.tmp 2],7,⟨fun _ => false,false⟩,none⟩
def sf_kp_Word : SF := ⟨.seq (.reg [⟨some 4,.mv (.c (.p (.int .i64 0))),none,[]⟩] [0,1]) (.seq (.reg [⟨some 7,.row 7 1 10 [(.int .i64 0)] [(0,1,(.c (.p (.int .i64 0)))),(1,1,(.c (.p (.int .i64 1)))),(2,1,(.c (.p (.int .i64 (-1))))),(3,1,(.c (.p (.int .i64 2)))),(4,1,(.c (.p (.int .i64 (-9223372036854775808))))),(5,1,(.c (.p (.int .i64 9223372036854775807)))),(6,1,(.c (.p (.int .i64 4294967296)))),(7,1,(.c (.p (.int .i64 (-2147483648))))),(8,1,(.c (.p (.int .i64 63)))),(9,1,(.c (.p (.int .i64 64))))],none,[]⟩,⟨some 5,.mv (.t 7),none,[]⟩] [0,1,5]) (.seq (.reg [⟨some 8,.mv (.t 0),none,[]⟩,⟨some 9,.call (.c (.p (.fn F_kp_Pick))) [(.t 8),(.c (.p (.int .i64 24)))],none,[]⟩,⟨some 6,.mv (.t 9),none,[]⟩] [0,1,5,6]) (.seq (.block 0 (.seq (.reg [⟨some 11,.mv (.t 6),none,[]⟩,⟨some 12,.bin false .lss (.t 11) (.c (.p (.int .i64 10))),none,[]⟩,⟨some 10,.mv (.t 12),none,[]⟩] [0,1,5,6,10]) (.cond (.t 10) (.seq (.reg [⟨some 13,.mv (.t 5),none,[]⟩,⟨some 14,.mv (.t 6),none,[]⟩,⟨some 15,.idxS 1 (.t 13) (.t 14),none,[]⟩,⟨some 16,.load 1 false (.t 15),none,[]⟩,⟨some 4,.mv (.t 16),none,[]⟩] [4]) (.ret)) (.seq (.reg [⟨some 18,.mv (.t 6),none,[]⟩,⟨some 19,.bin false .lss (.t 18) (.c (.p (.int .i64 22))),none,[]⟩,⟨some 17,.mv (.t 19),none,[]⟩] [0,1,17]) (.cond (.t 17) (.seq (.reg [⟨some 20,.mv (.t 0),none,[]⟩,⟨some 21,.bin false .quo (.t 20) (.c (.p (.int .i64 24))),none,[]⟩,⟨some 22,.call (.c (.p (.fn F_kp_Pick))) [(.t 21),(.c (.p (.int .i64 17)))],none,[]⟩,⟨some 23,.bin false .sub (.t 22) (.c (.p (.int .i64 6))),none,[]⟩,⟨some 4,.mv (.t 23),none,[]⟩] [4]) (.ret)) (.skip)))))) (.seq (.reg [⟨some 24,.mv (.t 1),none,[]⟩,⟨some 4,.mv (.t 24),none,[]⟩] [4]) (.ret))))),[.tmp 4],25,⟨fun _ => false,false⟩,none⟩
def lb_r3_Reserved_0 : SC := .seq (.seq (.reg [⟨some 6,.mv (.t 4),none,[]⟩,⟨some 7,.mv (.t 3),none,[]⟩,⟨some 8,.len false (.t 7),none,[]⟩,⟨some 9,.bin false .lss (.t 6) (.t 8),none,[]⟩] [0,3,4,9]) (.cond (.t 9) (.skip) (.exit 0))) (.seq (.block 1 (.seq (.reg [⟨some 12,.mv (.t 3),none,[]⟩,⟨some 13,.mv (.t 4),none,[]⟩,⟨some 14,.idxS 1 (.t 12) (.t 13),none,[]⟩,⟨some 15,.load 1 false (.t 14),none,[]⟩,⟨some 16,.mv (.t 0),none,[]⟩,⟨some 17,.bin false .eql (.t 15) (.t 16),none,[]⟩] [0,3,4,17]) (.cond (.t 17) (.seq (.reg [⟨some 2,.mv (.c (.p (.bool true))),none,[]⟩] [2]) (.ret)) (.skip)))) (.reg [⟨some 10,.mv (.t 4),none,[]⟩,⟨some 11,.bin false .add (.t 10) (.c (.p (.int .i64 1))),none,[]⟩,⟨some 4,.mv (.t 11),none,[]⟩] [0,3,4]))
def sf_r3_Reserved : SF := ⟨.seq (.reg [⟨some 2,.mv (.c (.p (.bool false))),none,[]⟩] [0]) (.seq (.reg [⟨some 5,.row 5 1 9 [(.str [])] [(0,1,(.c (.p (.str [97,114,114,97,121])))),(1,1,(.c (.p (.str [102,117,110,99])))),(2,1,(.c (.p (.str [118,97,114])))),(3,1,(.c (.p (.str [114,101,116,117,114,110])))),(4,1,(.c (.p (.str [105,102])))),(5,1,(.c (.p (.str [101,108,115,101])))),(6,1,(.c (.p (.str [119,104,105,108,101])))),(7,1,(.c (.p (.str [111,117,116])))),(8,1,(.c (.p (.str [116,114,97,112]))))],none,[]⟩,⟨some 3,.mv (.t 5),none,[]⟩] [0,3]) (.seq (.seq (.reg [⟨some 4,.mv (.c (.p (.int .i64 0))),none,[]⟩] [0,3,4]) (.block 0 (.loop [] [0,3,4] (lb_r3_Reserved_0)))) (.seq (.reg [⟨some 2,.mv (.c (.p (.bool false))),none,[]⟩] [2]) (.ret)))),[.tmp 2],18,⟨fun _ => false,false⟩,none⟩
def lb_r3_countStmts_0 : SC := .seq (.seq (.reg [⟨some 17,.mv (.t 10),none,[]⟩,⟨some 18,.mv (.t 0),none,[]⟩,⟨some 19,.len false (.t 18),none,[]⟩,⟨some 20,.bin false .lss (.t 17) (.t 19),none,[]⟩] [0,1,7,8,9,10,20]) (.cond (.t 20) (.skip) (.exit 0))) (.seq (.block 1 (.seq (.reg [⟨some 23,.mv (.t 7),none,[]⟩,⟨some 24,.bin false .add (.t 23) (.c (.p (.int .i64 1))),none,[]⟩,⟨some 7,.mv (.t 24),none,[]⟩] [0,1,7,8,9,10]) (.seq (.reg [⟨some 25,.mv (.t 9),none,[]⟩,⟨some 26,.mv (.t 1),none,[]⟩,⟨some 27,.mx (.t 25) (.t 26),none,[]⟩,⟨some 9,.mv (.t 27),none,[]⟩] [0,1,7,8,9,10]) (.seq (.seq (.reg [⟨some 28,.mv (.t 0),none,[]⟩,⟨some 29,.mv (.t 10),none,[]⟩,⟨some 30,.idxS 17 (.t 28) (.t 29),none,[]⟩,⟨some 31,.fieldAddr 0 (.t 30),none,[]⟩,⟨some 32,.load 1 false (.t 31),none,[]⟩,⟨some 33,.bin false .eql (.t 32) (.c (.p (.int .i64 4))),none,[]⟩] [0,1,7,8,9,10,33]) (.cond (.t 33) (.reg [⟨some 34,.mv (.t 8),none,[]⟩,⟨some 35,.bin false .add (.t 34) (.c (.p (.int .i64 1))),none,[]⟩,⟨some 8,.mv (.t 35),none,[]⟩] [0,1,7,8,9,10]) (.skip))) (.seq (.reg [⟨some 37,.mv (.t 0),none,[]⟩,⟨some 38,.mv (.t 10),none,[]⟩,⟨some 39,.idxS 17 (.t 37) (.t 38),none,[]⟩,⟨some 40,.fieldAddr 15 (.t 39),none,[]⟩,⟨some 41,.load 1 false (.t 40),none,[]⟩,⟨some 42,.mv (.t 1),none,[]⟩,⟨some 43,.bin false .add (.t 42) (.c (.p (.int .i64 1))),none,[]⟩,⟨some 44,.call (.c (.p (.fn F_r3_countStmts))) [(.t 41),(.t 43)],none,[]⟩,⟨some 36,.mv (.t 44),none,[]⟩,⟨some 45,.extract (.t 36) 0,none,[]⟩,⟨some 46,.extract (.t 36) 1,none,[]⟩,⟨some 47,.extract (.t 36) 2,none,[]⟩,⟨some 11,.mv (.t 45),none,[]⟩,⟨some 12,.mv (.t 46),none,[]⟩,⟨some 13,.mv (.t 47),none,[]⟩] [0,1,7,8,9,10,11,12,13]) (.seq (.reg [⟨some 49,.mv (.t 0),none,[]⟩,⟨some 50,.mv (.t 10),none,[]⟩,⟨some 51,.idxS 17 (.t 49) (.t 50),none,[]⟩,⟨some 52,.fieldAddr 16 (.t 51),none,[]⟩,⟨some 53,.load 1 false (.t 52),none,[]⟩,⟨some 54,.mv (.t 1),none,[]⟩,⟨some 55,.bin false .add (.t 54) (.c (.p (.int .i64 1))),none,[]⟩,⟨some 56,.call (.c (.p (.fn F_r3_countStmts))) [(.t 53),(.t 55)],none,[]⟩,⟨some 48,.mv (.t 56),none,[]⟩,⟨some 57,.extract (.t 48) 0,none,[]⟩,⟨some 58,.extract (.t 48) 1,none,[]⟩,⟨some 59,.extract (.t 48) 2,none,[]⟩,⟨some 14,.mv (.t 57),none,[]⟩,⟨some 15,.mv (.t 58),none,[]⟩,⟨some 16,.mv (.t 59),none,[]⟩] [0,1,7,8,9,10,11,12,13,14,15,16]) (.reg [⟨some 60,.mv (.t 7),none,[]⟩,⟨some 61,.mv (.t 11),none,[]⟩,⟨some 62,.bin false .add (.t 60) (.t 61),none,[]⟩,⟨some 63,.mv (.t 14),none,[]⟩,⟨some 64,.bin false .add (.t 62) (.t 63),none,[]⟩,⟨some 65,.mv (.t 8),none,[]⟩,⟨some 66,.mv (.t 12),none,[]⟩,⟨some 67,.bin false .add (.t 65) (.t 66),none,[]⟩,⟨some 68,.mv (.t 15),none,[]⟩,⟨some 69,.bin false .add (.t 67) (.t 68),none,[]⟩,⟨some 70,.mv (.t 9),none,[]⟩,⟨some 71,.mv (.t 13),none,[]⟩,⟨some 72,.mv (.t 16),none,[]⟩,⟨some 73,.mx (.t 71) (.t 72),none,[]⟩,⟨some 74,.mx (.t 70) (.t 73),none,[]⟩,⟨some 7,.mv (.t 64),none,[]⟩,⟨some 8,.mv (.t 69),none,[]⟩,⟨some 9,.mv (.t 74),none,[]⟩] [0,1,7,8,9,10]))))))) (.reg [⟨some 21,.mv (.t 10),none,[]⟩,⟨some 22,.bin false .add (.t 21) (.c (.p (.int .i64 1))),none,[]⟩,⟨some 10,.mv (.t 22),none,[]⟩] [0,1,7,8,9,10]))
def sf_r3_countStmts : SF := ⟨.seq (.reg [⟨some 4,.mv (.c (.p (.int .i64 0))),none,[]⟩,⟨some 5,.mv (.c (.p (.int .i64 0))),none,[]⟩,⟨some 6,.mv (.c (.p (.int .i64 0))),none,[]⟩] [0,1]) (.seq (.reg [⟨some 7,.mv (.c (.p (.int .i64 0))),none,[]⟩,⟨some 8,.mv (.c (.p (.int .i64 0))),none,[]⟩,⟨some 9,.mv (.c (.p (.int .i64 0))),none,[]⟩] [0,1,7,8,9]) (.seq (.seq (.reg [⟨some 10,.mv (.c (.p (.int .i64 0))),none,[]⟩] [0,1,7,8,9,10]) (.block 0 (.loop [] [0,1,7,8,9,10] (lb_r3_countStmts_0)))) (.seq (.reg [⟨some 75,.mv (.t 7),none,[]⟩,⟨some 76,.mv (.t 8),none,[]⟩,⟨some 77,.mv (.t 9),none,[]⟩,⟨some 4,.mv (.t 75),none,[]⟩,⟨some 5,.mv (.t 76),none,[]⟩,⟨some 6,.mv (.t 77),none,[]⟩] [4,5,6]) (.ret)))),[.tmp 4,.tmp 5,.tmp 6],78,⟨fun _ => false,false⟩,none⟩
def lb_r3_tooDeep_0 : SC := .seq (.seq (.reg [⟨some 36,.mv (.t 5),none,[]⟩,⟨some 37,.fieldAddr 14 (.t 4),none,[]⟩,⟨some 38,.load 1 false (.t 37),none,[]⟩,⟨some 39,.len false (.t 38),none,[]⟩,⟨some 40,.bin false .lss (.t 36) (.t 39),none,[]⟩] [0,3,4,5,40]) (.cond (.t 40) (.skip) (.exit 2))) (.seq (.block 3 (.seq (.reg [⟨some 43,.fieldAddr 14 (.t 4),none,[]⟩,⟨some 44,.load 1 false (.t 43),none,[]⟩,⟨some 45,.mv (.t 5),none,[]⟩,⟨some 46,.idxS 5 (.t 44) (.t 45),none,[]⟩,⟨some 47,.load 5 true (.t 46),none,[]⟩,⟨some 48,.call (.c (.p (.fn F_r3_depth))) [(.t 47)],none,[]⟩,⟨some 49,.bin false .gtr (.t 48) (.c (.p (.int .i64 20))),none,[]⟩] [0,3,4,5,49]) (.cond (.t 49) (.seq (.reg [⟨some 2,.mv (.c (.p (.bool true))),none,[]⟩] [2]) (.ret)) (.skip)))) (.reg [⟨some 41,.mv (.t 5),none,[]⟩,⟨some 42,.bin false .add (.t 41) (.c (.p (.int .i64 1))),none,[]⟩,⟨some 5,.mv (.t 42),none,[]⟩] [0,3,4,5]))
def lb_r3_tooDeep_1 : SC := .seq (.seq (.reg [⟨some 6,.mv (.t 3),none,[]⟩,⟨some 7,.mv (.t 0),none,[]⟩,⟨some 8,.len false (.t 7),none,[]⟩,⟨some 9,.bin false .lss (.t 6) (.t 8),none,[]⟩] [0,3,9]) (.cond (.t 9) (.skip) (.exit 0))) (.seq (.block 1 (.seq (.reg [⟨some 12,.mv (.t 0),none,[]⟩,⟨some 13,.mv (.t 3),none,[]⟩,⟨some 14,.idxS 17 (.t 12) (.t 13),none,[]⟩,⟨some 15,.load 17 true (.t 14),none,[]⟩,⟨some 4,.alloc [(.int .i64 0),(.str []),(.str []),(.int .i64 0),(.int .i64 0),(.int .i64 0),(.str []),(.int .i64 0),.nils,(.int .i64 0),(.int .i64 0),(.str []),(.int .i64 0),.nils,.nils,.nils,.nils],none,[]⟩,⟨none,.store 17 (.t 4) (.t 15),none,[]⟩] [0,3,4]) (.seq (.seq (.reg [⟨some 16,.fieldAddr 4 (.t 4),none,[]⟩,⟨some 17,.load 5 true (.t 16),none,[]⟩,⟨some 18,.call (.c (.p (.fn F_r3_depth))) [(.t 17)],none,[]⟩,⟨some 19,.bin false .gtr (.t 18) (.c (.p (.int .i64 20))),none,[]⟩,⟨some 20,.mv (.t 19),none,[]⟩,⟨some 21,.fieldAddr 9 (.t 4),(some (20,false)),[]⟩,⟨some 22,.load 5 true (.t 21),(some (20,false)),[]⟩,⟨some 23,.call (.c (.p (.fn F_r3_depth))) [(.t 22)],(some (20,false)),[]⟩,⟨some 24,.bin false .gtr (.t 23) (.c (.p (.int .i64 20))),(some (20,false)),[]⟩,⟨some 25,.pick (.t 20) (.c (.p (.bool true))) (.t 24),none,[]⟩,⟨some 26,.mv (.t 25),none,[]⟩,⟨some 27,.fieldAddr 15 (.t 4),(some (26,false)),[]⟩,⟨some 28,.load 1 false (.t 27),(some (26,false)),[]⟩,⟨some 29,.call (.c (.p (.fn F_r3_tooDeep))) [(.t 28)],(some (26,false)),[]⟩,⟨some 30,.pick (.t 26) (.c (.p (.bool true))) (.t 29),none,[]⟩,⟨some 31,.mv (.t 30),none,[]⟩,⟨some 32,.fieldAddr 16 (.t 4),(some (31,false)),[]⟩,⟨some 33,.load 1 false (.t 32),(some (31,false)),[]⟩,⟨some 34,.call (.c (.p (.fn F_r3_tooDeep))) [(.t 33)],(some (31,false)),[]⟩,⟨some 35,.pick (.t 31) (.c (.p (.bool true))) (.t 34),none,[]⟩] [0,3,4,35]) (.cond (.t 35) (.seq (.reg [⟨some 2,.mv (.c (.p (.bool true))),none,[]⟩] [2]) (.ret)) (.skip))) (.seq (.reg [⟨some 5,.mv (.c (.p (.int .i64 0))),none,[]⟩] [0,3,4,5]) (.block 2 (.loop [] [0,3,4,5] (lb_r3_tooDeep_0))))))) (.reg [⟨some 10,.mv (.t 3),none,[]⟩,⟨some 11,.bin false .add (.t 10) (.c (.p (.int .i64 1))),none,[]⟩,⟨some 3,.mv (.t 11),none,[]⟩] [0,3]))
def sf_r3_tooDeep : SF := ⟨.seq (.reg [⟨some 2,.mv (.c (.p (.bool false))),none,[]⟩] [0]) (.seq (.seq (.reg [⟨some 3,.mv (.c (.p (.int .i64 0))),none,[]⟩] [0,3]) (.block 0 (.loop [] [0,3] (lb_r3_tooDeep_1)))) (.seq (.reg [⟨some 2,.mv (.c (.p (.bool false))),none,[]⟩] [2]) (.ret))),[.tmp 2],50,⟨fun _ => false,false⟩,none⟩
def lb_r3_depth_0 : SC := .seq (.seq (.reg [⟨some 5,.mv (.t 4),none,[]⟩,⟨some 6,.fieldAddr 4 (.t 1),none,[]⟩,⟨some 7,.load 1 false (.t 6),none,[]⟩,⟨some 8,.len false (.t 7),none,[]⟩,⟨some 9,.bin false .lss (.t 5) (.t 8),none,[]⟩] [1,3,4,9]) (.cond (.t 9) (.skip) (.exit 0))) (.seq (.block 1 (.reg [⟨some 12,.mv (.t 3),none,[]⟩,⟨some 13,.fieldAddr 4 (.t 1),none,[]⟩,⟨some 14,.load 1 false (.t 13),none,[]⟩,⟨some 15,.mv (.t 4),none,[]⟩,⟨some 16,.idxS 5 (.t 14) (.t 15),none,[]⟩,⟨some 17,.load 5 true (.t 16),none,[]⟩,⟨some 18,.call (.c (.p (.fn F_r3_depth))) [(.t 17)],none,[]⟩,⟨some 19,.bin false .add (.c (.p (.int .i64 1))) (.t 18),none,[]⟩,⟨some 20,.mx (.t 12) (.t 19),none,[]⟩,⟨some 3,.mv (.t 20),none,[]⟩] [1,3,4])) (.reg [⟨some 10,.mv (.t 4),none,[]⟩,⟨some 11,.bin false .add (.t 10) (.c (.p (.int .i64 1))),none,[]⟩,⟨some 4,.mv (.t 11),none,[]⟩] [1,3,4]))
def sf_r3_depth : SF := ⟨.seq (.reg [⟨some 1,.box 5 (.t 0),none,[]⟩,⟨some 2,.mv (.c (.p (.int .i64 0))),none,[]⟩] [1]) (.seq (.reg [⟨some 3,.mv (.c (.p (.int .i64 0))),none,[]⟩] [1,3]) (.seq (.seq (.reg [⟨some 4,.mv (.c (.p (.int .i64 0))),none,[]⟩] [1,3,4]) (.block 0 (.loop [] [1,3,4] (lb_r3_depth_0)))) (.seq (.reg [⟨some 21,.mv (.t 3),none,[]⟩,⟨some 2,.mv (.t 21),none,[]⟩] [2]) (.ret)))),[.tmp 2],22,⟨fun _ => false,false⟩,none⟩
def sf_r3_ValidName : SF := ⟨.seq (.reg [⟨some 2,.mv (.c (.p (.bool false))),none,[]⟩] [0]) (.seq (.reg [⟨some 3,.mv (.t 0),none,[]⟩,⟨some 4,.call (.c (.p (.fn F_r1_IsName))) [(.t 3)],none,[]⟩,⟨some 5,.mv (.t 4),none,[]⟩,⟨some 6,.mv (.t 0),(some (5,true)),[]⟩,⟨some 7,.call (.c (.p (.fn F_r3_Reserved))) [(.t 6)],(some (5,true)),[]⟩,⟨some 8,.un .not (.t 7),(some (5,true)),[]⟩,⟨some 9,.pick (.t 5) (.t 8) (.c (.p (.bool false))),none,[]⟩,⟨some 2,.mv (.t 9),none,[]⟩] [2]) (.ret)),[.tmp 2],10,⟨fun _ => false,false⟩,none⟩
def lb_r3_wellFormedStmts_0 : SC := .seq (.seq (.reg [⟨some 4,.mv (.t 3),none,[]⟩,⟨some 5,.mv (.t 0),none,[]⟩,⟨some 6,.len false (.t 5),none,[]⟩,⟨some 7,.bin false .lss (.t 4) (.t 6),none,[]⟩] [0,3,7]) (.cond (.t 7) (.skip) (.exit 0))) (.seq (.block 1 (.seq (.reg [⟨some 10,.mv (.t 0),none,[]⟩,⟨some 11,.mv (.t 3),none,[]⟩,⟨some 12,.idxS 17 (.t 10) (.t 11),none,[]⟩,⟨some 13,.load 17 true (.t 12),none,[]⟩,⟨some 14,.call (.c (.p (.fn F_r3_wellFormedStmt))) [(.t 13)],none,[]⟩,⟨some 15,.un .not (.t 14),none,[]⟩,⟨some 16,.mv (.t 15),none,[]⟩,⟨some 17,.mv (.t 0),(some (16,false)),[]⟩,⟨some 18,.mv (.t 3),(some (16,false)),[]⟩,⟨some 19,.idxS 17 (.t 17) (.t 18),(some (16,false)),[]⟩,⟨some 20,.fieldAddr 15 (.t 19),(some (16,false)),[]⟩,⟨some 21,.load 1 false (.t 20),(some (16,false)),[]⟩,⟨some 22,.call (.c (.p (.fn F_r3_wellFormedStmts))) [(.t 21)],(some (16,false)),[]⟩,⟨some 23,.un .not (.t 22),(some (16,false)),[]⟩,⟨some 24,.pick (.t 16) (.c (.p (.bool true))) (.t 23),none,[]⟩,⟨some 25,.mv (.t 24),none,[]⟩,⟨some 26,.mv (.t 0),(some (25,false)),[]⟩,⟨some 27,.mv (.t 3),(some (25,false)),[]⟩,⟨some 28,.idxS 17 (.t 26) (.t 27),(some (25,false)),[]⟩,⟨some 29,.fieldAddr 16 (.t 28),(some (25,false)),[]⟩,⟨some 30,.load 1 false (.t 29),(some (25,false)),[]⟩,⟨some 31,.call (.c (.p (.fn F_r3_wellFormedStmts))) [(.t 30)],(some (25,false)),[]⟩,⟨some 32,.un .not (.t 31),(some (25,false)),[]⟩,⟨some 33,.pick (.t 25) (.c (.p (.bool true))) (.t 32),none,[]⟩] [0,3,33]) (.cond (.t 33) (.seq (.reg [⟨some 2,.mv (.c (.p (.bool false))),none,[]⟩] [2]) (.ret)) (.skip)))) (.reg [⟨some 8,.mv (.t 3),none,[]⟩,⟨some 9,.bin false .add (.t 8) (.c (.p (.int .i64 1))),none,[]⟩,⟨some 3,.mv (.t 9),none,[]⟩] [0,3]))
def sf_r3_wellFormedStmts : SF := ⟨.seq (.reg [⟨some 2,.mv (.c (.p (.bool false))),none,[]⟩] [0]) (.seq (.seq (.reg [⟨some 3,.mv (.c (.p (.int .i64 0))),none,[]⟩] [0,3]) (.block 0 (.loop [] [0,3] (lb_r3_wellFormedStmts_0)))) (.seq (.reg [⟨some 2,.mv (.c (.p (.bool true))),none,[]⟩] [2]) (.ret))),[.tmp 2],34,⟨fun _ => false,false⟩,none⟩
def lb_r3_wellFormedExpr_0 : SC := .seq (.seq (.reg [⟨some 5,.mv (.t 3),none,[]⟩,⟨some 6,.fieldAddr 4 (.t 1),none,[]⟩,⟨some 7,.load 1 false (.t 6),none,[]⟩,⟨some 8,.len false (.t 7),none,[]⟩,⟨some 9,.bin false .lss (.t 5) (.t 8),none,[]⟩] [1,3,9]) (.cond (.t 9) (.skip) (.exit 0))) (.seq (.block 1 (.seq (.reg [⟨some 12,.fieldAddr 4 (.t 1),none,[]⟩,⟨some 13,.load 1 false (.t 12),none,[]⟩,⟨some 14,.mv (.t 3),none,[]⟩,⟨some 15,.idxS 5 (.t 13) (.t 14),none,[]⟩,⟨some 16,.load 5 true (.t 15),none,[]⟩,⟨some 17,.call (.c (.p (.fn F_r3_wellFormedExpr))) [(.t 16)],none,[]⟩,⟨some 18,.un .not (.t 17),none,[]⟩] [1,3,18]) (.cond (.t 18) (.seq (.reg [⟨some 2,.mv (.c (.p (.bool false))),none,[]⟩] [2]) (.ret)) (.skip)))) (.reg [⟨some 10,.mv (.t 3),none,[]⟩,⟨some 11,.bin false .add (.t 10) (.c (.p (.int .i64 1))),none,[]⟩,⟨some 3,.mv (.t 11),none,[]⟩] [1,3]))
def sf_r3_wellFormedExpr : SF := ⟨.seq (.reg [⟨some 1,.box 5 (.t 0),none,[]⟩,⟨some 2,.mv (.c (.p (.bool false))),none,[]⟩] [1]) (.seq (.seq (.reg [⟨some 3,.mv (.c (.p (.int .i64 0))),none,[]⟩] [1,3]) (.block 0 (.loop [] [1,3] (lb_r3_wellFormedExpr_0)))) (.seq (.reg [⟨some 19,.fieldAddr 4 (.t 1),none,[]⟩,⟨some 20,.load 1 false (.t 19),none,[]⟩,⟨some 21,.len false (.t 20),none,[]⟩,⟨some 4,.mv (.t 21),none,[]⟩] [1,4]) (.seq (.seq (.reg [⟨some 22,.fieldAddr 0 (.t 1),none,[]⟩,⟨some 23,.load 1 false (.t 22),none,[]⟩] [1,4,23]) (.block 2 (.seq (.reg [⟨some 25,.bin false .eql (.t 23) (.c (.p (.int .i64 1))),none,[]⟩,⟨some 24,.mv (.t 25),none,[]⟩] [1,4,23,24]) (.cond (.t 24) (.seq (.reg [⟨some 26,.mv (.t 4),none,[]⟩,⟨some 27,.bin false .eql (.t 26) (.c (.p (.int .i64 0))),none,[]⟩,⟨some 28,.mv (.t 27),none,[]⟩,⟨some 29,.fieldAddr 2 (.t 1),(some (28,true)),[]⟩,⟨some 30,.load 1 false (.t 29),(some (28,true)),[]⟩,⟨some 31,.bin false .eql (.t 30) (.c (.p (.str []))),(some (28,true)),[]⟩,⟨some 32,.pick (.t 28) (.t 31) (.c (.p (.bool false))),none,[]⟩,⟨some 33,.mv (.t 32),none,[]⟩,⟨some 34,.fieldAddr 3 (.t 1),(some (33,true)),[]⟩,⟨some 35,.load 1 false (.t 34),(some (33,true)),[]⟩,⟨some 36,.bin false .eql (.t 35) (.c (.p (.int .i64 0))),(some (33,true)),[]⟩,⟨some 37,.pick (.t 33) (.t 36) (.c (.p (.bool false))),none,[]⟩,⟨some 2,.mv (.t 37),none,[]⟩] [2]) (.ret)) (.seq (.reg [⟨some 39,.bin false .eql (.t 23) (.c (.p (.int .i64 2))),none,[]⟩,⟨some 38,.mv (.t 39),none,[]⟩] [1,4,23,38]) (.cond (.t 38) (.seq (.reg [⟨some 40,.mv (.t 4),none,[]⟩,⟨some 41,.bin false .eql (.t 40) (.c (.p (.int .i64 0))),none,[]⟩,⟨some 42,.mv (.t 41),none,[]⟩,⟨some 43,.fieldAddr 1 (.t 1),(some (42,true)),[]⟩,⟨some 44,.load 1 false (.t 43),(some (42,true)),[]⟩,⟨some 45,.bin false .eql (.t 44) (.c (.p (.int .i64 0))),(some (42,true)),[]⟩,⟨some 46,.pick (.t 42) (.t 45) (.c (.p (.bool false))),none,[]⟩,⟨some 47,.mv (.t 46),none,[]⟩,⟨some 48,.fieldAddr 3 (.t 1),(some (47,true)),[]⟩,⟨some 49,.load 1 false (.t 48),(some (47,true)),[]⟩,⟨some 50,.bin false .eql (.t 49) (.c (.p (.int .i64 0))),(some (47,true)),[]⟩,⟨some 51,.pick (.t 47) (.t 50) (.c (.p (.bool false))),none,[]⟩,⟨some 52,.mv (.t 51),none,[]⟩,⟨some 53,.fieldAddr 2 (.t 1),(some (52,true)),[]⟩,⟨some 54,.load 1 false (.t 53),(some (52,true)),[]⟩,⟨some 55,.call (.c (.p (.fn F_r3_ValidName))) [(.t 54)],(some (52,true)),[]⟩,⟨some 56,.pick (.t 52) (.t 55) (.c (.p (.bool false))),none,[]⟩,⟨some 2,.mv (.t 56),none,[]⟩] [2]) (.ret)) (.seq (.reg [⟨some 58,.bin false .eql (.t 23) (.c (.p (.int .i64 3))),none,[]⟩,⟨some 57,.mv (.t 58),none,[]⟩] [1,4,23,57]) (.cond (.t 57) (.seq (.reg [⟨some 59,.mv (.t 4),none,[]⟩,⟨some 60,.bin false .eql (.t 59) (.c (.p (.int .i64 1))),none,[]⟩,⟨some 61,.mv (.t 60),none,[]⟩,⟨some 62,.fieldAddr 1 (.t 1),(some (61,true)),[]⟩,⟨some 63,.load 1 false (.t 62),(some (61,true)),[]⟩,⟨some 64,.bin false .eql (.t 63) (.c (.p (.int .i64 0))),(some (61,true)),[]⟩,⟨some 65,.pick (.t 61) (.t 64) (.c (.p (.bool false))),none,[]⟩,⟨some 66,.mv (.t 65),none,[]⟩,⟨some 67,.fieldAddr 3 (.t 1),(some (66,true)),[]⟩,⟨some 68,.load 1 false (.t 67),(some (66,true)),[]⟩,⟨some 69,.bin false .eql (.t 68) (.c (.p (.int .i64 0))),(some (66,true)),[]⟩,⟨some 70,.pick (.t 66) (.t 69) (.c (.p (.bool false))),none,[]⟩,⟨some 71,.mv (.t 70),none,[]⟩,⟨some 72,.fieldAddr 2 (.t 1),(some (71,true)),[]⟩,⟨some 73,.load 1 false (.t 72),(some (71,true)),[]⟩,⟨some 74,.call (.c (.p (.fn F_r3_ValidName))) [(.t 73)],(some (71,true)),[]⟩,⟨some 75,.pick (.t 71) (.t 74) (.c (.p (.bool false))),none,[]⟩,⟨some 2,.mv (.t 75),none,[]⟩] [2]) (.ret)) (.seq (.reg [⟨some 77,.bin false .eql (.t 23) (.c (.p (.int .i64 4))),none,[]⟩,⟨some 76,.mv (.t 77),none,[]⟩] [1,4,23,76]) (.cond (.t 76) (.seq (.reg [⟨some 78,.fieldAddr 1 (.t 1),none,[]⟩,⟨some 79,.load 1 false (.t 78),none,[]⟩,⟨some 80,.bin false .eql (.t 79) (.c (.p (.int .i64 0))),none,[]⟩,⟨some 81,.mv (.t 80),none,[]⟩,⟨some 82,.fieldAddr 2 (.t 1),(some (81,true)),[]⟩,⟨some 83,.load 1 false (.t 82),(some (81,true)),[]⟩,⟨some 84,.bin false .eql (.t 83) (.c (.p (.str []))),(some (81,true)),[]⟩,⟨some 85,.pick (.t 81) (.t 84) (.c (.p (.bool false))),none,[]⟩,⟨some 86,.mv (.t 85),none,[]⟩,⟨some 87,.mv (.t 4),(some (86,true)),[]⟩,⟨some 88,.bin false .eql (.t 87) (.c (.p (.int .i64 2))),(some (86,true)),[]⟩,⟨some 89,.mv (.t 88),(some (86,true)),[]⟩,⟨some 90,.fieldAddr 3 (.t 1),(some (89,true)),[]⟩,⟨some 91,.load 1 false (.t 90),(some (89,true)),[]⟩,⟨some 92,.call (.c (.p (.fn F_r3_IsBinaryOp))) [(.t 91)],(some (89,true)),[]⟩,⟨some 93,.pick (.t 89) (.t 92) (.c (.p (.bool false))),(some (86,true)),[]⟩,⟨some 94,.mv (.t 93),(some (86,true)),[]⟩,⟨some 95,.mv (.t 4),(some (94,false)),[]⟩,⟨some 96,.bin false .eql (.t 95) (.c (.p (.int .i64 1))),(some (94,false)),[]⟩,⟨some 97,.mv (.t 96),(some (94,false)),[]⟩,⟨some 98,.fieldAddr 3 (.t 1),(some (97,true)),[]⟩,⟨some 99,.load 1 false (.t 98),(some (97,true)),[]⟩,⟨some 100,.bin false .eql (.t 99) (.c (.p (.int .i64 20))),(some (97,true)),[]⟩,⟨some 101,.mv (.t 100),(some (97,true)),[]⟩,⟨some 102,.fieldAddr 3 (.t 1),(some (101,false)),[]⟩,⟨some 103,.load 1 false (.t 102),(some (101,false)),[]⟩,⟨some 104,.bin false .eql (.t 103) (.c (.p (.int .i64 21))),(some (101,false)),[]⟩,⟨some 105,.pick (.t 101) (.c (.p (.bool true))) (.t 104),(some (97,true)),[]⟩,⟨some 106,.pick (.t 97) (.t 105) (.c (.p (.bool false))),(some (94,false)),[]⟩,⟨some 107,.pick (.t 94) (.c (.p (.bool true))) (.t 106),(some (86,true)),[]⟩,⟨some 108,.pick (.t 86) (.t 107) (.c (.p (.bool false))),none,[]⟩,⟨some 2,.mv (.t 108),none,[]⟩] [2]) (.ret)) (.seq (.reg [⟨some 110,.bin false .eql (.t 23) (.c (.p (.int .i64 5))),none,[]⟩,⟨some 109,.mv (.t 110),none,[]⟩] [1,4,109]) (.cond (.t 109) (.seq (.reg [⟨some 111,.mv (.t 4),none,[]⟩,⟨some 112,.bin false .eql (.t 111) (.c (.p (.int .i64 3))),none,[]⟩,⟨some 113,.mv (.t 112),none,[]⟩,⟨some 114,.fieldAddr 1 (.t 1),(some (113,true)),[]⟩,⟨some 115,.load 1 false (.t 114),(some (113,true)),[]⟩,⟨some 116,.bin false .eql (.t 115) (.c (.p (.int .i64 0))),(some (113,true)),[]⟩,⟨some 117,.pick (.t 113) (.t 116) (.c (.p (.bool false))),none,[]⟩,⟨some 118,.mv (.t 117),none,[]⟩,⟨some 119,.fieldAddr 2 (.t 1),(some (118,true)),[]⟩,⟨some 120,.load 1 false (.t 119),(some (118,true)),[]⟩,⟨some 121,.bin false .eql (.t 120) (.c (.p (.str []))),(some (118,true)),[]⟩,⟨some 122,.pick (.t 118) (.t 121) (.c (.p (.bool false))),none,[]⟩,⟨some 123,.mv (.t 122),none,[]⟩,⟨some 124,.fieldAddr 3 (.t 1),(some (123,true)),[]⟩,⟨some 125,.load 1 false (.t 124),(some (123,true)),[]⟩,⟨some 126,.bin false .eql (.t 125) (.c (.p (.int .i64 0))),(some (123,true)),[]⟩,⟨some 127,.pick (.t 123) (.t 126) (.c (.p (.bool false))),none,[]⟩,⟨some 2,.mv (.t 127),none,[]⟩] [2]) (.ret)) (.skip))))))))))))) (.seq (.reg [⟨some 2,.mv (.c (.p (.bool false))),none,[]⟩] [2]) (.ret))))),[.tmp 2],128,⟨fun _ => false,false⟩,none⟩
def lb_r3_contains_0 : SC := .seq (.seq (.reg [⟨some 6,.mv (.t 5),none,[]⟩,⟨some 7,.mv (.t 0),none,[]⟩,⟨some 8,.len false (.t 7),none,[]⟩,⟨some 9,.bin false .lss (.t 6) (.t 8),none,[]⟩] [0,1,5,9]) (.cond (.t 9) (.skip) (.exit 0))) (.seq (.block 1 (.seq (.reg [⟨some 12,.mv (.t 0),none,[]⟩,⟨some 13,.mv (.t 5),none,[]⟩,⟨some 14,.idxS 1 (.t 12) (.t 13),none,[]⟩,⟨some 15,.load 1 false (.t 14),none,[]⟩,⟨some 16,.mv (.t 1),none,[]⟩,⟨some 17,.bin false .eql (.t 15) (.t 16),none,[]⟩] [0,1,5,17]) (.cond (.t 17) (.seq (.reg [⟨some 4,.mv (.c (.p (.bool true))),none,[]⟩] [4]) (.ret)) (.skip)))) (.reg [⟨some 10,.mv (.t 5),none,[]⟩,⟨some 11,.bin false .add (.t 10) (.c (.p (.int .i64 1))),none,[]⟩,⟨some 5,.mv (.t 11),none,[]⟩] [0,1,5]))
def sf_r3_contains : SF := ⟨.seq (.reg [⟨some 4,.mv (.c (.p (.bool false))),none,[]⟩] [0,1]) (.seq (.seq (.reg [⟨some 5,.mv (.c (.p (.int .i64 0))),none,[]⟩] [0,1,5]) (.block 0 (.loop [] [0,1,5] (lb_r3_contains_0)))) (.seq (.reg [⟨some 4,.mv (.c (.p (.bool false))),none,[]⟩] [4]) (.ret))),[.tmp 4],18,⟨fun _ => false,false⟩,none⟩
def lb_r3_FindFunc_0 : SC := .seq (.seq (.reg [⟨some 6,.mv (.t 5),none,[]⟩,⟨some 7,.fieldAddr 1 (.t 2),none,[]⟩,⟨some 8,.load 1 false (.t 7),none,[]⟩,⟨some 9,.len false (.t 8),none,[]⟩,⟨some 10,.bin false .lss (.t 6) (.t 9),none,[]⟩] [1,2,5,10]) (.cond (.t 10) (.skip) (.exit 0))) (.seq (.block 1 (.seq (.reg [⟨some 13,.fieldAddr 1 (.t 2),none,[]⟩,⟨some 14,.load 1 false (.t 13),none,[]⟩,⟨some 15,.mv (.t 5),none,[]⟩,⟨some 16,.idxS 9 (.t 14) (.t 15),none,[]⟩,⟨some 17,.fieldAddr 0 (.t 16),none,[]⟩,⟨some 18,.load 1 false (.t 17),none,[]⟩,⟨some 19,.mv (.t 1),none,[]⟩,⟨some 20,.bin false .eql (.t 18) (.t 19),none,[]⟩] [1,2,5,20]) (.cond (.t 20) (.seq (.reg [⟨some 21,.mv (.t 5),none,[]⟩,⟨some 4,.mv (.t 21),none,[]⟩] [4]) (.ret)) (.skip)))) (.reg [⟨some 11,.mv (.t 5),none,[]⟩,⟨some 12,.bin false .add (.t 11) (.c (.p (.int .i64 1))),none,[]⟩,⟨some 5,.mv (.t 12),none,[]⟩] [1,2,5]))
def sf_r3_FindFunc : SF := ⟨.seq (.reg [⟨some 2,.box 2 (.t 0),none,[]⟩,⟨some 4,.mv (.c (.p (.int .i64 0))),none,[]⟩] [1,2]) (.seq (.seq (.reg [⟨some 5,.mv (.c (.p (.int .i64 0))),none,[]⟩] [1,2,5]) (.block 0 (.loop [] [1,2,5] (lb_r3_FindFunc_0)))) (.seq (.reg [⟨some 4,.mv (.c (.p (.int .i64 (-1)))),none,[]⟩] [4]) (.ret))),[.tmp 4],22,⟨fun _ => false,false⟩,none⟩
def lb_r3_scope_definedStmt_0 : SC := .seq (.seq (.reg [⟨some 6,.mv (.t 5),none,[]⟩,⟨some 7,.fieldAddr 14 (.t 3),none,[]⟩,⟨some 8,.load 1 false (.t 7),none,[]⟩,⟨some 9,.len false (.t 8),none,[]⟩,⟨some 10,.bin false .lss (.t 6) (.t 9),none,[]⟩] [2,3,5,10]) (.cond (.t 10) (.skip) (.exit 0))) (.seq (.block 1 (.seq (.seq (.reg [] [2,3,5]) (.reg [⟨some 65536,.load 4 true (.t 2),none,[(.c (.p .nilp))]⟩,⟨some 65537,.fieldAddr 14 (.t 3),none,[]⟩,⟨some 65538,.load 1 false (.t 65537),none,[(.c (.p .nilp))]⟩,⟨some 65539,.mv (.t 5),none,[]⟩,⟨some 65540,.idxS 5 (.t 65538) (.t 65539),none,[]⟩,⟨some 65541,.load 5 true (.t 65540),none,[(.c (.p .nilp))]⟩,⟨some 65542,.call (.c (.p (.fn F_r3_scope_definedExpr))) [(.t 65536),(.t 65541)],none,[]⟩,⟨some 65543,.un .not (.t 65542),none,[]⟩,⟨some 20,.mv (.t 65543),none,[]⟩] [2,3,5,20])) (.cond (.t 20) (.seq (.reg [⟨some 4,.mv (.c (.p (.bool false))),none,[]⟩] [4]) (.ret)) (.skip)))) (.reg [⟨some 11,.mv (.t 5),none,[]⟩,⟨some 12,.bin false .add (.t 11) (.c (.p (.int .i64 1))),none,[]⟩,⟨some 5,.mv (.t 12),none,[]⟩] [2,3,5]))
def sf_r3_scope_definedStmt : SF := ⟨.seq (.reg [⟨some 2,.box 4 (.t 0),none,[]⟩,⟨some 3,.box 17 (.t 1),none,[]⟩,⟨some 4,.mv (.c (.p (.bool false))),none,[]⟩] [2,3]) (.seq (.seq (.reg [⟨some 5,.mv (.c (.p (.int .i64 0))),none,[]⟩] [2,3,5]) (.block 0 (.loop [] [2,3,5] (lb_r3_scope_definedStmt_0)))) (.seq (.seq (.reg [⟨some 21,.load 4 true (.t 2),none,[]⟩,⟨some 22,.fieldAddr 4 (.t 3),none,[]⟩,⟨some 23,.load 5 true (.t 22),none,[]⟩,⟨some 24,.call (.c (.p (.fn F_r3_scope_definedExpr))) [(.t 21),(.t 23)],none,[]⟩,⟨some 25,.un .not (.t 24),none,[]⟩,⟨some 26,.mv (.t 25),none,[]⟩,⟨some 27,.load 4 true (.t 2),(some (26,false)),[]⟩,⟨some 28,.fieldAddr 9 (.t 3),(some (26,false)),[]⟩,⟨some 29,.load 5 true (.t 28),(some (26,false)),[]⟩,⟨some 30,.call (.c (.p (.fn F_r3_scope_definedExpr))) [(.t 27),(.t 29)],(some (26,false)),[]⟩,⟨some 31,.un .not (.t 30),(some (26,false)),[]⟩,⟨some 32,.pick (.t 26) (.c (.p (.bool true))) (.t 31),none,[]⟩] [2,3,32]) (.cond (.t 32) (.seq (.reg [⟨some 4,.mv (.c (.p (.bool false))),none,[]⟩] [4]) (.ret)) (.skip))) (.seq (.seq (.reg [⟨some 33,.fieldAddr 0 (.t 3),none,[]⟩,⟨some 34,.load 1 false (.t 33),none,[]⟩] [2,3,34]) (.block 2 (.seq (.reg [⟨some 36,.bin false .eql (.t 34) (.c (.p (.int .i64 1))),none,[]⟩,⟨some 35,.mv (.t 36),none,[]⟩] [2,3,34,35]) (.cond (.t 35) (.seq (.reg [⟨some 37,.fieldAddr 0 (.t 2),none,[]⟩,⟨some 38,.load 1 false (.t 37),none,[]⟩,⟨some 39,.fieldAddr 1 (.t 3),none,[]⟩,⟨some 40,.load 1 false (.t 39),none,[]⟩,⟨some 41,.call (.c (.p (.fn F_r3_contains))) [(.t 38),(.t 40)],none,[]⟩,⟨some 4,.mv (.t 41),none,[]⟩] [4]) (.ret)) (.seq (.reg [⟨some 43,.bin false .eql (.t 34) (.c (.p (.int .i64 6))),none,[]⟩,⟨some 42,.mv (.t 43),none,[]⟩] [2,3,34,42]) (.cond (.t 42) (.seq (.reg [⟨some 44,.fieldAddr 0 (.t 2),none,[]⟩,⟨some 45,.load 1 false (.t 44),none,[]⟩,⟨some 46,.fieldAddr 1 (.t 3),none,[]⟩,⟨some 47,.load 1 false (.t 46),none,[]⟩,⟨some 48,.call (.c (.p (.fn F_r3_contains))) [(.t 45),(.t 47)],none,[]⟩,⟨some 49,.mv (.t 48),none,[]⟩,⟨some 50,.fieldAddr 2 (.t 2),(some (49,true)),[]⟩,⟨some 51,.load 2 true (.t 50),(some (49,true)),[]⟩,⟨some 52,.fieldAddr 2 (.t 3),(some (49,true)),[]⟩,⟨some 53,.load 1 false (.t 52),(some (49,true)),[]⟩,⟨some 54,.call (.c (.p (.fn F_r3_FindFunc))) [(.t 51),(.t 53)],(some (49,true)),[]⟩,⟨some 55,.bin false .geq (.t 54) (.c (.p (.int .i64 0))),(some (49,true)),[]⟩,⟨some 56,.pick (.t 49) (.t 55) (.c (.p (.bool false))),none,[]⟩,⟨some 4,.mv (.t 56),none,[]⟩] [4]) (.ret)) (.seq (.reg [⟨some 58,.bin false .eql (.t 34) (.c (.p (.int .i64 2))),none,[]⟩,⟨some 57,.mv (.t 58),none,[]⟩] [2,3,57]) (.cond (.t 57) (.seq (.reg [⟨some 59,.fieldAddr 1 (.t 2),none,[]⟩,⟨some 60,.load 1 false (.t 59),none,[]⟩,⟨some 61,.fieldAddr 1 (.t 3),none,[]⟩,⟨some 62,.load 1 false (.t 61),none,[]⟩,⟨some 63,.call (.c (.p (.fn F_r3_contains))) [(.t 60),(.t 62)],none,[]⟩,⟨some 4,.mv (.t 63),none,[]⟩] [4]) (.ret)) (.skip))))))))) (.seq (.reg [⟨some 4,.mv (.c (.p (.bool true))),none,[]⟩] [4]) (.ret))))),[.tmp 4],64,⟨fun _ => false,false⟩,none⟩
def lb_r1_IsName_0 : SC := .seq (.seq (.reg [⟨some 4,.mv (.t 3),none,[]⟩,⟨some 5,.mv (.t 0),none,[]⟩,⟨some 6,.len true (.t 5),none,[]⟩,⟨some 7,.bin false .lss (.t 4) (.t 6),none,[]⟩] [0,3,7]) (.cond (.t 7) (.skip) (.exit 0))) (.seq (.block 1 (.seq (.reg [⟨some 10,.mv (.t 0),none,[]⟩,⟨some 11,.mv (.t 3),none,[]⟩,⟨some 12,.strAt (.t 10) (.t 11),none,[]⟩,⟨some 13,.call (.c (.p (.fn F_r1_isLetter))) [(.t 12)],none,[]⟩,⟨some 14,.un .not (.t 13),none,[]⟩,⟨some 15,.mv (.t 14),none,[]⟩,⟨some 16,.mv (.t 0),(some (15,true)),[]⟩,⟨some 17,.mv (.t 3),(some (15,true)),[]⟩,⟨some 18,.strAt (.t 16) (.t 17),(some (15,true)),[]⟩,⟨some 19,.call (.c (.p (.fn F_r1_isDigit))) [(.t 18)],(some (15,true)),[]⟩,⟨some 20,.un .not (.t 19),(some (15,true)),[]⟩,⟨some 21,.mv (.t 20),(some (15,true)),[]⟩,⟨some 22,.mv (.t 3),(some (21,false)),[]⟩,⟨some 23,.bin false .eql (.t 22) (.c (.p (.int .i64 0))),(some (21,false)),[]⟩,⟨some 24,.pick (.t 21) (.c (.p (.bool true))) (.t 23),(some (15,true)),[]⟩,⟨some 25,.pick (.t 15) (.t 24) (.c (.p (.bool false))),none,[]⟩] [0,3,25]) (.cond (.t 25) (.seq (.reg [⟨some 2,.mv (.c (.p (.bool false))),none,[]⟩] [2]) (.ret)) (.skip)))) (.reg [⟨some 8,.mv (.t 3),none,[]⟩,⟨some 9,.bin false .add (.t 8) (.c (.p (.int .i64 1))),none,[]⟩,⟨some 3,.mv (.t 9),none,[]⟩] [0,3]))
def sf_r1_IsName : SF := ⟨.seq (.reg [⟨some 2,.mv (.c (.p (.bool false))),none,[]⟩] [0]) (.seq (.seq (.reg [⟨some 3,.mv (.c (.p (.int .i64 0))),none,[]⟩] [0,3]) (.block 0 (.loop [] [0,3] (lb_r1_IsName_0)))) (.seq (.reg [⟨some 26,.mv (.t 0),none,[]⟩,⟨some 27,.len true (.t 26),none,[]⟩,⟨some 28,.bin false .geq (.t 27) (.c (.p (.int .i64 1))),none,[]⟩,⟨some 29,.mv (.t 28),none,[]⟩,⟨some 30,.mv (.t 0),(some (29,true)),[]⟩,⟨some 31,.len true (.t 30),(some (29,true)),[]⟩,⟨some 32,.bin false .leq (.t 31) (.c (.p (.int .i64 16))),(some (29,true)),[]⟩,⟨some 33,.pick (.t 29) (.t 32) (.c (.p (.bool false))),none,[]⟩,⟨some 2,.mv (.t 33),none,[]⟩] [2]) (.ret))),[.tmp 2],34,⟨fun _ => false,false⟩,none⟩
def lb_r3_wellFormedStmt_0 : SC := .seq (.seq (.reg [⟨some 5,.mv (.t 3),none,[]⟩,⟨some 6,.fieldAddr 14 (.t 1),none,[]⟩,⟨some 7,.load 1 false (.t 6),none,[]⟩,⟨some 8,.len false (.t 7),none,[]⟩,⟨some 9,.bin false .lss (.t 5) (.t 8),none,[]⟩] [1,3,9]) (.cond (.t 9) (.skip) (.exit 0))) (.seq (.block 1 (.seq (.reg [⟨some 12,.fieldAddr 14 (.t 1),none,[]⟩,⟨some 13,.load 1 false (.t 12),none,[]⟩,⟨some 14,.mv (.t 3),none,[]⟩,⟨some 15,.idxS 5 (.t 13) (.t 14),none,[]⟩,⟨some 16,.load 5 true (.t 15),none,[]⟩,⟨some 17,.call (.c (.p (.fn F_r3_wellFormedExpr))) [(.t 16)],none,[]⟩,⟨some 18,.un .not (.t 17),none,[]⟩] [1,3,18]) (.cond (.t 18) (.seq (.reg [⟨some 2,.mv (.c (.p (.bool false))),none,[]⟩] [2]) (.ret)) (.skip)))) (.reg [⟨some 10,.mv (.t 3),none,[]⟩,⟨some 11,.bin false .add (.t 10) (.c (.p (.int .i64 1))),none,[]⟩,⟨some 3,.mv (.t 11),none,[]⟩] [1,3]))
def sf_r3_wellFormedStmt : SF := ⟨.seq (.reg [⟨some 1,.box 17 (.t 0),none,[]⟩,⟨some 2,.mv (.c (.p (.bool false))),none,[]⟩] [1]) (.seq (.seq (.reg [⟨some 3,.mv (.c (.p (.int .i64 0))),none,[]⟩] [1,3]) (.block 0 (.loop [] [1,3] (lb_r3_wellFormedStmt_0)))) (.seq (.reg [⟨some 19,.fieldAddr 15 (.t 1),none,[]⟩,⟨some 20,.load 1 false (.t 19),none,[]⟩,⟨some 21,.len false (.t 20),none,[]⟩,⟨some 22,.bin false .eql (.t 21) (.c (.p (.int .i64 0))),none,[]⟩,⟨some 23,.mv (.t 22),none,[]⟩,⟨some 24,.fieldAddr 16 (.t 1),(some (23,true)),[]⟩,⟨some 25,.load 1 false (.t 24),(some (23,true)),[]⟩,⟨some 26,.len false (.t 25),(some (23,true)),[]⟩,⟨some 27,.bin false .eql (.t 26) (.c (.p (.int .i64 0))),(some (23,true)),[]⟩,⟨some 28,.pick (.t 23) (.t 27) (.c (.p (.bool false))),none,[]⟩,⟨some 4,.mv (.t 28),none,[]⟩] [1,4]) (.seq (.seq (.reg [⟨some 29,.fieldAddr 0 (.t 1),none,[]⟩,⟨some 30,.load 1 false (.t 29),none,[]⟩] [1,4,30]) (.block 2 (.seq (.reg [⟨some 32,.bin false .eql (.t 30) (.c (.p (.int .i64 1))),none,[]⟩,⟨some 31,.mv (.t 32),none,[]⟩] [1,4,30,31]) (.cond (.t 31) (.seq (.reg [⟨some 33,.mv (.t 4),none,[]⟩,⟨some 34,.mv (.t 33),none,[]⟩,⟨some 35,.fieldAddr 1 (.t 1),(some (34,true)),[]⟩,⟨some 36,.load 1 false (.t 35),(some (34,true)),[]⟩,⟨some 37,.call (.c (.p (.fn F_r3_ValidName))) [(.t 36)],(some (34,true)),[]⟩,⟨some 38,.pick (.t 34) (.t 37) (.c (.p (.bool false))),none,[]⟩,⟨some 39,.mv (.t 38),none,[]⟩,⟨some 40,.fieldAddr 2 (.t 1),(some (39,true)),[]⟩,⟨some 41,.load 1 false (.t 40),(some (39,true)),[]⟩,⟨some 42,.bin false .eql (.t 41) (.c (.p (.str []))),(some (39,true)),[]⟩,⟨some 43,.pick (.t 39) (.t 42) (.c (.p (.bool false))),none,[]⟩,⟨some 44,.mv (.t 43),none,[]⟩,⟨some 45,.fieldAddr 3 (.t 1),(some (44,true)),[]⟩,⟨some 46,.load 1 false (.t 45),(some (44,true)),[]⟩,⟨some 47,.bin false .eql (.t 46) (.c (.p (.int .i64 0))),(some (44,true)),[]⟩,⟨some 48,.pick (.t 44) (.t 47) (.c (.p (.bool false))),none,[]⟩,⟨some 49,.mv (.t 48),none,[]⟩,⟨some 50,.fieldAddr 4 (.t 1),(some (49,true)),[]⟩,⟨some 51,.load 5 true (.t 50),(some (49,true)),[]⟩,⟨some 52,.call (.c (.p (.fn F_r3_isZero))) [(.t 51)],(some (49,true)),[]⟩,⟨some 53,.pick (.t 49) (.t 52) (.c (.p (.bool false))),none,[]⟩,⟨some 54,.mv (.t 53),none,[]⟩,⟨some 55,.fieldAddr 14 (.t 1),(some (54,true)),[]⟩,⟨some 56,.load 1 false (.t 55),(some (54,true)),[]⟩,⟨some 57,.len false (.t 56),(some (54,true)),[]⟩,⟨some 58,.bin false .eql (.t 57) (.c (.p (.int .i64 0))),(some (54,true)),[]⟩,⟨some 59,.pick (.t 54) (.t 58) (.c (.p (.bool false))),none,[]⟩,⟨some 60,.mv (.t 59),none,[]⟩,⟨some 61,.fieldAddr 9 (.t 1),(some (60,true)),[]⟩,⟨some 62,.load 5 true (.t 61),(some (60,true)),[]⟩,⟨some 63,.call (.c (.p (.fn F_r3_wellFormedExpr))) [(.t 62)],(some (60,true)),[]⟩,⟨some 64,.pick (.t 60) (.t 63) (.c (.p (.bool false))),none,[]⟩,⟨some 2,.mv (.t 64),none,[]⟩] [2]) (.ret)) (.seq (.reg [⟨some 66,.bin false .eql (.t 30) (.c (.p (.int .i64 2))),none,[]⟩,⟨some 65,.mv (.t 66),none,[]⟩] [1,4,30,65]) (.cond (.t 65) (.seq (.reg [⟨some 67,.mv (.t 4),none,[]⟩,⟨some 68,.mv (.t 67),none,[]⟩,⟨some 69,.fieldAddr 1 (.t 1),(some (68,true)),[]⟩,⟨some 70,.load 1 false (.t 69),(some (68,true)),[]⟩,⟨some 71,.call (.c (.p (.fn F_r3_ValidName))) [(.t 70)],(some (68,true)),[]⟩,⟨some 72,.pick (.t 68) (.t 71) (.c (.p (.bool false))),none,[]⟩,⟨some 73,.mv (.t 72),none,[]⟩,⟨some 74,.fieldAddr 2 (.t 1),(some (73,true)),[]⟩,⟨some 75,.load 1 false (.t 74),(some (73,true)),[]⟩,⟨some 76,.bin false .eql (.t 75) (.c (.p (.str []))),(some (73,true)),[]⟩,⟨some 77,.pick (.t 73) (.t 76) (.c (.p (.bool false))),none,[]⟩,⟨some 78,.mv (.t 77),none,[]⟩,⟨some 79,.fieldAddr 3 (.t 1),(some (78,true)),[]⟩,⟨some 80,.load 1 false (.t 79),(some (78,true)),[]⟩,⟨some 81,.bin false .eql (.t 80) (.c (.p (.int .i64 0))),(some (78,true)),[]⟩,⟨some 82,.pick (.t 78) (.t 81) (.c (.p (.bool false))),none,[]⟩,⟨some 83,.mv (.t 82),none,[]⟩,⟨some 84,.fieldAddr 4 (.t 1),(some (83,true)),[]⟩,⟨some 85,.load 5 true (.t 84),(some (83,true)),[]⟩,⟨some 86,.call (.c (.p (.fn F_r3_wellFormedExpr))) [(.t 85)],(some (83,true)),[]⟩,⟨some 87,.pick (.t 83) (.t 86) (.c (.p (.bool false))),none,[]⟩,⟨some 88,.mv (.t 87),none,[]⟩,⟨some 89,.fieldAddr 14 (.t 1),(some (88,true)),[]⟩,⟨some 90,.load 1 false (.t 89),(some (88,true)),[]⟩,⟨some 91,.len false (.t 90),(some (88,true)),[]⟩,⟨some 92,.bin false .eql (.t 91) (.c (.p (.int .i64 0))),(some (88,true)),[]⟩,⟨some 93,.pick (.t 88) (.t 92) (.c (.p (.bool false))),none,[]⟩,⟨some 94,.mv (.t 93),none,[]⟩,⟨some 95,.fieldAddr 9 (.t 1),(some (94,true)),[]⟩,⟨some 96,.load 5 true (.t 95),(some (94,true)),[]⟩,⟨some 97,.call (.c (.p (.fn F_r3_wellFormedExpr))) [(.t 96)],(some (94,true)),[]⟩,⟨some 98,.pick (.t 94) (.t 97) (.c (.p (.bool false))),none,[]⟩,⟨some 2,.mv (.t 98),none,[]⟩] [2]) (.ret)) (.seq (.reg [⟨some 100,.bin false .eql (.t 30) (.c (.p (.int .i64 3))),none,[]⟩,⟨some 99,.mv (.t 100),none,[]⟩] [1,4,30,99]) (.cond (.t 99) (.seq (.reg [⟨some 101,.load 17 true (.t 1),none,[]⟩,⟨some 102,.call (.c (.p (.fn F_r3_onlyValue))) [(.t 101)],none,[]⟩,⟨some 103,.mv (.t 102),none,[]⟩,⟨some 104,.fieldAddr 9 (.t 1),(some (103,true)),[]⟩,⟨some 105,.load 5 true (.t 104),(some (103,true)),[]⟩,⟨some 106,.call (.c (.p (.fn F_r3_wellFormedExpr))) [(.t 105)],(some (103,true)),[]⟩,⟨some 107,.pick (.t 103) (.t 106) (.c (.p (.bool false))),none,[]⟩,⟨some 2,.mv (.t 107),none,[]⟩] [2]) (.ret)) (.seq (.reg [⟨some 109,.bin false .eql (.t 30) (.c (.p (.int .i64 4))),none,[]⟩,⟨some 108,.mv (.t 109),none,[]⟩] [1,4,30,108]) (.cond (.t 108) (.seq (.reg [⟨some 110,.load 17 true (.t 1),none,[]⟩,⟨some 111,.call (.c (.p (.fn F_r3_onlyValue))) [(.t 110)],none,[]⟩,⟨some 112,.mv (.t 111),none,[]⟩,⟨some 113,.fieldAddr 9 (.t 1),(some (112,true)),[]⟩,⟨some 114,.load 5 true (.t 113),(some (112,true)),[]⟩,⟨some 115,.call (.c (.p (.fn F_r3_wellFormedExpr))) [(.t 114)],(some (112,true)),[]⟩,⟨some 116,.pick (.t 112) (.t 115) (.c (.p (.bool false))),none,[]⟩,⟨some 117,.mv (.t 116),none,[]⟩,⟨some 118,.fieldAddr 16 (.t 1),(some (117,true)),[]⟩,⟨some 119,.load 1 false (.t 118),(some (117,true)),[]⟩,⟨some 120,.len false (.t 119),(some (117,true)),[]⟩,⟨some 121,.bin false .eql (.t 120) (.c (.p (.int .i64 0))),(some (117,true)),[]⟩,⟨some 122,.pick (.t 117) (.t 121) (.c (.p (.bool false))),none,[]⟩,⟨some 2,.mv (.t 122),none,[]⟩] [2]) (.ret)) (.seq (.reg [⟨some 124,.bin false .eql (.t 30) (.c (.p (.int .i64 5))),none,[]⟩,⟨some 123,.mv (.t 124),none,[]⟩] [1,4,30,123]) (.cond (.t 123) (.seq (.reg [⟨some 125,.mv (.t 4),none,[]⟩,⟨some 126,.mv (.t 125),none,[]⟩,⟨some 127,.load 17 true (.t 1),(some (126,true)),[]⟩,⟨some 128,.call (.c (.p (.fn F_r3_onlyValue))) [(.t 127)],(some (126,true)),[]⟩,⟨some 129,.pick (.t 126) (.t 128) (.c (.p (.bool false))),none,[]⟩,⟨some 130,.mv (.t 129),none,[]⟩,⟨some 131,.fieldAddr 9 (.t 1),(some (130,true)),[]⟩,⟨some 132,.load 5 true (.t 131),(some (130,true)),[]⟩,⟨some 133,.call (.c (.p (.fn F_r3_wellFormedExpr))) [(.t 132)],(some (130,true)),[]⟩,⟨some 134,.pick (.t 130) (.t 133) (.c (.p (.bool false))),none,[]⟩,⟨some 2,.mv (.t 134),none,[]⟩] [2]) (.ret)) (.seq (.reg [⟨some 136,.bin false .eql (.t 30) (.c (.p (.int .i64 6))),none,[]⟩,⟨some 135,.mv (.t 136),none,[]⟩] [1,4,30,135]) (.cond (.t 135) (.seq (.reg [⟨some 137,.mv (.t 4),none,[]⟩,⟨some 138,.mv (.t 137),none,[]⟩,⟨some 139,.fieldAddr 1 (.t 1),(some (138,true)),[]⟩,⟨some 140,.load 1 false (.t 139),(some (138,true)),[]⟩,⟨some 141,.call (.c (.p (.fn F_r3_ValidName))) [(.t 140)],(some (138,true)),[]⟩,⟨some 142,.pick (.t 138) (.t 141) (.c (.p (.bool false))),none,[]⟩,⟨some 143,.mv (.t 142),none,[]⟩,⟨some 144,.fieldAddr 2 (.t 1),(some (143,true)),[]⟩,⟨some 145,.load 1 false (.t 144),(some (143,true)),[]⟩,⟨some 146,.call (.c (.p (.fn F_r3_ValidName))) [(.t 145)],(some (143,true)),[]⟩,⟨some 147,.pick (.t 143) (.t 146) (.c (.p (.bool false))),none,[]⟩,⟨some 148,.mv (.t 147),none,[]⟩,⟨some 149,.fieldAddr 3 (.t 1),(some (148,true)),[]⟩,⟨some 150,.load 1 false (.t 149),(some (148,true)),[]⟩,⟨some 151,.bin false .eql (.t 150) (.c (.p (.int .i64 0))),(some (148,true)),[]⟩,⟨some 152,.pick (.t 148) (.t 151) (.c (.p (.bool false))),none,[]⟩,⟨some 153,.mv (.t 152),none,[]⟩,⟨some 154,.fieldAddr 4 (.t 1),(some (153,true)),[]⟩,⟨some 155,.load 5 true (.t 154),(some (153,true)),[]⟩,⟨some 156,.call (.c (.p (.fn F_r3_isZero))) [(.t 155)],(some (153,true)),[]⟩,⟨some 157,.pick (.t 153) (.t 156) (.c (.p (.bool false))),none,[]⟩,⟨some 158,.mv (.t 157),none,[]⟩,⟨some 159,.fieldAddr 9 (.t 1),(some (158,true)),[]⟩,⟨some 160,.load 5 true (.t 159),(some (158,true)),[]⟩,⟨some 161,.call (.c (.p (.fn F_r3_isZero))) [(.t 160)],(some (158,true)),[]⟩,⟨some 162,.pick (.t 158) (.t 161) (.c (.p (.bool false))),none,[]⟩,⟨some 2,.mv (.t 162),none,[]⟩] [2]) (.ret)) (.seq (.reg [⟨some 164,.bin false .eql (.t 30) (.c (.p (.int .i64 7))),none,[]⟩,⟨some 163,.mv (.t 164),none,[]⟩] [1,4,163]) (.cond (.t 163) (.seq (.reg [⟨some 165,.mv (.t 4),none,[]⟩,⟨some 166,.mv (.t 165),none,[]⟩,⟨some 167,.fieldAddr 1 (.t 1),(some (166,true)),[]⟩,⟨some 168,.load 1 false (.t 167),(some (166,true)),[]⟩,⟨some 169,.bin false .eql (.t 168) (.c (.p (.str []))),(some (166,true)),[]⟩,⟨some 170,.pick (.t 166) (.t 169) (.c (.p (.bool false))),none,[]⟩,⟨some 171,.mv (.t 170),none,[]⟩,⟨some 172,.fieldAddr 2 (.t 1),(some (171,true)),[]⟩,⟨some 173,.load 1 false (.t 172),(some (171,true)),[]⟩,⟨some 174,.bin false .eql (.t 173) (.c (.p (.str []))),(some (171,true)),[]⟩,⟨some 175,.pick (.t 171) (.t 174) (.c (.p (.bool false))),none,[]⟩,⟨some 176,.mv (.t 175),none,[]⟩,⟨some 177,.fieldAddr 3 (.t 1),(some (176,true)),[]⟩,⟨some 178,.load 1 false (.t 177),(some (176,true)),[]⟩,⟨some 179,.bin false .geq (.t 178) (.c (.p (.int .i64 0))),(some (176,true)),[]⟩,⟨some 180,.pick (.t 176) (.t 179) (.c (.p (.bool false))),none,[]⟩,⟨some 181,.mv (.t 180),none,[]⟩,⟨some 182,.fieldAddr 3 (.t 1),(some (181,true)),[]⟩,⟨some 183,.load 1 false (.t 182),(some (181,true)),[]⟩,⟨some 184,.bin false .leq (.t 183) (.c (.p (.int .i64 1000000))),(some (181,true)),[]⟩,⟨some 185,.pick (.t 181) (.t 184) (.c (.p (.bool false))),none,[]⟩,⟨some 186,.mv (.t 185),none,[]⟩,⟨some 187,.fieldAddr 4 (.t 1),(some (186,true)),[]⟩,⟨some 188,.load 5 true (.t 187),(some (186,true)),[]⟩,⟨some 189,.call (.c (.p (.fn F_r3_isZero))) [(.t 188)],(some (186,true)),[]⟩,⟨some 190,.pick (.t 186) (.t 189) (.c (.p (.bool false))),none,[]⟩,⟨some 191,.mv (.t 190),none,[]⟩,⟨some 192,.fieldAddr 9 (.t 1),(some (191,true)),[]⟩,⟨some 193,.load 5 true (.t 192),(some (191,true)),[]⟩,⟨some 194,.call (.c (.p (.fn F_r3_isZero))) [(.t 193)],(some (191,true)),[]⟩,⟨some 195,.pick (.t 191) (.t 194) (.c (.p (.bool false))),none,[]⟩,⟨some 196,.mv (.t 195),none,[]⟩,⟨some 197,.fieldAddr 14 (.t 1),(some (196,true)),[]⟩,⟨some 198,.load 1 false (.t 197),(some (196,true)),[]⟩,⟨some 199,.len false (.t 198),(some (196,true)),[]⟩,⟨some 200,.bin false .eql (.t 199) (.c (.p (.int .i64 0))),(some (196,true)),[]⟩,⟨some 201,.pick (.t 196) (.t 200) (.c (.p (.bool false))),none,[]⟩,⟨some 2,.mv (.t 201),none,[]⟩] [2]) (.ret)) (.skip))))))))))))))))) (.seq (.reg [⟨some 2,.mv (.c (.p (.bool false))),none,[]⟩] [2]) (.ret))))),[.tmp 2],202,⟨fun _ => false,false⟩,none⟩
def sf_r3_IsBinaryOp : SF := ⟨.seq (.reg [⟨some 2,.mv (.c (.p (.bool false))),none,[]⟩] [0]) (.seq (.reg [⟨some 3,.mv (.t 0),none,[]⟩,⟨some 4,.bin false .geq (.t 3) (.c (.p (.int .i64 4))),none,[]⟩,⟨some 5,.mv (.t 4),none,[]⟩,⟨some 6,.mv (.t 0),(some (5,true)),[]⟩,⟨some 7,.bin false .leq (.t 6) (.c (.p (.int .i64 18))),(some (5,true)),[]⟩,⟨some 8,.pick (.t 5) (.t 7) (.c (.p (.bool false))),none,[]⟩,⟨some 2,.mv (.t 8),none,[]⟩] [2]) (.ret)),[.tmp 2],9,⟨fun _ => false,false⟩,none⟩
def sf_r3_isZero : SF := ⟨.seq (.reg [⟨some 1,.box 5 (.t 0),none,[]⟩,⟨some 2,.mv (.c (.p (.bool false))),none,[]⟩] [1]) (.seq (.reg [⟨some 3,.fieldAddr 0 (.t 1),none,[]⟩,⟨some 4,.load 1 false (.t 3),none,[]⟩,⟨some 5,.bin false .eql (.t 4) (.c (.p (.int .i64 0))),none,[]⟩,⟨some 6,.mv (.t 5),none,[]⟩,⟨some 7,.fieldAddr 1 (.t 1),(some (6,true)),[]⟩,⟨some 8,.load 1 false (.t 7),(some (6,true)),[]⟩,⟨some 9,.bin false .eql (.t 8) (.c (.p (.int .i64 0))),(some (6,true)),[]⟩,⟨some 10,.pick (.t 6) (.t 9) (.c (.p (.bool false))),none,[]⟩,⟨some 11,.mv (.t 10),none,[]⟩,⟨some 12,.fieldAddr 2 (.t 1),(some (11,true)),[]⟩,⟨some 13,.load 1 false (.t 12),(some (11,true)),[]⟩,⟨some 14,.bin false .eql (.t 13) (.c (.p (.str []))),(some (11,true)),[]⟩,⟨some 15,.pick (.t 11) (.t 14) (.c (.p (.bool false))),none,[]⟩,⟨some 16,.mv (.t 15),none,[]⟩,⟨some 17,.fieldAddr 3 (.t 1),(some (16,true)),[]⟩,⟨some 18,.load 1 false (.t 17),(some (16,true)),[]⟩,⟨some 19,.bin false .eql (.t 18) (.c (.p (.int .i64 0))),(some (16,true)),[]⟩,⟨some 20,.pick (.t 16) (.t 19) (.c (.p (.bool false))),none,[]⟩,⟨some 21,.mv (.t 20),none,[]⟩,⟨some 22,.fieldAddr 4 (.t 1),(some (21,true)),[]⟩,⟨some 23,.load 1 false (.t 22),(some (21,true)),[]⟩,⟨some 24,.len false (.t 23),(some (21,true)),[]⟩,⟨some 25,.bin false .eql (.t 24) (.c (.p (.int .i64 0))),(some (21,true)),[]⟩,⟨some 26,.pick (.t 21) (.t 25) (.c (.p (.bool false))),none,[]⟩,⟨some 2,.mv (.t 26),none,[]⟩] [2]) (.ret)),[.tmp 2],27,⟨fun _ => false,false⟩,none⟩
def sf_r3_onlyValue : SF := ⟨.seq (.reg [⟨some 1,.box 17 (.t 0),none,[]⟩,⟨some 2,.mv (.c (.p (.bool false))),none,[]⟩] [1]) (.seq (.reg [⟨some 3,.fieldAddr 1 (.t 1),none,[]⟩,⟨some 4,.load 1 false (.t 3),none,[]⟩,⟨some 5,.bin false .eql (.t 4) (.c (.p (.str []))),none,[]⟩,⟨some 6,.mv (.t 5),none,[]⟩,⟨some 7,.fieldAddr 2 (.t 1),(some (6,true)),[]⟩,⟨some 8,.load 1 false (.t 7),(some (6,true)),[]⟩,⟨some 9,.bin false .eql (.t 8) (.c (.p (.str []))),(some (6,true)),[]⟩,⟨some 10,.pick (.t 6) (.t 9) (.c (.p (.bool false))),none,[]⟩,⟨some 11,.mv (.t 10),none,[]⟩,⟨some 12,.fieldAddr 3 (.t 1),(some (11,true)),[]⟩,⟨some 13,.load 1 false (.t 12),(some (11,true)),[]⟩,⟨some 14,.bin false .eql (.t 13) (.c (.p (.int .i64 0))),(some (11,true)),[]⟩,⟨some 15,.pick (.t 11) (.t 14) (.c (.p (.bool false))),none,[]⟩,⟨some 16,.mv (.t 15),none,[]⟩,⟨some 17,.fieldAddr 4 (.t 1),(some (16,true)),[]⟩,⟨some 18,.load 5 true (.t 17),(some (16,true)),[]⟩,⟨some 19,.call (.c (.p (.fn F_r3_isZero))) [(.t 18)],(some (16,true)),[]⟩,⟨some 20,.pick (.t 16) (.t 19) (.c (.p (.bool false))),none,[]⟩,⟨some 21,.mv (.t 20),none,[]⟩,⟨some 22,.fieldAddr 14 (.t 1),(some (21,true)),[]⟩,⟨some 23,.load 1 false (.t 22),(some (21,true)),[]⟩,⟨some 24,.len false (.t 23),(some (21,true)),[]⟩,⟨some 25,.bin false .eql (.t 24) (.c (.p (.int .i64 0))),(some (21,true)),[]⟩,⟨some 26,.pick (.t 21) (.t 25) (.c (.p (.bool false))),none,[]⟩,⟨some 2,.mv (.t 26),none,[]⟩] [2]) (.ret)),[.tmp 2],27,⟨fun _ => false,false⟩,none⟩
end
end Go.Proofs.YtpkchglfgkkcbaaDoor.Vs
namespace Go.Proofs.YtpkchglfgkkcbaaDoor.Vs
open Go.Proofs.YtpkchglfgkkcbaaDoor.Ev
noncomputable section
attribute [local go_sem] bodyS evS evL want chkV opV isEf neV efV env look put putO keep bi un1 v0 binC isSh binI wb next2 regS condS outS resS tmS nb nl blockS virts round trunc_same lenC idxSC loadC one binS asN_nat faC cellsAt2 storeC cellsOf isCell setAt buildC partsC fillC repC rowC toPs chunks nilChk callV ev2 fieldC unC pickC slcC slcP bnd obnd asN_lit asN_0 asN_1 asN_2 asN_mod asN_modl succ_ne succ_pos' leave3 leave_p undefC
set_option linter.unusedSimpArgs false
section
variable {T : FuncId → Option SF}
theorem wrap_in {n : Int} (h : -9223372036854775808 ≤ n) (h2 : n ≤ 9223372036854775807) : IntKind.i64.wrap n = n := by
  unfold IntKind.wrap
  simp only [IntKind.bits, IntKind.signed, Bool.true_and, ge_iff_le, decide_eq_true_eq]
  by_cases h0 : 0 ≤ n
  · have h1 : n % 2 ^ 64 = n := Int.emod_eq_of_lt h0 (by omega)
    rw [h1, if_neg (by omega)]
  · have h1 : n % 2 ^ 64 = n + 2 ^ 64 := by
      have := Int.add_emod_right (a := n) (b := 2 ^ 64)
      rw [← this]
      exact Int.emod_eq_of_lt (by omega) (by omega)
    rw [h1, if_pos (by omega)]
    omega
theorem tmod_emod {a : Int} (h : 0 ≤ a) (m : Int) : a.tmod m = a % m := Int.tmod_eq_emod_of_nonneg h
theorem pick_eq (hT : T F_kp_Pick = some sf_kp_Pick) (n m : Int) (hm : 0 < m) (hm2 : m ≤ 1000000) (τ : St2) : go T F_kp_Pick [.i n, .i m] τ = some (.i (n % m), τ) := by
  rw [go_eq, hT]
  have h0 : m ≠ 0 := by omega
  by_cases h : n.tmod m < 0
  · have h2 : n.tmod m + m = n % m := by
      rw [Int.tmod_eq_emod] at h ⊢
      have := Int.emod_nonneg n h0
      have := Int.emod_lt_of_pos n hm
      split at h
      · omega
      · rw [if_neg (by assumption)]
        have : (m.natAbs : Int) = m := by omega
        omega
    have h3 : IntKind.i64.wrap (n % m) = n % m := wrap_in (by have := Int.emod_nonneg n h0; omega) (by have := Int.emod_lt_of_pos n hm; omega)
    simp [go_sem, at_len, at_add, set_len, set_add, sf_kp_Pick, h0, h, h2, h3, -Bool.exists_bool]
  · have h2 : n.tmod m = n % m := by
      rw [Int.tmod_eq_emod] at h ⊢
      have := Int.emod_nonneg n h0
      have := Int.emod_lt_of_pos n hm
      split at h
      · rw [if_pos (by assumption)]; omega
      · have : (m.natAbs : Int) = m := by omega
        omega
    rw [h2] at h
    simp [go_sem, at_len, at_add, set_len, set_add, sf_kp_Pick, h0, h, h2, -Bool.exists_bool]
theorem next_gd (hT : T F_kp_Reader_Next = some sf_kp_Reader_Next) (r : Rdr) : GD T F_kp_Reader_Next [] r (.i r.hd) r.next := by
  intro τ l d hl hr
  refine ⟨?_, r.ok_next hr⟩
  rw [go_eq, hT]
  obtain ⟨ts, lo⟩ := r
  cases ts with
  | e x => refine ⟨d, ?_⟩; simp [go_sem, at_sl, at_sa, set_sl, set_sa, sf_kp_Reader_Next, get_l0, hl, Rdr.B, TS.c, Rdr.hd, Rdr.next, TS.tape, -Bool.exists_bool]
  | m lt g o ns =>
    cases ns with
    | nil => refine ⟨d, ?_⟩; simp [go_sem, at_sl, at_sa, set_sl, set_sa, sf_kp_Reader_Next, get_l0, hl, Rdr.B, TS.c, Rdr.hd, Rdr.next, TS.tape, -Bool.exists_bool]
    | cons a ns =>
      obtain ⟨h1, h2, cs, d', h3, h4, h5, h6⟩ := hr
      have h60 := h6 0 (by simp)
      simp only [Nat.add_zero, List.getElem_cons_zero] at h60
      have h7 : o + 1 ≤ g := by simp at h5; omega
      have hl0 := leave_sp0 (B := ⟨[.ms lt g o (a :: ns).length ucap, .p (.int .i64 lo)], .live, 2, d⟩) (B' := ⟨[.ms lt g (o + 1) ns.length ucap, .p (.int .i64 lo)], .live, 2, true⟩) (by simp [refsBs, refsB, nl]; omega) hl (.int .i64 a)
      simp only [List.length_cons] at hl0
      refine ⟨true, ?_⟩
      simp [go_sem, at_sl, at_sa, set_sl, set_sa, sf_kp_Reader_Next, get_l0, get_o0, hl, h1, h3, h4, h60, h7, slcM, hl0, Rdr.B, TS.c, Rdr.hd, Rdr.next, TS.tape, TS.tail, -Bool.exists_bool]
def ab (m : Nat) : Str := if m % 2 = 0 then [97] else [98]
def namesL (f : Nat) : List Str := if f = 0 then [[120], [121], [105], [106]] else [[110], [105]]
theorem names_eq' (hT : T F_kp_names = some sf_kp_names) (f : Nat) (τ : St2) : go T F_kp_names [.i f] τ = some (.p (.list true 1 (rowsN (namesL f))), τ) := by
  rw [go_eq, hT]
  by_cases h : f = 0
  · simp [go_sem, at_len, at_add, set_len, set_add, sf_kp_names, h, namesL, rowsN, -Bool.exists_bool]
  · simp [go_sem, at_len, at_add, set_len, set_add, sf_kp_names, h, namesL, rowsN, -Bool.exists_bool]
def edgesL : List Int := [0, 1, -1, 2, -9223372036854775808, 9223372036854775807, 4294967296, -2147483648, 63, 64]
def wordL (n raw : Int) : Int := if n % 24 < 10 then edgesL.getD (n % 24).toNat 0 else if n % 24 < 22 then (IntKind.i64.wrap (n.tdiv 24)) % 17 - 6 else raw
theorem word_eq (hT : T F_kp_Word = some sf_kp_Word) (hP : T F_kp_Pick = some sf_kp_Pick) (n raw : Int) (τ : St2) : go T F_kp_Word [.i n, .i raw] τ = some (.i (wordL n raw), τ) := by
  have hp := fun n m hm hm2 τ => pick_eq hP n m hm hm2 τ
  have h0 := Int.emod_nonneg n (show (24:Int) ≠ 0 by decide)
  have h1 := Int.emod_lt_of_pos n (show (0:Int) < 24 by decide)
  rw [go_eq, hT]
  obtain ⟨k, hk⟩ : ∃ k : Nat, n % 24 = k := ⟨(n % 24).toNat, by omega⟩
  by_cases ha : n % 24 < 10
  · have hk10 : k < 10 := by omega
    rw [hk] at ha
    have : k = 0 ∨ k = 1 ∨ k = 2 ∨ k = 3 ∨ k = 4 ∨ k = 5 ∨ k = 6 ∨ k = 7 ∨ k = 8 ∨ k = 9 := by omega
    rcases this with rfl | rfl | rfl | rfl | rfl | rfl | rfl | rfl | rfl | rfl <;> simp [go_sem, at_len, at_add, set_len, set_add, sf_kp_Word, hp, hk, wordL, edgesL, -Bool.exists_bool]
  · by_cases hb : n % 24 < 22
    · have hw : IntKind.i64.wrap (IntKind.i64.wrap (n.tdiv 24) % 17 - 6) = IntKind.i64.wrap (n.tdiv 24) % 17 - 6 := wrap_in (by omega) (by omega)
      simp [go_sem, at_len, at_add, set_len, set_add, sf_kp_Word, hp, ha, hb, wordL, hw, -Bool.exists_bool]
    · simp [go_sem, at_len, at_add, set_len, set_add, sf_kp_Word, hp, ha, hb, wordL, -Bool.exists_bool]
end
end
end Go.Proofs.YtpkchglfgkkcbaaDoor.Vs
namespace Go.Proofs.YtpkchglfgkkcbaaDoor.Vs
open Go.Proofs.YtpkchglfgkkcbaaDoor.Ev
noncomputable section
attribute [local go_sem] bodyS evS evL want chkV opV isEf neV efV env look put putO keep bi un1 v0 binC isSh binI wb next2 regS condS outS resS tmS nb nl blockS virts round trunc_same lenC idxSC loadC one binS asN_nat faC cellsAt2 storeC cellsOf isCell setAt buildC partsC fillC repC rowC toPs chunks at_sl at_sa set_sl set_sa nilChk callV ev2 fieldC unC pickC slcC slcP bnd obnd asN_lit asN_0 asN_1 asN_2 asN_mod asN_modl succ_ne succ_pos' leave3 leave_p undefC
set_option linter.unusedSimpArgs false
def pk (n : Int) : Nat := (n % 16).toNat
def pm (n : Int) : Nat := ((IntKind.i64.wrap (n.tdiv 16)) % 1000).toNat
theorem pk_eq (n : Int) : n % 16 = (pk n : Int) := by unfold pk; omega
theorem pm_eq (n : Int) : (IntKind.i64.wrap (n.tdiv 16)) % 1000 = (pm n : Int) := by unfold pm; omega
theorem pk_lt (n : Int) : pk n < 16 := by unfold pk; omega
theorem pm_lt (n : Int) : pm n < 1000 := by unfold pm; omega
def eVar (s : Str) : LE := .mk 2 0 s 0 none []
def eNum (n : Int) : LE := .mk 1 n [] 0 none []
def eIdx (s : Str) (a : LE) : LE := .mk 3 0 s 0 (some true) [a]
def eCond (a b c : LE) : LE := .mk 5 0 [] 0 (some true) [a, b, c]
def eOp (o : Int) (l : List LE) : LE := .mk 4 0 [] o (some true) l
def nm (f m : Nat) : Str := (namesL f).getD (m % (namesL f).length) []
def genE (f : Nat) : Nat → Rdr → LE × Rdr
  | 0, r => if pk r.hd % 2 = 0 ∨ 8 < pk r.hd then (eVar (nm f (pm r.hd)), r.next) else (eNum (wordL (pm r.hd) r.hd), r.next)
  | d + 1, r =>
    if pk r.hd < 4 then (if pk r.hd % 2 = 0 then (eVar (nm f (pm r.hd)), r.next) else (eNum (wordL (pm r.hd) r.hd), r.next))
    else if pk r.hd < 6 then (eIdx (ab (pm r.hd)) (genE f d r.next).1, (genE f d r.next).2)
    else if pk r.hd < 7 then (eCond (genE f d r.next).1 (genE f d (genE f d r.next).2).1 (genE f d (genE f d (genE f d r.next).2).2).1, (genE f d (genE f d (genE f d r.next).2).2).2)
    else if pk r.hd < 9 then (eOp (20 + (pm r.hd % 2 : Nat)) [(genE f d r.next).1], (genE f d r.next).2)
    else (eOp (4 + (pm r.hd % 15 : Nat)) [(genE f d r.next).1, (genE f d (genE f d r.next).2).1], (genE f d (genE f d r.next).2).2)
theorem tmod_nat (a b : Nat) : (a : Int).tmod (b : Int) = ((a % b : Nat) : Int) := rfl
theorem nm_at (f m : Nat) : (rowsN (namesL f))[m % (namesL f).length]? = some [.str (nm f m)] := by
  have hpos : 0 < (namesL f).length := by unfold namesL; split <;> simp
  have hlt := Nat.mod_lt m hpos
  simp [rowsN, nm, hlt]
theorem ab_at (m : Nat) : ([[PV.str [97]], [PV.str [98]]] : List (List PV))[m % 2]? = some [.str (ab m)] := by
  unfold ab
  rcases Nat.mod_two_eq_zero_or_one m with h | h <;> simp [h]
theorem np_at (m : Nat) : ([[PV.int .i64 20], [PV.int .i64 21]] : List (List PV))[m % 2]? = some [.int .i64 (20 + (m % 2 : Nat))] := by
  rcases Nat.mod_two_eq_zero_or_one m with h | h <;> simp [h]
section
variable {T : FuncId → Option SF}
structure HGen (T : FuncId → Option SF) : Prop where
  pick : T F_kp_Pick = some sf_kp_Pick
  word : T F_kp_Word = some sf_kp_Word
  next : T F_kp_Reader_Next = some sf_kp_Reader_Next
  names : T F_kp_names = some sf_kp_names
  expr : T F_kp_Reader_Expr = some sf_kp_Reader_Expr
theorem leave_sa5 {τ : St2} {l : Nat} {B B' : B2} (hB : refsBs τ.length B'.cells = true) (hl : l < τ.length) (L : St2) (a b c d e : PV) : leave false (τ.set l B) (τ.set l B' ++ L) [.agg [.p a, .p b, .p c, .p d, .p e]] = some (.agg [.p a, .p b, .p c, .p d, .p e], τ.set l B') := leave_sa hB hl L [a, b, c, d, e]
theorem leF {a b : Nat} (h : ¬ a < b) : ¬ ((a : Int) < (b : Int)) := by omega
set_option maxRecDepth 4000 in
theorem expr_zero (H : HGen T) (f : Nat) (r : Rdr) : GD T F_kp_Reader_Expr [.i f, .i 4] r (.agg ((genE f 0 r).1.row.map .p)) (genE f 0 r).2 := by
  intro τ l dd hl hr
  obtain ⟨g, g', h1, -, hr1⟩ := (next_gd H.next r).own hl hr
  have hp := fun n m hm hm2 τ => pick_eq H.pick n m hm hm2 τ
  have hw := fun n raw τ => word_eq H.word H.pick n raw τ
  have hnm := fun τ => names_eq' H.names f τ
  have hlen : (rowsN (namesL f)).length = (namesL f).length := by simp [rowsN]
  have hpos : ¬ ((namesL f).length = 0) := by unfold namesL; split <;> simp
  have hat := nm_at f (pm r.hd)
  have hk := pk_eq r.hd
  have hm := pm_eq r.hd
  have hla := fun d L a b c e f => leave_sa5 (B := r.B dd) (Rdr.refs hr1 d) hl L a b c e f
  refine ⟨?_, by unfold genE; split <;> exact hr1⟩
  rw [go_eq, H.expr]
  unfold genE
  generalize hkk : pk r.hd = k at hk ⊢
  generalize pm r.hd = m at hm hat ⊢
  have hk2 : (k : Int).tmod 2 = ((k % 2 : Nat) : Int) := rfl
  have hz : ((0 : Nat) : Int) = 0 := rfl
  have ho : ((1 : Nat) : Int) = 1 := rfl
  by_cases c0 : k < 4
  · have c0i : (k : Int) < 4 := by omega
    have c2 : ¬ 8 < k := by omega
    have c2i : ¬ 8 < (k : Int) := by omega
    by_cases c1 : k % 2 = 0
    · rw [c1, hz] at hk2
      simp [go_sem, sf_kp_Reader_Expr, h1, hp, hw, hnm, hlen, hpos, hat, hk, hm, hla, tmod_nat, hk2, c0i, c1, eVar, LE.row, rowsE, slP, -Bool.exists_bool]
      exact ⟨_, rfl⟩
    · rw [show k % 2 = 1 by omega, ho] at hk2
      simp [go_sem, sf_kp_Reader_Expr, h1, hp, hw, hnm, hlen, hpos, hk, hm, hla, tmod_nat, hk2, c0i, c1, c2, c2i, eNum, LE.row, rowsE, slP, -Bool.exists_bool]
      exact ⟨_, rfl⟩
  · have c0i : ¬ (k : Int) < 4 := by omega
    by_cases c1 : k % 2 = 0
    · rw [c1, hz] at hk2
      simp [go_sem, sf_kp_Reader_Expr, h1, hp, hw, hnm, hlen, hpos, hat, hk, hm, hla, tmod_nat, hk2, c0i, c1, eVar, LE.row, rowsE, slP, -Bool.exists_bool]
      exact ⟨_, rfl⟩
    · rw [show k % 2 = 1 by omega, ho] at hk2
      by_cases c2 : 8 < k
      · have c2i : 8 < (k : Int) := by omega
        simp [go_sem, sf_kp_Reader_Expr, h1, hp, hw, hnm, hlen, hpos, hat, hk, hm, hla, tmod_nat, hk2, c0i, c1, c2, c2i, eVar, LE.row, rowsE, slP, -Bool.exists_bool]
        exact ⟨_, rfl⟩
      · have c2i : ¬ 8 < (k : Int) := by omega
        simp [go_sem, sf_kp_Reader_Expr, h1, hp, hw, hnm, hlen, hpos, hat, hk, hm, hla, tmod_nat, hk2, c0i, c1, c2, c2i, eNum, LE.row, rowsE, slP, -Bool.exists_bool]
        exact ⟨_, rfl⟩
end
section
variable {T : FuncId → Option SF}
set_option maxRecDepth 4000 in
theorem expr_succ (H : HGen T) (f d : Nat) (ih : ∀ (deep : Nat) (r : Rdr), d + deep = 4 → GD T F_kp_Reader_Expr [.i f, .i deep] r (.agg ((genE f d r).1.row.map .p)) (genE f d r).2) (deep : Nat) (r : Rdr) (hd : d + 1 + deep = 4) :
    GD T F_kp_Reader_Expr [.i f, .i deep] r (.agg ((genE f (d + 1) r).1.row.map .p)) (genE f (d + 1) r).2 := by
  intro τ l dd hl hr
  obtain ⟨g, g', h1, -, hr1⟩ := (next_gd H.next r).own hl hr
  have hp := fun n m hm hm2 τ => pick_eq H.pick n m hm hm2 τ
  have hw := fun n raw τ => word_eq H.word H.pick n raw τ
  have hnm := fun τ => names_eq' H.names f τ
  have hlen : (rowsN (namesL f)).length = (namesL f).length := by simp [rowsN]
  have hpos : ¬ ((namesL f).length = 0) := by unfold namesL; split <;> simp
  have hat := nm_at f (pm r.hd)
  have hk := pk_eq r.hd
  have hm := pm_eq r.hd
  have hk16 := pk_lt r.hd
  have hdeep : ¬ 3 < (deep : Int) := by omega
  have hwd : IntKind.i64.wrap ((deep : Int) + 1) = (deep : Int) + 1 := wrap_in (by omega) (by omega)
  have i1 := fun r => ih (deep + 1) r (by omega)
  simp only [Int.natCast_add, Int.natCast_one] at i1
  have hab := ab_at (pm r.hd)
  have hnp := np_at (pm r.hd)
  rw [go_eq, H.expr]
  unfold genE
  generalize hkk : pk r.hd = k at hk hk16 ⊢
  generalize pm r.hd = m at hm hat hab hnp ⊢
  have hk2 : (k : Int).tmod 2 = ((k % 2 : Nat) : Int) := rfl
  have hm2 : (m : Int).tmod 2 = ((m % 2 : Nat) : Int) := rfl
  have hm15 : (m : Int).tmod 15 = ((m % 15 : Nat) : Int) := rfl
  have hz : ((0 : Nat) : Int) = 0 := rfl
  have ho : ((1 : Nat) : Int) = 1 := rfl
  by_cases c0 : k < 4
  · have c0i : (k : Int) < 4 := by omega
    have hla := fun d L a b c e f => leave_sa5 (B := r.B dd) (Rdr.refs hr1 d) hl L a b c e f
    by_cases c1 : k % 2 = 0
    · rw [c1, hz] at hk2
      refine ⟨?_, by simpa [c0, c1] using hr1⟩
      simp [go_sem, sf_kp_Reader_Expr, h1, hp, hw, hnm, hlen, hpos, hat, hk, hm, hla, tmod_nat, hk2, c0i, c0, c1, eVar, LE.row, rowsE, slP, -Bool.exists_bool]
      exact ⟨_, rfl⟩
    · rw [show k % 2 = 1 by omega, ho] at hk2
      refine ⟨?_, by simpa [c0, c1] using hr1⟩
      simp [go_sem, sf_kp_Reader_Expr, h1, hp, hw, hnm, hlen, hpos, hk, hm, hla, tmod_nat, hk2, hdeep, c0i, c0, c1, eNum, LE.row, rowsE, slP, -Bool.exists_bool]
      exact ⟨_, rfl⟩
  have c0i : ¬ (k : Int) < 4 := by omega
  obtain ⟨a, r2, e2⟩ : ∃ a r2, genE f d r.next = (a, r2) := ⟨_, _, rfl⟩
  have i2 := i1 r.next
  rw [e2] at i2
  obtain ⟨ka, na, sa, oa, va, ha⟩ := a.row5
  simp only [ha, List.map] at i2
  obtain ⟨g2, g2', h2, h2c, hr2⟩ := i2.own hl hr1
  by_cases c1 : k < 6
  · have c1i : (k : Int) < 6 := by omega
    simp only [c0, c1, if_true, if_false, e2]
    refine ⟨?_, hr2⟩
    have hla := fun d L a b c e f => leave_sa5 (B := r.B dd) (Rdr.refs hr2 d) hl L a b c e f
    simp [go_sem, sf_kp_Reader_Expr, h1, hp, hnm, hk, hm, hm2, hab, hwd, h2c, soil_clean, soil_r, pureAt, okV, okCell, hdeep, hla, c0i, c1i, eIdx, ha, LE.row, rowsE, slP, -Bool.exists_bool]
    exact ⟨_, rfl⟩
  have c1i : ¬ (k : Int) < 6 := by omega
  obtain ⟨b, r3, e3⟩ : ∃ b r3, genE f d r2 = (b, r3) := ⟨_, _, rfl⟩
  have i3 := i1 r2
  rw [e3] at i3
  obtain ⟨kb, nb', sb, ob, vb, hb⟩ := b.row5
  simp only [hb, List.map] at i3
  obtain ⟨g3, g3', h3, h3c, hr3⟩ := i3.own hl hr2
  by_cases c2 : k < 7
  · have c2i : (k : Int) < 7 := by omega
    obtain ⟨c, r4, e4⟩ : ∃ b r3', genE f d r3 = (b, r3') := ⟨_, _, rfl⟩
    have i4 := i1 r3
    rw [e4] at i4
    obtain ⟨kc, nc, sc, oc, vc, hc⟩ := c.row5
    simp only [hc, List.map] at i4
    obtain ⟨g4, g4', h4, h4c, hr4⟩ := i4.own hl hr3
    simp only [c0, c1, c2, if_true, if_false, e2, e3, e4]
    refine ⟨?_, hr4⟩
    have hla := fun d L a b c e f => leave_sa5 (B := r.B dd) (Rdr.refs hr4 d) hl L a b c e f
    simp [go_sem, sf_kp_Reader_Expr, h1, hp, hnm, hk, hm, hwd, h2, h3, h4, hdeep, hla, c0i, c1i, c2i, eCond, ha, hb, hc, LE.row, rowsE, slP, -Bool.exists_bool]
    exact ⟨_, rfl⟩
  have c2i : ¬ (k : Int) < 7 := by omega
  by_cases c3 : k < 9
  · have c3i : (k : Int) < 9 := by omega
    simp only [c0, c1, c2, c3, if_true, if_false, e2]
    refine ⟨?_, hr2⟩
    have hla := fun d L a b c e f => leave_sa5 (B := r.B dd) (Rdr.refs hr2 d) hl L a b c e f
    simp [go_sem, sf_kp_Reader_Expr, h1, hp, hnm, hk, hm, hm2, hnp, hwd, h2c, soil_clean, soil_r, pureAt, okV, okCell, hdeep, hla, c0i, c1i, c2i, c3i, eOp, ha, LE.row, rowsE, slP, -Bool.exists_bool]
    exact ⟨_, rfl⟩
  have c3i : ¬ (k : Int) < 9 := by omega
  have hw4 : IntKind.i64.wrap (4 + (m : Int) % 15) = 4 + (m : Int) % 15 := wrap_in (by omega) (by omega)
  simp only [c0, c1, c2, c3, if_false, e2, e3]
  refine ⟨?_, hr3⟩
  have hla := fun d L a b c e f => leave_sa5 (B := r.B dd) (Rdr.refs hr3 d) hl L a b c e f
  simp [go_sem, sf_kp_Reader_Expr, h1, hp, hnm, hk, hm, hm15, hw4, hwd, h2, h3, hdeep, hla, c0i, c1i, c2i, c3i, eOp, ha, hb, LE.row, rowsE, slP, -Bool.exists_bool]
  exact ⟨_, rfl⟩
theorem expr_gd (H : HGen T) (f : Nat) : ∀ (d deep : Nat) (r : Rdr), d + deep = 4 → GD T F_kp_Reader_Expr [.i f, .i deep] r (.agg ((genE f d r).1.row.map .p)) (genE f d r).2 := by
  intro d
  induction d with
  | zero =>
    intro deep r hd
    obtain rfl : deep = 4 := by omega
    exact expr_zero H f r
  | succ d ih => exact fun deep r hd => expr_succ H f d ih deep r hd
end
def sAssign (s : Str) (v : LE) : LS := .mk 1 s [] 0 e0 v none [] none [] none []
def sStore (s : Str) (a v : LE) : LS := .mk 2 s [] 0 a v none [] none [] none []
def sIf (v : LE) (t e : List LS) : LS := .mk 3 [] [] 0 e0 v none [] (some false) t (some false) e
def sWhile (v : LE) (t : List LS) : LS := .mk 4 [] [] 0 e0 v none [] (some false) t none []
def sOut (v : LE) : LS := .mk 5 [] [] 0 e0 v none [] none [] none []
def sCall (s t : Str) (l : List LE) : LS := .mk 6 s t 0 e0 e0 (some false) l none [] none []
def sTrap (n : Int) : LS := .mk 7 [] [] n e0 e0 none [] none [] none []
def fg (m : Nat) : Str := if m % 2 = 0 then [102] else [103]
def kS (d : Nat) (r : Rdr) : Nat := if (d = 0 ∧ 8 ≤ pk r.hd ∧ pk r.hd < 12) ∨ (10 ≤ r.loops ∧ 10 ≤ pk r.hd) then 0 else pk r.hd
def Rdr.inc (r : Rdr) : Rdr := ⟨r.ts, r.loops + 1⟩
def genL (g : Rdr → LS × Rdr) : Nat → Rdr → List LS × Rdr
  | 0, r => ([], r)
  | n + 1, r => if r.ts.tape = [] then ([], r) else ((g r).1 :: (genL g n (g r).2).1, (genL g n (g r).2).2)
def stmtsOf (g : Rdr → LS × Rdr) (most : Nat) (r : Rdr) : List LS × Rdr := genL g (r.hd % ((most : Int) + 1)).toNat r.next
def genArgs (f m : Nat) (r : Rdr) : List LE × Rdr := if m % 2 = 0 then ([(genE f 2 r).1, (genE f 2 (genE f 2 r).2).1], (genE f 2 (genE f 2 r).2).2) else ([(genE f 2 r).1], (genE f 2 r).2)
def genS1 (f k m : Nat) (sub : Nat → Rdr → List LS × Rdr) (r : Rdr) : LS × Rdr :=
  if k < 6 then (sAssign (nm f m) (genE f 4 r).1, (genE f 4 r).2)
  else if k < 8 then (sStore (ab m) (genE f 2 r).1 (genE f 3 (genE f 2 r).2).1, (genE f 3 (genE f 2 r).2).2)
  else if k < 10 then (sIf (genE f 3 r).1 (sub 3 (genE f 3 r).2).1 (sub 2 (sub 3 (genE f 3 r).2).2).1, (sub 2 (sub 3 (genE f 3 r).2).2).2)
  else if k < 12 then (sWhile (genE f 3 r.inc).1 (sub 3 (genE f 3 r.inc).2).1, (sub 3 (genE f 3 r.inc).2).2)
  else if k < 14 then (sOut (genE f 3 r).1, (genE f 3 r).2)
  else if k < 15 then (sCall (nm f m) (fg m) (genArgs f m r).1, (genArgs f m r).2)
  else (sTrap m, r)
def genS (f : Nat) : Nat → Rdr → LS × Rdr
  | 0, r => genS1 f (kS 0 r) (pm r.hd) (fun _ r => ([], r)) r.next
  | d + 1, r => genS1 f (kS (d + 1) r) (pm r.hd) (stmtsOf (genS f d)) r.next
theorem fg_at (m : Nat) : ([[PV.str [102]], [PV.str [103]]] : List (List PV))[m % 2]? = some [.str (fg m)] := by
  unfold fg
  rcases Nat.mod_two_eq_zero_or_one m with h | h <;> simp [h]
section
variable {T : FuncId → Option SF}
theorem leave_sa17 {τ : St2} {l : Nat} {B B' : B2} (hB : refsBs τ.length B'.cells = true) (hl : l < τ.length) (L : St2) (a b c d e f g h i j k m n o p q r : PV) : leave false (τ.set l B) (τ.set l B' ++ L) [.agg [.p a, .p b, .p c, .p d, .p e, .p f, .p g, .p h, .p i, .p j, .p k, .p m, .p n, .p o, .p p, .p q, .p r]] = some (.agg [.p a, .p b, .p c, .p d, .p e, .p f, .p g, .p h, .p i, .p j, .p k, .p m, .p n, .p o, .p p, .p q, .p r], τ.set l B') := leave_sa hB hl L [a, b, c, d, e, f, g, h, i, j, k, m, n, o, p, q, r]
theorem Rdr.get {τ : St2} {l : Nat} (h : l < τ.length) (r : Rdr) (d : Bool) (L : St2) : (τ.set l (r.B d) ++ L)[l]? = some ⟨[r.ts.c, .p (.int .i64 r.loops)], .live, 2, d⟩ := get_l h
theorem Rdr.fold (r : Rdr) : (⟨[r.ts.c, .p (.int .i64 ((r.loops : Int) + 1))], .live, 2, true⟩ : B2) = r.inc.B true := rfl
structure AtSwitch (tm : Tm) (l n f deep : Nat) (m k : Nat) : Prop where
  t0 : look 0 tm = some (.ptr l 2 0)
  t1 : look 1 tm = some (.i f)
  t2 : look 2 tm = some (.i deep)
  t6 : look 6 tm = some (.ptr n 17 0)
  t8 : look 8 tm = some (.p (.list true 1 (rowsN (namesL f))))
  t9 : look 9 tm = some (.i m)
  t10 : look 10 tm = some (.i k)
def Z17 : B2 := ⟨[.p (.int .i64 0), .p (.str []), .p (.str []), .p (.int .i64 0), .p (.int .i64 0), .p (.int .i64 0), .p (.str []), .p (.int .i64 0), .p .nils, .p (.int .i64 0), .p (.int .i64 0), .p (.str []), .p (.int .i64 0), .p .nils, .p .nils, .p .nils, .p .nils], .live, 17, true⟩
set_option maxRecDepth 4000 in
theorem stmt_pre (H : HGen T) (f d deep : Nat) (r : Rdr) (hd : d + deep = 3) {τ : St2} {l : Nat} (hl : l < τ.length) (hr : r.ts.ok τ l) (dd : Bool) :
    ∃ tm d', evS sf_kp_Reader_Stmt.fl (go T) (preS 6 sf_kp_Reader_Stmt.code) (tmS [.ptr l 2 0, .i f, .i deep] 0) (τ.set l (r.B dd)) = some (.normal, tm, τ.set l (r.next.B d') ++ [Z17]) ∧ AtSwitch tm l τ.length f deep (pm r.hd) (kS d r) := by
  obtain ⟨g, g', h1, -, hr1⟩ := (next_gd H.next r).own hl hr
  have hp := fun n m hm hm2 τ => pick_eq H.pick n m hm hm2 τ
  have hnm := fun τ => names_eq' H.names f τ
  have hk0 := pk_eq r.hd
  have hm := pm_eq r.hd
  have hlo : r.next.loops = r.loops := by unfold Rdr.next; split <;> rfl
  have hget := fun d L => Rdr.get hl r.next d L
  unfold kS
  generalize pk r.hd = k at hk0 ⊢
  generalize pm r.hd = m at hm ⊢
  obtain ⟨Y, hY⟩ : ∃ Y, evS sf_kp_Reader_Stmt.fl (go T) (preS 6 sf_kp_Reader_Stmt.code) (tmS [.ptr l 2 0, .i f, .i deep] 0) (τ.set l (r.B dd)) = Y := ⟨_, rfl⟩
  rw [hY]
  by_cases q1 : 2 < deep
  · have q1i : 2 < (deep : Int) := by omega
    have hd0 : d = 0 := by omega
    by_cases q2 : 8 ≤ k
    · have q2i : 8 ≤ (k : Int) := by omega
      by_cases q3 : k < 12
      · have q3i : (k : Int) < 12 := by omega
        rw [if_pos (by omega)]
        simp [go_sem, preS, sf_kp_Reader_Stmt, h1, hp, hnm, hk0, hm, q1i, q2i, q3i, -Bool.exists_bool] at hY
        subst hY
        exact ⟨_, _, rfl, ⟨rfl, rfl, rfl, rfl, rfl, rfl, rfl⟩⟩
      · have q3i : ¬ (k : Int) < 12 := by omega
        have q5i : 10 ≤ (k : Int) := by omega
        by_cases q4 : 10 ≤ r.loops
        · have q4i : 10 ≤ (r.loops : Int) := by omega
          rw [if_pos (by omega)]
          simp [go_sem, preS, sf_kp_Reader_Stmt, h1, hp, hnm, hk0, hm, hget, hlo, q1i, q2i, q3i, q4i, q5i, -Bool.exists_bool] at hY
          subst hY
          exact ⟨_, _, rfl, ⟨rfl, rfl, rfl, rfl, rfl, rfl, rfl⟩⟩
        · have q4i : ¬ 10 ≤ (r.loops : Int) := by omega
          rw [if_neg (by omega)]
          simp [go_sem, preS, sf_kp_Reader_Stmt, h1, hp, hnm, hk0, hm, hget, hlo, q1i, q2i, q3i, q4i, q5i, -Bool.exists_bool] at hY
          subst hY
          exact ⟨_, _, rfl, ⟨rfl, rfl, rfl, rfl, rfl, rfl, rfl⟩⟩
    · have q2i : ¬ 8 ≤ (k : Int) := by omega
      have q5i : ¬ 10 ≤ (k : Int) := by omega
      rw [if_neg (by omega)]
      by_cases q4 : 10 ≤ r.loops
      · have q4i : 10 ≤ (r.loops : Int) := by omega
        simp [go_sem, preS, sf_kp_Reader_Stmt, h1, hp, hnm, hk0, hm, hget, hlo, q1i, q2i, q4i, q5i, -Bool.exists_bool] at hY
        subst hY
        exact ⟨_, _, rfl, ⟨rfl, rfl, rfl, rfl, rfl, rfl, rfl⟩⟩
      · have q4i : ¬ 10 ≤ (r.loops : Int) := by omega
        simp [go_sem, preS, sf_kp_Reader_Stmt, h1, hp, hnm, hk0, hm, hget, hlo, q1i, q2i, q4i, q5i, -Bool.exists_bool] at hY
        subst hY
        exact ⟨_, _, rfl, ⟨rfl, rfl, rfl, rfl, rfl, rfl, rfl⟩⟩
  · have q1i : ¬ 2 < (deep : Int) := by omega
    by_cases q4 : 10 ≤ r.loops
    · have q4i : 10 ≤ (r.loops : Int) := by omega
      by_cases q5 : 10 ≤ k
      · have q5i : 10 ≤ (k : Int) := by omega
        rw [if_pos (by omega)]
        simp [go_sem, preS, sf_kp_Reader_Stmt, h1, hp, hnm, hk0, hm, hget, hlo, q1i, q4i, q5i, -Bool.exists_bool] at hY
        subst hY
        exact ⟨_, _, rfl, ⟨rfl, rfl, rfl, rfl, rfl, rfl, rfl⟩⟩
      · have q5i : ¬ 10 ≤ (k : Int) := by omega
        rw [if_neg (by omega)]
        simp [go_sem, preS, sf_kp_Reader_Stmt, h1, hp, hnm, hk0, hm, hget, hlo, q1i, q4i, q5i, -Bool.exists_bool] at hY
        subst hY
        exact ⟨_, _, rfl, ⟨rfl, rfl, rfl, rfl, rfl, rfl, rfl⟩⟩
    · have q4i : ¬ 10 ≤ (r.loops : Int) := by omega
      rw [if_neg (by omega)]
      simp [go_sem, preS, sf_kp_Reader_Stmt, h1, hp, hnm, hk0, hm, hget, hlo, q1i, q4i, -Bool.exists_bool] at hY
      subst hY
      exact ⟨_, _, rfl, ⟨rfl, rfl, rfl, rfl, rfl, rfl, rfl⟩⟩
end
section
variable {T : FuncId → Option SF}
theorem expr_gd0 (H : HGen T) (f : Nat) (r : Rdr) : GD T F_kp_Reader_Expr [.i f, .i 0] r (.agg ((genE f 4 r).1.row.map .p)) (genE f 4 r).2 := expr_gd H f 4 0 r rfl
theorem expr_gd1 (H : HGen T) (f : Nat) (r : Rdr) : GD T F_kp_Reader_Expr [.i f, .i 1] r (.agg ((genE f 3 r).1.row.map .p)) (genE f 3 r).2 := expr_gd H f 3 1 r rfl
theorem expr_gd2 (H : HGen T) (f : Nat) (r : Rdr) : GD T F_kp_Reader_Expr [.i f, .i 2] r (.agg ((genE f 2 r).1.row.map .p)) (genE f 2 r).2 := expr_gd H f 2 2 r rfl
theorem stmt_of (H : HGen T) (hT : T F_kp_Reader_Stmt = some sf_kp_Reader_Stmt) (f d deep : Nat) (r : Rdr) (hd : d + deep = 3) {v : C} {r' : Rdr}
    (h : ∀ (τ : St2) (l : Nat) (dd : Bool) (tm : Tm) (d' : Bool), l < τ.length → r.next.ts.ok τ l → AtSwitch tm l τ.length f deep (pm r.hd) (kS d r) →
      (∃ d'', outS sf_kp_Reader_Stmt (τ.set l (r.B dd)) (evS sf_kp_Reader_Stmt.fl (go T) (postS 6 sf_kp_Reader_Stmt.code) tm (τ.set l (r.next.B d') ++ [Z17])) = some (v, τ.set l (r'.B d''))) ∧ r'.ts.ok τ l) :
    GD T F_kp_Reader_Stmt [.i f, .i deep] r v r' := by
  intro τ l dd hl hr
  obtain ⟨tm, d', h1, h2⟩ := stmt_pre H f d deep r hd hl hr dd
  obtain ⟨⟨d'', h3⟩, h4⟩ := h τ l dd tm d' hl (r.ok_next hr) h2
  refine ⟨⟨d'', ?_⟩, h4⟩
  rw [go_eq, hT, body_cut 6 rfl _ _ _ rfl, h1]
  exact h3
set_option maxRecDepth 4000 in
theorem stmt_assign (H : HGen T) (hT : T F_kp_Reader_Stmt = some sf_kp_Reader_Stmt) (f d deep : Nat) (sub : Nat → Rdr → List LS × Rdr) (r : Rdr) (hd : d + deep = 3) (c0 : kS d r < 6) :
    GD T F_kp_Reader_Stmt [.i f, .i deep] r (.agg ((genS1 f (kS d r) (pm r.hd) sub r.next).1.row.map .p)) (genS1 f (kS d r) (pm r.hd) sub r.next).2 := by
  refine stmt_of H hT f d deep r hd fun τ l dd tm d' hl hr1 hA => ?_
  have hlen : (rowsN (namesL f)).length = (namesL f).length := by simp [rowsN]
  have hpos : ¬ ((namesL f).length = 0) := by unfold namesL; split <;> simp
  have hat := nm_at f (pm r.hd)
  obtain ⟨a, r2, e2⟩ : ∃ a r2, genE f 4 r.next = (a, r2) := ⟨_, _, rfl⟩
  have i2 := expr_gd0 H f r.next
  rw [e2] at i2
  obtain ⟨ka, na, sa, oa, va, ha⟩ := a.row5
  simp only [ha, List.map] at i2
  obtain ⟨g2, g2', h2, h2c, hr2⟩ := i2.own hl hr1
  have hla := fun d L a b c d' e f g h i j k m n o p q r' => leave_sa17 (B := r.B dd) (Rdr.refs hr2 d) hl L a b c d' e f g h i j k m n o p q r'
  simp only [genS1, c0, if_true, e2]
  refine ⟨?_, hr2⟩
  obtain ⟨t0, t1, t2, t6, t8, t9, t10⟩ := hA
  generalize kS d r = k at c0 t10
  generalize pm r.hd = m at hat t9 ⊢
  have c0i : (k : Int) < 6 := by omega
  simp [go_sem, postS, sf_kp_Reader_Stmt, t0, t1, t2, t6, t8, t9, t10, c0i, hlen, hpos, hat, tmod_nat, h2c, soil_clean, soil_r, pureAt, okV, okCell, hla, Z17, sAssign, LS.row, e0, ha, LE.row, rowsE, rowsS, slP, -Bool.exists_bool]
  exact ⟨_, rfl⟩
set_option maxRecDepth 4000 in
theorem stmt_store (H : HGen T) (hT : T F_kp_Reader_Stmt = some sf_kp_Reader_Stmt) (f d deep : Nat) (sub : Nat → Rdr → List LS × Rdr) (r : Rdr) (hd : d + deep = 3) (c0 : 6 ≤ kS d r ∧ kS d r < 8) :
    GD T F_kp_Reader_Stmt [.i f, .i deep] r (.agg ((genS1 f (kS d r) (pm r.hd) sub r.next).1.row.map .p)) (genS1 f (kS d r) (pm r.hd) sub r.next).2 := by
  refine stmt_of H hT f d deep r hd fun τ l dd tm d' hl hr1 hA => ?_
  have hab := ab_at (pm r.hd)
  obtain ⟨a2, q2, e2⟩ : ∃ a q, genE f 2 r.next = (a, q) := ⟨_, _, rfl⟩
  have i2 := expr_gd2 H f r.next
  rw [e2] at i2
  obtain ⟨ka2, na2, sa2, oa2, va2, ha2⟩ := a2.row5
  simp only [ha2, List.map] at i2
  obtain ⟨g2, g2', h2, h2c, hr2⟩ := i2.own hl hr1
  obtain ⟨a3, q3, e3⟩ : ∃ a q, genE f 3 q2 = (a, q) := ⟨_, _, rfl⟩
  have i3 := expr_gd1 H f q2
  rw [e3] at i3
  obtain ⟨ka3, na3, sa3, oa3, va3, ha3⟩ := a3.row5
  simp only [ha3, List.map] at i3
  obtain ⟨g3, g3', h3, h3c, hr3⟩ := i3.own hl hr2
  have hla := fun d L a b c d' e f g h i j k m n o p q r' => leave_sa17 (B := r.B dd) (Rdr.refs hr3 d) hl L a b c d' e f g h i j k m n o p q r'
  have n0 : ¬ kS d r < 6 := by omega
  simp only [genS1, n0, c0.2, if_true, if_false, e2, e3]
  refine ⟨?_, hr3⟩
  obtain ⟨t0, t1, t2, t6, t8, t9, t10⟩ := hA
  generalize kS d r = k at c0 t10
  generalize pm r.hd = m at hab t9 ⊢
  have hm2 : (m : Int).tmod 2 = ((m % 2 : Nat) : Int) := rfl
  have c0i : ¬ (k : Int) < 6 := by omega
  have c1i : (k : Int) < 8 := by omega
  simp [go_sem, postS, sf_kp_Reader_Stmt, t0, t1, t2, t6, t8, t9, t10, c0i, c1i, hab, hm2, h2c, h3c, soil_clean, soil_r, pureAt, okV, okCell, hla, Z17, sStore, LS.row, ha2, ha3, rowsE, rowsS, slP, -Bool.exists_bool]
  exact ⟨_, rfl⟩
set_option maxRecDepth 4000 in
theorem stmt_out (H : HGen T) (hT : T F_kp_Reader_Stmt = some sf_kp_Reader_Stmt) (f d deep : Nat) (sub : Nat → Rdr → List LS × Rdr) (r : Rdr) (hd : d + deep = 3) (c0 : 12 ≤ kS d r ∧ kS d r < 14) :
    GD T F_kp_Reader_Stmt [.i f, .i deep] r (.agg ((genS1 f (kS d r) (pm r.hd) sub r.next).1.row.map .p)) (genS1 f (kS d r) (pm r.hd) sub r.next).2 := by
  refine stmt_of H hT f d deep r hd fun τ l dd tm d' hl hr1 hA => ?_
  obtain ⟨a2, q2, e2⟩ : ∃ a q, genE f 3 r.next = (a, q) := ⟨_, _, rfl⟩
  have i2 := expr_gd1 H f r.next
  rw [e2] at i2
  obtain ⟨ka2, na2, sa2, oa2, va2, ha2⟩ := a2.row5
  simp only [ha2, List.map] at i2
  obtain ⟨g2, g2', h2, h2c, hr2⟩ := i2.own hl hr1
  have hla := fun d L a b c d' e f g h i j k m n o p q r' => leave_sa17 (B := r.B dd) (Rdr.refs hr2 d) hl L a b c d' e f g h i j k m n o p q r'
  have n0 : ¬ kS d r < 6 := by omega
  have n1 : ¬ kS d r < 8 := by omega
  have n2 : ¬ kS d r < 10 := by omega
  have n3 : ¬ kS d r < 12 := by omega
  simp only [genS1, n0, n1, n2, n3, c0.2, if_true, if_false, e2]
  refine ⟨?_, hr2⟩
  obtain ⟨t0, t1, t2, t6, t8, t9, t10⟩ := hA
  generalize kS d r = k at c0 t10
  generalize pm r.hd = m at t9 ⊢
  have c0i : ¬ (k : Int) < 6 := by omega
  have c1i : ¬ (k : Int) < 8 := by omega
  have c2i : ¬ (k : Int) < 10 := by omega
  have c3i : ¬ (k : Int) < 12 := by omega
  have c4i : (k : Int) < 14 := by omega
  simp [go_sem, postS, sf_kp_Reader_Stmt, t0, t1, t2, t6, t8, t9, t10, c0i, c1i, c2i, c3i, c4i, h2, hla, Z17, sOut, LS.row, e0, ha2, LE.row, rowsE, rowsS, slP, -Bool.exists_bool]
  exact ⟨_, rfl⟩
set_option maxRecDepth 4000 in
theorem stmt_trap (H : HGen T) (hT : T F_kp_Reader_Stmt = some sf_kp_Reader_Stmt) (f d deep : Nat) (sub : Nat → Rdr → List LS × Rdr) (r : Rdr) (hd : d + deep = 3) (c0 : 15 ≤ kS d r) :
    GD T F_kp_Reader_Stmt [.i f, .i deep] r (.agg ((genS1 f (kS d r) (pm r.hd) sub r.next).1.row.map .p)) (genS1 f (kS d r) (pm r.hd) sub r.next).2 := by
  refine stmt_of H hT f d deep r hd fun τ l dd tm d' hl hr1 hA => ?_
  have hla := fun d L a b c d' e f g h i j k m n o p q r' => leave_sa17 (B := r.B dd) (Rdr.refs hr1 d) hl L a b c d' e f g h i j k m n o p q r'
  have n0 : ¬ kS d r < 6 := by omega
  have n1 : ¬ kS d r < 8 := by omega
  have n2 : ¬ kS d r < 10 := by omega
  have n3 : ¬ kS d r < 12 := by omega
  have n4 : ¬ kS d r < 14 := by omega
  have n5 : ¬ kS d r < 15 := by omega
  simp only [genS1, n0, n1, n2, n3, n4, n5, if_false]
  refine ⟨?_, hr1⟩
  obtain ⟨t0, t1, t2, t6, t8, t9, t10⟩ := hA
  generalize kS d r = k at c0 t10
  generalize pm r.hd = m at t9 ⊢
  have c0i : ¬ (k : Int) < 6 := by omega
  have c1i : ¬ (k : Int) < 8 := by omega
  have c2i : ¬ (k : Int) < 10 := by omega
  have c3i : ¬ (k : Int) < 12 := by omega
  have c4i : ¬ (k : Int) < 14 := by omega
  have c5i : ¬ (k : Int) < 15 := by omega
  simp [go_sem, postS, sf_kp_Reader_Stmt, t0, t1, t2, t6, t8, t9, t10, c0i, c1i, c2i, c3i, c4i, c5i, hla, Z17, sTrap, LS.row, e0, LE.row, rowsE, rowsS, slP, -Bool.exists_bool]
  exact ⟨_, rfl⟩
set_option maxRecDepth 4000 in
theorem stmt_if (H : HGen T) (hT : T F_kp_Reader_Stmt = some sf_kp_Reader_Stmt) (f d deep : Nat) (sub : Nat → Rdr → List LS × Rdr) (r : Rdr) (hd : d + deep = 3) (hs : ∀ (most : Nat), most ≤ 100 → ∀ (r : Rdr), GD T F_kp_Reader_Stmts [.i f, .i ((deep : Int) + 1), .i most] r (.p (.list false 17 (rowsS (sub most r).1))) (sub most r).2) (c0 : 8 ≤ kS d r ∧ kS d r < 10) :
    GD T F_kp_Reader_Stmt [.i f, .i deep] r (.agg ((genS1 f (kS d r) (pm r.hd) sub r.next).1.row.map .p)) (genS1 f (kS d r) (pm r.hd) sub r.next).2 := by
  refine stmt_of H hT f d deep r hd fun τ l dd tm d' hl hr1 hA => ?_
  obtain ⟨a2, q2, e2⟩ : ∃ a q, genE f 3 r.next = (a, q) := ⟨_, _, rfl⟩
  have i2 := expr_gd1 H f r.next
  rw [e2] at i2
  obtain ⟨ka2, na2, sa2, oa2, va2, ha2⟩ := a2.row5
  simp only [ha2, List.map] at i2
  obtain ⟨g2, g2', h2, h2c, hr2⟩ := i2.own hl hr1
  obtain ⟨a3, q3, e3⟩ : ∃ a q, sub 3 q2 = (a, q) := ⟨_, _, rfl⟩
  have i3 : GD T F_kp_Reader_Stmts [.i f, .i ((deep : Int) + 1), .i 3] q2 _ _ := hs 3 (by decide) q2
  rw [e3] at i3
  obtain ⟨g3, g3', h3, h3c, hr3⟩ := i3.own hl hr2
  obtain ⟨a4, q4, e4⟩ : ∃ a q, sub 2 q3 = (a, q) := ⟨_, _, rfl⟩
  have i4 : GD T F_kp_Reader_Stmts [.i f, .i ((deep : Int) + 1), .i 2] q3 _ _ := hs 2 (by decide) q3
  rw [e4] at i4
  obtain ⟨g4, g4', h4, h4c, hr4⟩ := i4.own hl hr3
  have hla := fun d L a b c d' e f g h i j k m n o p q r' => leave_sa17 (B := r.B dd) (Rdr.refs hr4 d) hl L a b c d' e f g h i j k m n o p q r'
  have hwd : IntKind.i64.wrap ((deep : Int) + 1) = (deep : Int) + 1 := wrap_in (by omega) (by omega)
  have n0 : ¬ kS d r < 6 := by omega
  have n1 : ¬ kS d r < 8 := by omega
  simp only [genS1, n0, n1, c0.2, if_true, if_false, e2, e3, e4]
  refine ⟨?_, hr4⟩
  obtain ⟨t0, t1, t2, t6, t8, t9, t10⟩ := hA
  generalize kS d r = k at c0 t10
  generalize pm r.hd = m at t9 ⊢
  have c0i : ¬ (k : Int) < 6 := by omega
  have c1i : ¬ (k : Int) < 8 := by omega
  have c2i : (k : Int) < 10 := by omega
  simp [go_sem, postS, sf_kp_Reader_Stmt, t0, t1, t2, t6, t8, t9, t10, c0i, c1i, c2i, h2, h3, h4, hwd, hla, Z17, sIf, LS.row, e0, ha2, LE.row, rowsE, slP, -Bool.exists_bool]
  exact ⟨_, rfl⟩
set_option maxRecDepth 4000 in
theorem stmt_while (H : HGen T) (hT : T F_kp_Reader_Stmt = some sf_kp_Reader_Stmt) (f d deep : Nat) (sub : Nat → Rdr → List LS × Rdr) (r : Rdr) (hd : d + deep = 3) (hs : ∀ (most : Nat), most ≤ 100 → ∀ (r : Rdr), GD T F_kp_Reader_Stmts [.i f, .i ((deep : Int) + 1), .i most] r (.p (.list false 17 (rowsS (sub most r).1))) (sub most r).2) (c0 : 10 ≤ kS d r ∧ kS d r < 12) :
    GD T F_kp_Reader_Stmt [.i f, .i deep] r (.agg ((genS1 f (kS d r) (pm r.hd) sub r.next).1.row.map .p)) (genS1 f (kS d r) (pm r.hd) sub r.next).2 := by
  refine stmt_of H hT f d deep r hd fun τ l dd tm d' hl hr1 hA => ?_
  have hr1' : r.next.inc.ts.ok τ l := hr1
  obtain ⟨a2, q2, e2⟩ : ∃ a q, genE f 3 r.next.inc = (a, q) := ⟨_, _, rfl⟩
  have i2 := expr_gd1 H f r.next.inc
  rw [e2] at i2
  obtain ⟨ka2, na2, sa2, oa2, va2, ha2⟩ := a2.row5
  simp only [ha2, List.map] at i2
  obtain ⟨g2, g2', h2, h2c, hr2⟩ := i2.own hl hr1'
  obtain ⟨a3, q3, e3⟩ : ∃ a q, sub 3 q2 = (a, q) := ⟨_, _, rfl⟩
  have i3 : GD T F_kp_Reader_Stmts [.i f, .i ((deep : Int) + 1), .i 3] q2 _ _ := hs 3 (by decide) q2
  rw [e3] at i3
  obtain ⟨g3, g3', h3, h3c, hr3⟩ := i3.own hl hr2
  have hla := fun d L a b c d' e f g h i j k m n o p q r' => leave_sa17 (B := r.B dd) (Rdr.refs hr3 d) hl L a b c d' e f g h i j k m n o p q r'
  have hwd : IntKind.i64.wrap ((deep : Int) + 1) = (deep : Int) + 1 := wrap_in (by omega) (by omega)
  have hlo : r.next.loops = r.loops := by unfold Rdr.next; split <;> rfl
  have hlt : r.next.loops < 10 := by
    have := c0.1
    unfold kS at this
    split at this <;> omega
  have hwl : IntKind.i64.wrap ((r.next.loops : Int) + 1) = (r.next.loops : Int) + 1 := wrap_in (by omega) (by omega)
  have hget := fun d L => Rdr.get hl r.next d L
  have hfold := r.next.fold
  have n0 : ¬ kS d r < 6 := by omega
  have n1 : ¬ kS d r < 8 := by omega
  have n2 : ¬ kS d r < 10 := by omega
  simp only [genS1, n0, n1, n2, c0.2, if_true, if_false, e2, e3]
  refine ⟨?_, hr3⟩
  obtain ⟨t0, t1, t2, t6, t8, t9, t10⟩ := hA
  generalize kS d r = k at c0 t10
  generalize pm r.hd = m at t9 ⊢
  have c0i : ¬ (k : Int) < 6 := by omega
  have c1i : ¬ (k : Int) < 8 := by omega
  have c2i : ¬ (k : Int) < 10 := by omega
  have c3i : (k : Int) < 12 := by omega
  simp [go_sem, postS, sf_kp_Reader_Stmt, t0, t1, t2, t6, t8, t9, t10, c0i, c1i, c2i, c3i, ↓hget, hget, put_l, hl, hwl, hfold, h2, h3, hwd, hla, Z17, sWhile, LS.row, e0, ha2, LE.row, rowsE, rowsS, slP, -Bool.exists_bool]
  exact ⟨_, rfl⟩
end
section
variable {T : FuncId → Option SF}
theorem TS.shape (ts : TS) : (∃ x, ts.c = .p (.list x 1 []) ∧ ts.tape = []) ∨ ∃ lt g o, ts.c = .ms lt g o ts.tape.length ucap := by
  cases ts with
  | e x => exact .inl ⟨x, rfl, rfl⟩
  | m lt g o ns => exact .inr ⟨lt, g, o, rfl⟩
theorem setAt_full {α : Type} : ∀ (cs vs : List α), cs.length = vs.length → setAt cs 0 vs = vs
  | [], [], _ => rfl
  | _ :: cs, _ :: vs, h => by simp [setAt, setAt_full cs vs (Nat.succ.inj h)]
  | [], _ :: _, h => by cases h
  | _ :: _, [], h => by cases h
theorem all_p (ps : List PV) : (ps.map C.p).all isCell = true := by simp [isCell]
theorem row_one {zero ps : List PV} {n : Nat} (hz : zero.length = n) (hp : ps.length = n) : fillC ((repC 1 zero).map .p) [(0, n, .agg (ps.map .p))] = some (ps.map .p) := by
  have h1 : Nat.beq (ps.map C.p).length n = true := by rw [List.length_map, hp]; exact Nat.beq_refl n
  have h2 : Nat.ble (0 + n) ((repC 1 zero).map C.p).length = true := Nat.ble_eq_true_of_le (by simp [repC, hz])
  simp only [fillC, cellsOf, h1, h2, all_p, Bool.and_self, cond_true]
  rw [setAt_full _ _ (by simp [repC, hz, hp])]
theorem chunks_one {ps : List PV} {n : Nat} (hp : ps.length = n) : chunks n 1 ps = [ps] := by
  simp only [chunks]
  rw [List.take_of_length_le (by omega)]
theorem leave_acc {τ : St2} {l es : Nat} {B B' : B2} {rows : List (List PV)} (hB : refsBs τ.length B'.cells = true) (hl : l < τ.length) (hw : ∀ r, r ∈ rows → r.length = es) :
    leave false (τ.set l B) (τ.set l B' ++ [acc es rows]) [accV τ.length es rows] = some (.p (.list false es rows), τ.set l B') := by
  refine leave_s (ds := [.p (.list false es rows)]) ?_ rfl hB hl
  simp only [fzL]
  rw [show τ.length + [acc es rows].length + 2 = (τ.length + 1) + 2 from rfl, fz_acc (by rw [at_sl]; rfl) (Nat.le_refl _) hw]
theorem rowsS_len (l : List LS) : ∀ r, r ∈ rowsS l → r.length = 17 := fun r hr => by
  rw [rowsS_map] at hr
  obtain ⟨s, _, rfl⟩ := List.mem_map.1 hr
  exact s.row_len
abbrev fl0 : Fl := ⟨fun _ => false, false⟩
set_option maxRecDepth 4000 in
theorem stmts_loop (f deep : Nat) (g : Rdr → LS × Rdr) (hg : ∀ r, GD T F_kp_Reader_Stmt [.i f, .i deep] r (.agg ((g r).1.row.map .p)) (g r).2) {τ : St2} {l : Nat} (hl : l < τ.length) : ∀ (k : Nat) (r : Rdr) (rows : List (List PV)) (d : Bool), r.ts.ok τ l → rows.length + k ≤ 1000 → (∀ r, r ∈ rows → r.length = 17) →
    ∃ tm' d', Loop (round [0, 1, 2, 9, 10] (evS fl0 (go T) lb_kp_Reader_Stmts_0)) [(0, .ptr l 2 0), (1, .i f), (2, .i deep), (9, accV τ.length 17 rows), (10, .i k)] (τ.set l (r.B d) ++ [acc 17 rows]) =
      some (.exit 0, tm', τ.set l ((genL g k r).2.B d') ++ [acc 17 (rows ++ rowsS (genL g k r).1)]) ∧ look 9 tm' = some (accV τ.length 17 (rows ++ rowsS (genL g k r).1)) ∧ (genL g k r).2.ts.ok τ l := by
  intro k
  induction k with
  | zero =>
    intro r rows d hr hn hw
    refine ⟨_, d, Loop_exit (tm' := [(0, .ptr l 2 0), (1, .i f), (2, .i deep), (9, accV τ.length 17 rows), (10, .i 0), (25, .p (.bool false))]) ?_, ?_, hr⟩
    · simp [go_sem, lb_kp_Reader_Stmts_0, genL, rowsS, -Bool.exists_bool]
    · simp [look, nb, genL, rowsS]
  | succ k ih =>
    intro r rows d hr hn hw
    have hget := fun d L => Rdr.get hl r d L
    by_cases he : r.ts.tape = []
    · refine ⟨_, d, Loop_exit (tm' := [(0, .ptr l 2 0), (1, .i f), (2, .i deep), (9, accV τ.length 17 rows), (10, .i ((k + 1 : Nat) : Int)), (25, .p (.bool false))]) ?_, ?_, by simpa [genL, he] using hr⟩
      · rcases r.ts.shape with ⟨x, hc, _⟩ | ⟨lt, g', o, hc⟩
        · simp [go_sem, lb_kp_Reader_Stmts_0, genL, rowsS, hget, hc, he, -Bool.exists_bool]
        · rw [he] at hc
          simp [go_sem, lb_kp_Reader_Stmts_0, genL, rowsS, hget, hc, he, -Bool.exists_bool]
      · simp [look, nb, genL, rowsS, he]
    · obtain ⟨s, r2, e2⟩ : ∃ s r2, g r = (s, r2) := ⟨_, _, rfl⟩
      have i2 := hg r
      rw [e2] at i2
      obtain ⟨g2, g2', h2, -, hr2⟩ := i2.own hl hr
      have hG1 : (genL g (k + 1) r).1 = s :: (genL g k r2).1 := by simp [genL, he, e2]
      have hG2 : (genL g (k + 1) r).2 = (genL g k r2).2 := by simp [genL, he, e2]
      have hrw : ∀ r, r ∈ rows ++ [s.row] → r.length = 17 := fun r hr => by
        rcases List.mem_append.1 hr with hr | hr
        · exact hw r hr
        · simp at hr; rw [hr]; exact s.row_len
      obtain ⟨tm', d', h3, h4, h5⟩ := ih r2 (rows ++ [s.row]) (g2 d [acc 17 rows]) hr2 (by simp; omega) hrw
      refine ⟨tm', d', ?_, by rw [hG1]; simpa [rowsS] using h4, by rw [hG2]; exact h5⟩
      rw [hG1, hG2]
      rw [Loop_step (tm' := [(0, .ptr l 2 0), (1, .i f), (2, .i deep), (9, accV τ.length 17 (rows ++ [s.row])), (10, .i k)]) (τ' := τ.set l (r2.B (g2 d [acc 17 rows])) ++ [acc 17 (rows ++ [s.row])])]
      · rw [h3]; simp [rowsS]
      · obtain ⟨lt, go', o, hc⟩ : ∃ lt g o, r.ts.c = .ms lt g o r.ts.tape.length ucap := by
          rcases r.ts.shape with ⟨x, _, h⟩ | h
          · exact absurd h he
          · exact h
        have hpos : 0 < (r.ts.tape.length : Int) := by
          have : 0 < r.ts.tape.length := List.length_pos_iff.2 he
          omega
        have hposn : 0 < r.ts.tape.length := List.length_pos_iff.2 he
        have hsl := s.row_len
        have hset : ∀ cs : List C, cs.length = 17 → setAt cs 0 (s.row.map C.p) = s.row.map C.p := fun cs hcs => setAt_full _ _ (by simp [hcs, hsl])
        have hall : (s.row.map C.p).all isCell = true := all_p _
        have htp := toPs_p s.row
        have htk : s.row.take 17 = s.row := List.take_of_length_le (by omega)
        have happ : ∀ X : B2, appC (τ.set l X ++ [acc 17 rows]) 17 (accV τ.length 17 rows) (.p (.list true 17 [s.row])) = some (accV τ.length 17 (rows ++ [s.row]), τ.set l X ++ [acc 17 (rows ++ [s.row])]) := fun X => by
          rw [app_acc (rows := rows) (by rw [at_sl]; rfl) hw (by simp [s.row_len]) (by simp only [List.length_singleton]; omega) (by simp), set_sl]
          rfl
        have htr : ∀ (tm : Tm) (d d' : Bool), tmB (τ.length + 1) tm = true → trunc tm (τ.set l (r.B d) ++ [acc 17 rows]) (τ.set l (r2.B d') ++ [acc 17 (rows ++ [s.row])]) = τ.set l (r2.B d') ++ [acc 17 (rows ++ [s.row])] := fun tm d d' h => by
          have hB : refsBs (τ.length + 1) (r2.B d').cells = true := by
            obtain ⟨ts, lo⟩ := r2
            cases ts with
            | e x => rfl
            | m lt g o ns => have := hr2.2.1; simp [Rdr.B, TS.c, refsBs, refsB, nl]; omega
          rw [trunc_s (L0 := [acc 17 rows]) h hl hB (by simp) (fun j hj => ?_)]
          · rfl
          · match j, hj with
            | 0, _ => exact .inr fun T hT => by obtain rfl := Option.some.inj hT; exact refs_p _ _
        have hrf : ∀ (k l : Nat) (rows : List (List PV)), refsB k (accV l 17 rows) = decide (l + 1 ≤ k) := fun k l rows => nl _ _
        have hwk : IntKind.i64.wrap (k : Int) = (k : Int) := wrap_in (by omega) (by omega)
        have hl1 : l + 1 ≤ τ.length + 1 := by omega
        simp [go_sem, lb_kp_Reader_Stmts_0, hget, hc, hpos, hposn, h2, hsl, hset, hall, htp, htk, happ, htr, hrf, hwk, hl1, tmB, refsB, -Bool.exists_bool]
theorem stmts_gd (H : HGen T) (hT : T F_kp_Reader_Stmts = some sf_kp_Reader_Stmts) (f deep most : Nat) (hm : most ≤ 100) (g : Rdr → LS × Rdr) (hg : ∀ r, GD T F_kp_Reader_Stmt [.i f, .i deep] r (.agg ((g r).1.row.map .p)) (g r).2) (r : Rdr) :
    GD T F_kp_Reader_Stmts [.i f, .i deep, .i most] r (.p (.list false 17 (rowsS (stmtsOf g most r).1))) (stmtsOf g most r).2 := by
  intro τ l dd hl hr
  obtain ⟨g1, g1', h1, -, hr1⟩ := (next_gd H.next r).own hl hr
  have h10 := h1 dd []
  simp only [List.append_nil] at h10
  have hp := fun n m hm hm2 τ => pick_eq H.pick n m hm hm2 τ
  have hwm : IntKind.i64.wrap ((most : Int) + 1) = (most : Int) + 1 := wrap_in (by omega) (by omega)
  have hpk := hp r.hd ((most : Int) + 1) (by omega) (by omega)
  have hk : r.hd % ((most : Int) + 1) = ((r.hd % ((most : Int) + 1)).toNat : Int) := by have := Int.emod_nonneg r.hd (show (most : Int) + 1 ≠ 0 by omega); omega
  have hk2 : (r.hd % ((most : Int) + 1)).toNat ≤ 100 := by have := Int.emod_lt_of_pos r.hd (show (0 : Int) < (most : Int) + 1 by omega); omega
  unfold stmtsOf
  generalize (r.hd % ((most : Int) + 1)).toNat = k at hk hk2 ⊢
  obtain ⟨tm', d', h3, h4, h5⟩ := stmts_loop f deep g hg hl k r.next [] (g1 dd []) hr1 (by simp; omega) (fun r hr => by cases hr)
  simp only [List.nil_append, ← acc_start, ← accV_start] at h3 h4
  refine ⟨?_, h5⟩
  have hla := fun d => leave_acc (B := r.B dd) (Rdr.refs h5 d) hl (rowsS_len (genL g k r.next).1)
  rw [go_eq, hT]
  simp [go_sem, sf_kp_Reader_Stmts, h10, hpk, hwm, hk, h3, h4, hla, -Bool.exists_bool]
  exact ⟨_, rfl⟩
end
theorem at_ca (τ L : St2) (l : Nat) (B : B2) (k : Nat) : ((cleanT τ).set l B ++ cleanT L)[τ.length + k]? = (cleanT L)[k]? := by
  rw [List.getElem?_append_right (by simp [cleanT_len])]; congr 1; simp [cleanT_len]
theorem at_cb (τ L : St2) (l : Nat) (B : B2) (k : Nat) : (cleanT (τ.set l B ++ L))[τ.length + k]? = (cleanT L)[k]? := by
  rw [cleanT_app, cleanT_set, at_ca]
theorem cleanT_get (L : St2) (k : Nat) : (cleanT L)[k]? = (L[k]?).map fun B => { B with dirty := false } := by simp [cleanT]
theorem trunc_no {tm : Tm} {τ τ' : St2} {i : Nat} {T T' : B2} (hi : i < τ.length) (h : τ[i]? = some T) (h' : τ'[i]? = some T') (hne : T' ≠ T) (hr : refsBs τ.length T'.cells = false) : trunc tm τ τ' = τ' := by
  unfold trunc
  rw [if_neg]
  rintro ⟨_, hb, _⟩
  rcases hb i hi with hb | hb
  · rw [h, h'] at hb
    exact hne (Option.some.inj hb)
  · rw [hb _ h'] at hr
    cases hr
def KC (s t : Str) (v : C) : B2 := ⟨[.p (.int .i64 6), .p (.str s), .p (.str t), .p (.int .i64 0), .p (.int .i64 0), .p (.int .i64 0), .p (.str []), .p (.int .i64 0), .p .nils, .p (.int .i64 0), .p (.int .i64 0), .p (.str []), .p (.int .i64 0), .p .nils, v, .p .nils, .p .nils], .live, 17, true⟩
section
variable {T : FuncId → Option SF}
theorem args_one (f m : Nat) (s t : Str) {τ : St2} {l : Nat} (hl : l < τ.length) (r r2 : Rdr) (a : LE) (i2 : GD T F_kp_Reader_Expr [.i f, .i 2] r (.agg (a.row.map .p)) r2) (hr : r.ts.ok τ l) (d : Bool) :
    ∃ d', round [0, 1, 6, 9, 13, 14] (evS fl0 (go T) lb_kp_Reader_Stmt_0) [(0, .ptr l 2 0), (1, .i f), (6, .ptr τ.length 17 0), (9, .i m), (13, .ptr (τ.length + 1) 17 0), (14, .i 0)] (τ.set l (r.B d) ++ [Z17, KC s t (.p .nils)]) =
      some (.normal, [(0, .ptr l 2 0), (1, .i f), (6, .ptr τ.length 17 0), (9, .i m), (13, .ptr (τ.length + 1) 17 0), (14, .i 1)], τ.set l (r2.B d') ++ [Z17, KC s t (.ms (τ.length + 2) 5 0 1 ucap), ⟨a.row.map .p, .live, 5, true⟩]) := by
  obtain ⟨ka, na, sa, oa, va, ha⟩ := a.row5
  simp only [ha, List.map] at i2 ⊢
  obtain ⟨g2, g2', h2, h2c, -⟩ := i2.own hl hr
  have hm2 : (m : Int).tmod 2 = ((m % 2 : Nat) : Int) := rfl
  have hc : (0 : Int) < IntKind.i64.wrap (2 - (m : Int) % 2) := by rw [wrap_in (by omega) (by omega)]; omega
  have hw1 : IntKind.i64.wrap 1 = 1 := rfl
  have htr : ∀ tm d d' B, trunc tm (τ.set l (r.B d) ++ [Z17, KC s t (.p .nils)]) (τ.set l (r2.B d') ++ [Z17, KC s t (.ms (τ.length + 2) 5 0 1 ucap), B]) = τ.set l (r2.B d') ++ [Z17, KC s t (.ms (τ.length + 2) 5 0 1 ucap), B] := fun tm d d' B =>
    trunc_no (i := τ.length + 1) (by simp) (by rw [at_sa]; rfl) (by rw [at_sa]; rfl) (fun e => by have := congrArg B2.cells e; simp [KC] at this) (by simp [KC, refsBs, refsB, nl])
  obtain ⟨Y, hY⟩ : ∃ Y, round [0, 1, 6, 9, 13, 14] (evS fl0 (go T) lb_kp_Reader_Stmt_0) [(0, .ptr l 2 0), (1, .i f), (6, .ptr τ.length 17 0), (9, .i m), (13, .ptr (τ.length + 1) 17 0), (14, .i 0)] (τ.set l (r.B d) ++ [Z17, KC s t (.p .nils)]) = Y := ⟨_, rfl⟩
  rw [hY]
  simp only [KC] at htr
  simp [go_sem, lb_kp_Reader_Stmt_0, hm2, hc, hw1, h2c, htr, at_cb, at_ca, cleanT_get, soil_clean, soil_r, pureAt, okV, okCell, appC, srcC, appTo, newMs, KC, -Bool.exists_bool] at hY
  subst hY
  exact ⟨_, rfl⟩
theorem args_two (f m : Nat) (hm : m % 2 = 0) (s t : Str) {τ : St2} {l : Nat} (hl : l < τ.length) (r r2 : Rdr) (a b : LE) (i2 : GD T F_kp_Reader_Expr [.i f, .i 2] r (.agg (b.row.map .p)) r2) (hr : r.ts.ok τ l) (d : Bool) :
    ∃ d', round [0, 1, 6, 9, 13, 14] (evS fl0 (go T) lb_kp_Reader_Stmt_0) [(0, .ptr l 2 0), (1, .i f), (6, .ptr τ.length 17 0), (9, .i m), (13, .ptr (τ.length + 1) 17 0), (14, .i 1)] (τ.set l (r.B d) ++ [Z17, KC s t (.ms (τ.length + 2) 5 0 1 ucap), ⟨a.row.map .p, .live, 5, true⟩]) =
      some (.normal, [(0, .ptr l 2 0), (1, .i f), (6, .ptr τ.length 17 0), (9, .i m), (13, .ptr (τ.length + 1) 17 0), (14, .i 2)], τ.set l (r2.B d') ++ [Z17, KC s t (.ms (τ.length + 2) 10 0 2 ucap), ⟨(a.row ++ b.row).map .p, .live, 5, true⟩]) := by
  obtain ⟨ka, na, sa, oa, va, ha⟩ := a.row5
  obtain ⟨kb, nb', sb, ob, vb, hb⟩ := b.row5
  have hr2 := (i2 τ l d hl hr).2
  simp only [ha, hb, List.map, List.cons_append, List.nil_append] at i2 ⊢
  obtain ⟨g2, g2', h2, h2c, -⟩ := i2.own hl hr
  have hm2 : (m : Int).tmod 2 = 0 := by show ((m % 2 : Nat) : Int) = 0; rw [hm]; rfl
  have hw2 : IntKind.i64.wrap 2 = 2 := rfl
  have htr : ∀ tm d d' A B, tmB (τ.length + 3) tm = true → refsBs (τ.length + 3) B.cells = true → trunc tm (τ.set l (r.B d) ++ [Z17, KC s t (.ms (τ.length + 2) 5 0 1 ucap), A]) (τ.set l (r2.B d') ++ [Z17, KC s t (.ms (τ.length + 2) 10 0 2 ucap), B]) = τ.set l (r2.B d') ++ [Z17, KC s t (.ms (τ.length + 2) 10 0 2 ucap), B] := fun tm d d' A B ht hBB => by
    have hB : refsBs (τ.length + 3) (r2.B d').cells = true := by
      obtain ⟨ts, lo⟩ := r2
      cases ts with
      | e x => rfl
      | m lt g o ns => have := hr2.2.1; simp [Rdr.B, TS.c, refsBs, refsB, nl]; omega
    rw [trunc_s (L0 := [Z17, KC s t (.ms (τ.length + 2) 5 0 1 ucap), A]) ht hl hB (by simp) (fun j hj => ?_)]
    · rfl
    · match j, hj with
      | 0, _ => exact .inl rfl
      | 1, _ => exact .inr fun T hT => by obtain rfl := Option.some.inj hT; simp [KC, refsBs, refsB, nl]
      | 2, _ => exact .inr fun T hT => by obtain rfl := Option.some.inj hT; exact hBB
  obtain ⟨Y, hY⟩ : ∃ Y, round [0, 1, 6, 9, 13, 14] (evS fl0 (go T) lb_kp_Reader_Stmt_0) [(0, .ptr l 2 0), (1, .i f), (6, .ptr τ.length 17 0), (9, .i m), (13, .ptr (τ.length + 1) 17 0), (14, .i 1)] (τ.set l (r.B d) ++ [Z17, KC s t (.ms (τ.length + 2) 5 0 1 ucap), ⟨[.p (.int .i64 ka), .p (.int .i64 na), .p (.str sa), .p (.int .i64 oa), .p va], .live, 5, true⟩]) = Y := ⟨_, rfl⟩
  rw [hY]
  simp only [KC] at htr
  have hlt : l + 1 ≤ τ.length + 3 := by omega
  simp [go_sem, lb_kp_Reader_Stmt_0, hm2, hw2, h2c, htr, hlt, tmB, refsBs, refsB, at_cb, at_ca, cleanT_get, soil_clean, soil_r, pureAt, okV, okCell, appC, srcC, appTo, newMs, KC, -Bool.exists_bool] at hY
  subst hY
  exact ⟨_, rfl⟩
theorem args_end (f m : Nat) (j : Int) (hj : j = 2 - (m % 2 : Nat)) (l : Nat) (τ' : St2) (n : Nat) :
    round [0, 1, 6, 9, 13, 14] (evS fl0 (go T) lb_kp_Reader_Stmt_0) [(0, .ptr l 2 0), (1, .i f), (6, .ptr n 17 0), (9, .i m), (13, .ptr (n + 1) 17 0), (14, .i j)] τ' = some (.exit 1, [(0, .ptr l 2 0), (1, .i f), (6, .ptr n 17 0), (9, .i m), (13, .ptr (n + 1) 17 0), (14, .i j), (142, .b false)], τ') := by
  have hm2 : (m : Int).tmod 2 = ((m % 2 : Nat) : Int) := rfl
  have hc : ¬ j < IntKind.i64.wrap (2 - (m : Int) % 2) := by rw [wrap_in (by omega) (by omega)]; omega
  simp [go_sem, lb_kp_Reader_Stmt_0, hm2, hc, -Bool.exists_bool]
end
section
variable {T : FuncId → Option SF}
theorem args_loop (H : HGen T) (f m : Nat) (s t : Str) {τ : St2} {l : Nat} (hl : l < τ.length) (r : Rdr) (hr : r.ts.ok τ l) (d : Bool) :
    ∃ tm d', Loop (round [0, 1, 6, 9, 13, 14] (evS fl0 (go T) lb_kp_Reader_Stmt_0)) [(0, .ptr l 2 0), (1, .i f), (6, .ptr τ.length 17 0), (9, .i m), (13, .ptr (τ.length + 1) 17 0), (14, .i 0)] (τ.set l (r.B d) ++ [Z17, KC s t (.p .nils)]) =
      some (.exit 1, tm, τ.set l ((genArgs f m r).2.B d') ++ [Z17, KC s t (.ms (τ.length + 2) ((genArgs f m r).1.length * 5) 0 (genArgs f m r).1.length ucap), ⟨(rowsE (genArgs f m r).1).flatten.map .p, .live, 5, true⟩]) ∧ look 6 tm = some (.ptr τ.length 17 0) ∧ look 13 tm = some (.ptr (τ.length + 1) 17 0) ∧ (genArgs f m r).2.ts.ok τ l := by
  obtain ⟨d1, h1⟩ := args_one f m s t hl r _ _ (expr_gd2 H f r) hr d
  have hr1 := ((expr_gd2 H f r) τ l d hl hr).2
  rw [Loop_step h1]
  by_cases hm : m % 2 = 0
  · obtain ⟨d2, h2⟩ := args_two f m hm s t hl _ _ (genE f 2 r).1 _ (expr_gd2 H f (genE f 2 r).2) hr1 d1
    have hr2 := ((expr_gd2 H f (genE f 2 r).2) τ l d1 hl hr1).2
    rw [Loop_step h2]
    have hA : genArgs f m r = ([(genE f 2 r).1, (genE f 2 (genE f 2 r).2).1], (genE f 2 (genE f 2 r).2).2) := by simp [genArgs, hm]
    rw [hA]
    refine ⟨_, d2, Loop_exit (by rw [args_end f m 2 (by rw [hm]; rfl)]; simp [rowsE]; rfl), by simp [look, nb], by simp [look, nb], hr2⟩
  · have hm1 : m % 2 = 1 := by omega
    have hA : genArgs f m r = ([(genE f 2 r).1], (genE f 2 r).2) := by simp [genArgs, hm]
    rw [hA]
    refine ⟨_, d1, Loop_exit (by rw [args_end f m 1 (by rw [hm1]; rfl)]; simp [rowsE]; rfl), by simp [look, nb], by simp [look, nb], hr1⟩
theorem genArgs_len (f m : Nat) (r : Rdr) : (genArgs f m r).1.length ≠ 0 := by unfold genArgs; split <;> simp
theorem rowsE_len (l : List LE) : ∀ r, r ∈ rowsE l → r.length = 5 := fun r hr => by
  rw [rowsE_map] at hr
  obtain ⟨s, _, rfl⟩ := List.mem_map.1 hr
  exact s.row_len
theorem rowsE_length (l : List LE) : (rowsE l).length = l.length := by rw [rowsE_map, List.length_map]
theorem fz_own {τ : St2} {l es k fuel : Nat} {rows : List (List PV)} (h : τ[l]? = some ⟨rows.flatten.map .p, .live, es, true⟩) (hk : k ≤ l) (hw : ∀ r, r ∈ rows → r.length = es) (hne : rows.length ≠ 0) : fzC τ k (fuel + 2) (.ms l (rows.length * es) 0 rows.length ucap) = some (.p (.list false es rows)) := by
  cases rows with
  | nil => exact absurd rfl hne
  | cons r rows => exact fz_acc (rows := r :: rows) h hk hw
theorem leave_call {τ : St2} {l : Nat} {B B' X Y : B2} {as : List LE} (hne : as.length ≠ 0) (hB : refsBs τ.length B'.cells = true) (hl : l < τ.length) (a b c d e f g h i j k m n o q r : PV) :
    leave false (τ.set l B) (τ.set l B' ++ [X, Y, ⟨(rowsE as).flatten.map .p, .live, 5, true⟩]) [.agg [.p a, .p b, .p c, .p d, .p e, .p f, .p g, .p h, .p i, .p j, .p k, .p m, .p n, .p o, .ms (τ.length + 2) (as.length * 5) 0 as.length ucap, .p q, .p r]] =
      some (.agg [.p a, .p b, .p c, .p d, .p e, .p f, .p g, .p h, .p i, .p j, .p k, .p m, .p n, .p o, .p (.list false 5 (rowsE as)), .p q, .p r], τ.set l B') := by
  refine leave_s (ds := [.agg [.p a, .p b, .p c, .p d, .p e, .p f, .p g, .p h, .p i, .p j, .p k, .p m, .p n, .p o, .p (.list false 5 (rowsE as)), .p q, .p r]]) ?_ (by simp [refsBs, refsB]) hB hl
  have h1 := fz_own (τ := τ.set l B' ++ [X, Y, ⟨(rowsE as).flatten.map .p, .live, 5, true⟩]) (l := τ.length + 2) (k := τ.length) (fuel := τ.length + 2) (rows := rowsE as) (by rw [at_sa]; rfl) (by omega) (rowsE_len as) (by rw [rowsE_length]; exact hne)
  rw [rowsE_length] at h1
  rw [show τ.length + [X, Y, (⟨(rowsE as).flatten.map .p, .live, 5, true⟩ : B2)].length + 2 = (τ.length + 2 + 2) + 1 from by simp]
  have hp : ∀ x, fzC (τ.set l B' ++ [X, Y, ⟨(rowsE as).flatten.map .p, .live, 5, true⟩]) τ.length (τ.length + 2 + 2) (.p x) = some (.p x) := fun _ => rfl
  have ha : ∀ cs, fzC (τ.set l B' ++ [X, Y, ⟨(rowsE as).flatten.map .p, .live, 5, true⟩]) τ.length (τ.length + 2 + 2 + 1) (.agg cs) = (match fzL (fzC (τ.set l B' ++ [X, Y, ⟨(rowsE as).flatten.map .p, .live, 5, true⟩]) τ.length (τ.length + 2 + 2)) cs with
    | some l => some (.agg l)
    | none => none) := fun _ => rfl
  simp only [fzL, ha, hp, h1]
set_option maxRecDepth 4000 in
theorem stmt_call (H : HGen T) (hT : T F_kp_Reader_Stmt = some sf_kp_Reader_Stmt) (f d deep : Nat) (sub : Nat → Rdr → List LS × Rdr) (r : Rdr) (hd : d + deep = 3) (c0 : 14 ≤ kS d r ∧ kS d r < 15) :
    GD T F_kp_Reader_Stmt [.i f, .i deep] r (.agg ((genS1 f (kS d r) (pm r.hd) sub r.next).1.row.map .p)) (genS1 f (kS d r) (pm r.hd) sub r.next).2 := by
  refine stmt_of H hT f d deep r hd fun τ l dd tm d' hl hr1 hA => ?_
  have hlen : (rowsN (namesL f)).length = (namesL f).length := by simp [rowsN]
  have hpos : ¬ ((namesL f).length = 0) := by unfold namesL; split <;> simp
  have hat := nm_at f (pm r.hd)
  have hfg := fg_at (pm r.hd)
  obtain ⟨tm', d'', h2, h3, h4, hr2⟩ := args_loop H f (pm r.hd) (nm f (pm r.hd)) (fg (pm r.hd)) hl r.next hr1 d'
  have hne := genArgs_len f (pm r.hd) r.next
  have n0 : ¬ kS d r < 6 := by omega
  have n1 : ¬ kS d r < 8 := by omega
  have n2 : ¬ kS d r < 10 := by omega
  have n3 : ¬ kS d r < 12 := by omega
  have n4 : ¬ kS d r < 14 := by omega
  simp only [genS1, n0, n1, n2, n3, n4, c0.2, if_true, if_false]
  refine ⟨?_, hr2⟩
  have hla := fun X Y d a b c d' e f' g h i j k m' n o q r' => leave_call (X := X) (Y := Y) (B := r.B dd) hne (Rdr.refs hr2 d) hl a b c d' e f' g h i j k m' n o q r'
  obtain ⟨t0, t1, t2, t6, t8, t9, t10⟩ := hA
  generalize kS d r = k at c0 t10
  generalize genArgs f (pm r.hd) r.next = A at h2 hne hr2 hla ⊢
  generalize pm r.hd = m at hat hfg t9 h2 ⊢
  have hm2 : (m : Int).tmod 2 = ((m % 2 : Nat) : Int) := rfl
  have c0i : ¬ (k : Int) < 6 := by omega
  have c1i : ¬ (k : Int) < 8 := by omega
  have c2i : ¬ (k : Int) < 10 := by omega
  have c3i : ¬ (k : Int) < 12 := by omega
  have c4i : ¬ (k : Int) < 14 := by omega
  have c5i : (k : Int) < 15 := by omega
  simp only [KC, Z17] at h2
  simp only [List.map_flatten] at hla
  simp [go_sem, postS, sf_kp_Reader_Stmt, t0, t1, t2, t6, t8, t9, t10, c0i, c1i, c2i, c3i, c4i, c5i, hlen, hpos, hat, hfg, tmod_nat, hm2, h2, h3, h4, soil_clean, soil_r, pureAt, okV, okCell, hla, Z17, sCall, LS.row, e0, LE.row, rowsE, rowsS, slP, -Bool.exists_bool]
  exact ⟨_, rfl⟩
structure HGenS (T : FuncId → Option SF) : Prop extends HGen T where
  stmt : T F_kp_Reader_Stmt = some sf_kp_Reader_Stmt
  stmts : T F_kp_Reader_Stmts = some sf_kp_Reader_Stmts
theorem kS_zero (r : Rdr) : ¬ (8 ≤ kS 0 r ∧ kS 0 r < 12) := by
  unfold kS
  split
  · omega
  · rename_i h
    intro h2
    exact h (.inl ⟨rfl, h2⟩)
theorem stmt_any (H : HGenS T) (f d deep : Nat) (sub : Nat → Rdr → List LS × Rdr) (hd : d + deep = 3) (hs : d = 0 ∨ ∀ (most : Nat), most ≤ 100 → ∀ (r : Rdr), GD T F_kp_Reader_Stmts [.i f, .i ((deep : Int) + 1), .i most] r (.p (.list false 17 (rowsS (sub most r).1))) (sub most r).2) (r : Rdr) :
    GD T F_kp_Reader_Stmt [.i f, .i deep] r (.agg ((genS1 f (kS d r) (pm r.hd) sub r.next).1.row.map .p)) (genS1 f (kS d r) (pm r.hd) sub r.next).2 := by
  by_cases c0 : kS d r < 6
  · exact stmt_assign H.toHGen H.stmt f d deep sub r hd c0
  by_cases c1 : kS d r < 8
  · exact stmt_store H.toHGen H.stmt f d deep sub r hd ⟨by omega, c1⟩
  by_cases c2 : kS d r < 10
  · rcases hs with rfl | hs
    · exact absurd ⟨by omega, by omega⟩ (kS_zero r)
    · exact stmt_if H.toHGen H.stmt f d deep sub r hd hs ⟨by omega, c2⟩
  by_cases c3 : kS d r < 12
  · rcases hs with rfl | hs
    · exact absurd ⟨by omega, by omega⟩ (kS_zero r)
    · exact stmt_while H.toHGen H.stmt f d deep sub r hd hs ⟨by omega, c3⟩
  by_cases c4 : kS d r < 14
  · exact stmt_out H.toHGen H.stmt f d deep sub r hd ⟨by omega, c4⟩
  by_cases c5 : kS d r < 15
  · exact stmt_call H.toHGen H.stmt f d deep sub r hd ⟨by omega, c5⟩
  · exact stmt_trap H.toHGen H.stmt f d deep sub r hd (by omega)
theorem stmt_gd (H : HGenS T) (f : Nat) : ∀ (d deep : Nat) (r : Rdr), d + deep = 3 → GD T F_kp_Reader_Stmt [.i f, .i deep] r (.agg ((genS f d r).1.row.map .p)) (genS f d r).2
  | 0, deep, r, hd => stmt_any H f 0 deep _ hd (.inl rfl) r
  | d + 1, deep, r, hd => stmt_any H f (d + 1) deep _ hd (.inr fun most hm r => by
      have := stmts_gd H.toHGen H.stmts f (deep + 1) most hm (genS f d) (fun r => stmt_gd H f d (deep + 1) r (by omega)) r
      simpa using this) r
end
end
end Go.Proofs.YtpkchglfgkkcbaaDoor.Vs
namespace Go.Proofs.YtpkchglfgkkcbaaDoor.Vs
open Go.Proofs.YtpkchglfgkkcbaaDoor.Ev
noncomputable section
attribute [local go_sem] bodyS evS evL want chkV opV isEf neV efV env look put putO keep bi un1 v0 binC isSh binI wb next2 regS condS outS resS tmS nb nl blockS virts round trunc_same lenC idxSC loadC one binS asN_nat faC cellsAt2 storeC cellsOf isCell setAt buildC partsC fillC repC rowC toPs chunks nilChk callV ev2 fieldC unC pickC slcC slcP bnd obnd asN_lit asN_0 asN_1 asN_2 asN_mod asN_modl succ_ne succ_pos' leave3 leave_p undefC
set_option linter.unusedSimpArgs false
inductive IntsV : List Int → PV → Prop where
  | nil : IntsV [] .nils
  | list {x : Bool} {xs : List Int} : IntsV xs (.list x 1 (xs.map fun n => [.int .i64 n]))
def sfProgram : SF := { sf_kp_Program with fl := ⟨fun d => Nat.beq d 34, false⟩ }
def T2 : B2 := ⟨[.p .nils, .p .nils], .live, 2, true⟩
section
variable {T : FuncId → Option SF}
structure AtRd (τ : St2) (τ' : St2) (l : Nat) (r : Rdr) (xs : List Int) : Prop where
  hl : l < τ'.length
  ne : τ.length ≠ l
  lt : τ.length < τ'.length
  ok : r.ts.ok τ' l
  tk : τ'.take τ.length = τ
  t2 : τ'[τ.length]? = some T2
  tape : r.ts.tape = xs
  loops : r.loops = 0
  gt : τ.length < l
theorem flat_ints (xs : List Int) : (xs.map fun n => [PV.int .i64 n]).flatten = xs.map (PV.int .i64) := by induction xs with
  | nil => rfl
  | cons a l ih => simp only [List.map_cons, List.flatten_cons, ih]; rfl
theorem program_pre (xs : List Int) (v : PV) (hv : IntsV xs v) (τ : St2) :
    ∃ τ' l r, evS sfProgram.fl (go T) (preS 2 sfProgram.code) (tmS [.p v] 0) τ = some (.normal, [(2, .ptr τ.length 2 0), (3, .ptr l 2 0)], τ'.set l (r.B true)) ∧ AtRd τ τ' l r (xs.take 60) := by
  obtain ⟨Y, hY⟩ : ∃ Y, evS sfProgram.fl (go T) (preS 2 sfProgram.code) (tmS [.p v] 0) τ = Y := ⟨_, rfl⟩
  rw [hY]
  by_cases he : xs.take 60 = []
  · have hx : xs = [] := by simpa using he
    have hset : ∀ B, (τ ++ [T2, B]).set (τ.length + 1) ((⟨.e true, 0⟩ : Rdr).B true) = τ ++ [T2, (⟨.e true, 0⟩ : Rdr).B true] := fun B => by rw [set_add]; rfl
    refine ⟨τ ++ [T2, (⟨.e true, 0⟩ : Rdr).B true], τ.length + 1, ⟨.e true, 0⟩, ?_, ⟨by simp, by omega, by simp, trivial, by simp, by rw [at_len]; rfl, by rw [he]; rfl, rfl, by omega⟩⟩
    rw [hset]
    subst hx
    cases hv with
    | nil =>
      simp [go_sem, at_len, at_add, set_len, set_add, sfProgram, sf_kp_Program, preS, T2, mnC, appC, srcC, appTo, -Bool.exists_bool] at hY
      subst hY
      rfl
    | list =>
      simp [go_sem, at_len, at_add, set_len, set_add, sfProgram, sf_kp_Program, preS, T2, mnC, appC, srcC, appTo, -Bool.exists_bool] at hY
      subst hY
      rfl
  · cases hv with
    | nil => exact absurd rfl he
    | @list x xs =>
      have hh1 : min xs.length 60 ≤ xs.length := Nat.min_le_left ..
      have hmn : mnC (.p (.int .i64 (xs.length : Int))) (.p (.int .i64 60)) = some (.p (.int .i64 ((min xs.length 60 : Nat) : Int))) := by
        simp only [mnC, decide_true, cond_true]
        congr 3
        split <;> omega
      have hys : (xs.take 60).length = min xs.length 60 := by simp [Nat.min_comm]
      have htk : (xs.map fun n => [PV.int .i64 n]).take (min xs.length 60) = (xs.take 60).map fun n => [PV.int .i64 n] := by
        rw [← List.map_take]
        congr 1
        by_cases h : xs.length ≤ 60
        · rw [Nat.min_eq_left h, List.take_length, List.take_of_length_le h]
        · rw [Nat.min_eq_right (by omega)]
      have hpos : min xs.length 60 ≠ 0 := by rw [← hys]; exact fun e => he (List.length_eq_zero_iff.1 e)
      have hle : min xs.length 60 ≤ 1000000 := Nat.le_trans (Nat.min_le_right ..) (by decide)
      have hfl := flat_ints (xs.take 60)
      generalize xs.take 60 = ys at he hys htk hfl ⊢
      generalize min xs.length 60 = h at hh1 hmn hys htk hpos hle
      let B : B2 := ⟨ys.map fun n => .p (.int .i64 n), .live, 1, true⟩
      let r : Rdr := ⟨.m (τ.length + 1) h 0 ys, 0⟩
      have hset : (τ ++ [T2, B, r.B true]).set (τ.length + 2) (r.B true) = τ ++ [T2, B, r.B true] := by rw [set_add]; rfl
      refine ⟨τ ++ [T2, B, r.B true], τ.length + 2, r, ?_, ⟨by simp, by omega, by simp, ⟨by simp, by simp, _, true, by rw [at_add]; rfl, by simp [hys], by omega, fun i hi => ?_⟩, by simp, by rw [at_len]; rfl, rfl, rfl, by omega⟩⟩
      · rw [hset]
        simp [go_sem, at_len, at_add, set_len, set_add, sfProgram, sf_kp_Program, preS, T2, hmn, hh1, htk, appC, srcC, appTo, newMs, hys, hpos, hle, hfl, -Bool.exists_bool] at hY
        subst hY
        simp [T2, B, r, Rdr.B, TS.c, hys, Function.comp_def]
      · rw [Nat.zero_add]
        rw [← List.map_drop, List.drop_eq_getElem_cons hi]
        rfl
theorem at_ca0 (τ L : St2) (l : Nat) (B : B2) : ((cleanT τ).set l B ++ cleanT L)[τ.length]? = (cleanT L)[0]? := at_ca τ L l B 0
theorem at_cb0 (τ L : St2) (l : Nat) (B : B2) : (cleanT (τ.set l B ++ L))[τ.length]? = (cleanT L)[0]? := at_cb τ L l B 0
def qm (n : Int) : Int := (IntKind.i64.wrap (n.tdiv 4)) % 4
def genP (r : Rdr) : LP :=
  let s0 := stmtsOf (genS 0 3) 5 r.next
  let v0 := genE 0 3 s0.2
  let s1 := stmtsOf (genS 1 2) 3 v0.2
  let v1 := genE 1 3 s1.2
  ⟨some true, [([97], 1 + r.hd % 4), ([98], 1 + qm r.hd)], some true,
    [⟨[102], some true, [[120], [121]], some true, [[105], [106]], some false, s0.1, v0.1⟩, ⟨[103], some true, [[110]], some true, [[105]], some false, s1.1, v1.1⟩]⟩
theorem set_o {τ L : St2} {l k : Nat} {B X : B2} (h : k < τ.length) (hn : k ≠ l) : (τ.set l B ++ L).set k X = (τ.set k X).set l B ++ L := by
  rw [set_low (by simpa using h), List.set_comm _ _ (Ne.symm hn)]
theorem program_out {τ τ' : St2} {l : Nat} {R P : B2} {A : PV} {ps qs : List PV} (hl : l < τ'.length) (hgt : τ.length < l) (tk : τ'.take τ.length = τ) (hps : ps.length = 9) (hqs : qs.length = 9) :
    outS sfProgram τ (some (.ret, [(2, .ptr τ.length 2 0)], (τ'.set τ.length ⟨[.p A, .ms (τ'.length + 1) 18 0 2 2], .live, 2, true⟩).set l R ++ [P, ⟨(ps ++ qs).map .p, .live, 9, true⟩])) = some (.agg [.p A, .p (.list true 9 [ps, qs])], τ) := by
  have hlow : ∀ i, i < τ.length → τ'[i]? = τ[i]? := fun i hi => by
    have := congrArg (fun t => t[i]?) tk
    simp only [List.getElem?_take, if_pos hi] at this
    exact this
  have h1 : ((τ'.set τ.length ⟨[.p A, .ms (τ'.length + 1) 18 0 2 2], .live, 2, true⟩).set l R ++ [P, ⟨(ps ++ qs).map .p, .live, 9, true⟩])[τ.length]? = some ⟨[.p A, .ms (τ'.length + 1) 18 0 2 2], .live, 2, true⟩ := by
    rw [List.getElem?_append_left (by simp; omega), List.getElem?_set_ne (by omega), List.getElem?_set_self (by omega)]
  have h2 : ((τ'.set τ.length ⟨[.p A, .ms (τ'.length + 1) 18 0 2 2], .live, 2, true⟩).set l R ++ [P, ⟨(ps ++ qs).map .p, .live, 9, true⟩])[τ'.length + 1]? = some ⟨(ps ++ qs).map .p, .live, 9, true⟩ := by
    rw [List.getElem?_append_right (by simp)]; simp
  have h3 : ∀ i, i < τ.length → ((τ'.set τ.length ⟨[.p A, .ms (τ'.length + 1) 18 0 2 2], .live, 2, true⟩).set l R ++ [P, ⟨(ps ++ qs).map .p, .live, 9, true⟩])[i]? = τ[i]? := fun i hi => by
    rw [List.getElem?_append_left (by simp; omega), List.getElem?_set_ne (by omega), List.getElem?_set_ne (by omega), hlow i hi]
  have h4 : ((τ'.set τ.length ⟨[.p A, .ms (τ'.length + 1) 18 0 2 2], .live, 2, true⟩).set l R ++ [P, ⟨(ps ++ qs).map .p, .live, 9, true⟩]).length = τ'.length + 2 := by simp
  generalize (τ'.set τ.length ⟨[.p A, .ms (τ'.length + 1) 18 0 2 2], .live, 2, true⟩).set l R ++ [P, ⟨(ps ++ qs).map .p, .live, 9, true⟩] = S at *
  have hS : S.take τ.length = τ := by
    refine List.ext_getElem? fun i => ?_
    rw [List.getElem?_take]
    split
    · rename_i hi; exact h3 i hi
    · rw [List.getElem?_eq_none (by omega)]
  have hlv := leave_gen (τ := τ) (τ' := S) (cs := [.agg [.p A, .ms (τ'.length + 1) 18 0 2 2]]) (ds := [.agg [.p A, .p (.list true 9 [ps, qs])]]) (by
    rw [h4]
    have hk : Nat.ble (τ'.length + 1 + 1) τ.length = false := by rw [nl]; simp; omega
    have hc : chunks 9 2 (ps ++ qs) = [ps, qs] := by
      simp only [chunks]
      rw [List.take_append_of_le_length (by omega), List.take_of_length_le (by omega), List.drop_append_of_le_length (by omega), List.drop_of_length_le (by omega), List.nil_append, List.take_of_length_le (by omega)]
    have hlen : ((ps ++ qs).map C.p).length = 18 := by simp [hps, hqs]
    have htk : (((ps ++ qs).map C.p).drop 0).take (2 * 9) = (ps ++ qs).map C.p := by rw [List.drop_zero]; exact List.take_of_length_le (by omega)
    simp only [fzL, fzC, hk, cond_false, h2, hlen, htk, fzL_p, fzRow, toPs_p, hc]
    rfl) (by simp [refsBs, refsB]) (fun i hi => .inl (h3 i hi)) (by omega)
  rw [hS] at hlv
  have hg : cellsAt2 S τ.length 2 0 2 = some [.p A, .ms (τ'.length + 1) 18 0 2 2] := by
    simp only [cellsAt2, h1]
    rfl
  simp only [outS, sfProgram, sf_kp_Program, resS, look, Nat.beq_refl, cond_true, loadC, hg, one, hlv, tup1]
set_option maxRecDepth 4000 in
theorem program_post (H : HGenS T) {τ τ' : St2} {l : Nat} {r : Rdr} {xs : List Int} (hA : AtRd τ τ' l r xs) :
    outS sfProgram τ (evS sfProgram.fl (go T) (postS 2 sfProgram.code) [(2, .ptr τ.length 2 0), (3, .ptr l 2 0)] (τ'.set l (r.B true))) = some (.agg ((genP r).row.map .p), τ) := by
  obtain ⟨hl, ne, hlt, ok, tk, ht2, htape, hloops, hgt⟩ := hA
  obtain ⟨g1, g1', h1, -, ok1⟩ := (next_gd H.next r).own hl ok
  have h10 := h1 true []
  simp only [List.append_nil] at h10
  obtain ⟨s0, r2, e2⟩ : ∃ s r2, stmtsOf (genS 0 3) 5 r.next = (s, r2) := ⟨_, _, rfl⟩
  have i2 : GD T F_kp_Reader_Stmts [.i 0, .i 0, .i 5] r.next _ _ := stmts_gd H.toHGen H.stmts 0 0 5 (by decide) (genS 0 3) (fun r => stmt_gd H 0 3 0 r rfl) r.next
  rw [e2] at i2
  obtain ⟨g2, g2', h2, h2c, ok2⟩ := i2.own hl ok1
  obtain ⟨v0, r3, e3⟩ : ∃ s r2', genE 0 3 r2 = (s, r2') := ⟨_, _, rfl⟩
  have i3 : GD T F_kp_Reader_Expr [.i 0, .i 1] r2 _ _ := expr_gd1 H.toHGen 0 r2
  rw [e3] at i3
  obtain ⟨kv0, nv0, sv0, ov0, vv0, hv0⟩ := v0.row5
  simp only [hv0, List.map] at i3
  obtain ⟨g3, g3', h3, h3c, ok3⟩ := i3.own hl ok2
  obtain ⟨s1, r4, e4⟩ : ∃ s r2', stmtsOf (genS 1 2) 3 r3 = (s, r2') := ⟨_, _, rfl⟩
  have i4 : GD T F_kp_Reader_Stmts [.i 1, .i 1, .i 3] r3 _ _ := stmts_gd H.toHGen H.stmts 1 1 3 (by decide) (genS 1 2) (fun r => stmt_gd H 1 2 1 r rfl) r3
  rw [e4] at i4
  obtain ⟨g4, g4', h4, h4c, ok4⟩ := i4.own hl ok3
  obtain ⟨v1, r5, e5⟩ : ∃ s r2', genE 1 3 r4 = (s, r2') := ⟨_, _, rfl⟩
  have i5 : GD T F_kp_Reader_Expr [.i 1, .i 1] r4 _ _ := expr_gd1 H.toHGen 1 r4
  rw [e5] at i5
  obtain ⟨kv1, nv1, sv1, ov1, vv1, hv1⟩ := v1.row5
  simp only [hv1, List.map] at i5
  obtain ⟨g5, g5', h5, h5c, ok5⟩ := i5.own hl ok4
  have hp := fun n m hm hm2 τ => pick_eq H.pick n m hm hm2 τ
  have hw1 : IntKind.i64.wrap (1 + r.hd % 4) = 1 + r.hd % 4 := wrap_in (by omega) (by omega)
  have hw2 : IntKind.i64.wrap (1 + IntKind.i64.wrap (r.hd.tdiv 4) % 4) = 1 + IntKind.i64.wrap (r.hd.tdiv 4) % 4 := wrap_in (by omega) (by omega)
  have hG : genP r = ⟨some true, [([97], 1 + r.hd % 4), ([98], 1 + qm r.hd)], some true, [⟨[102], some true, [[120], [121]], some true, [[105], [106]], some false, s0, v0⟩, ⟨[103], some true, [[110]], some true, [[105]], some false, s1, v1⟩]⟩ := by
    simp only [genP, e2, e3, e4, e5]
  rw [hG]
  have hT2 : ∀ B L, (τ'.set l B ++ L)[τ.length]? = some ⟨[.p .nils, .p .nils], .live, 2, true⟩ := fun B L => by rw [get_o hlt ne, ht2]; rfl
  have hS2 : ∀ B L X, (τ'.set l B ++ L).set τ.length X = (τ'.set τ.length X).set l B ++ L := fun B L X => set_o hlt ne
  obtain ⟨Y, hY⟩ : ∃ Y, evS sfProgram.fl (go T) (postS 2 sfProgram.code) [(2, .ptr τ.length 2 0), (3, .ptr l 2 0)] (τ'.set l (r.B true)) = Y := ⟨_, rfl⟩
  rw [hY]
  simp [go_sem, at_sl, at_sa, set_sl, set_sa, sfProgram, sf_kp_Program, postS, h10, hp, hw1, hw2, h2c, h3c, h4c, h5c, soil_clean, soil_r, pureAt, okV, okCell, at_cb, at_ca, at_cb0, at_ca0, cleanT_get, hT2, hS2, -Bool.exists_bool] at hY
  subst hY
  have hfin := fun R P => program_out (R := R) (P := P) (A := .list true 2 [[.str [97], .int .i64 (1 + r.hd % 4)], [.str [98], .int .i64 (1 + IntKind.i64.wrap (r.hd.tdiv 4) % 4)]]) (ps := [.str [102], .list true 1 [[.str [120]], [.str [121]]], .list true 1 [[.str [105]], [.str [106]]], .list false 17 (rowsS s0), .int .i64 kv0, .int .i64 nv0, .str sv0, .int .i64 ov0, vv0]) (qs := [.str [103], .list true 1 [[.str [110]]], .list true 1 [[.str [105]]], .list false 17 (rowsS s1), .int .i64 kv1, .int .i64 nv1, .str sv1, .int .i64 ov1, vv1]) hl hgt tk rfl rfl
  simp only [List.map, List.cons_append, List.nil_append] at hfin
  rw [hfin]
  simp [LP.row, rowsA, rowsF, LF.row, rowsN, slP, hv0, hv1, qm]
theorem program_eq (H : HGenS T) (hT : T F_kp_Program = some sfProgram) (xs : List Int) (v : PV) (hv : IntsV xs v) (τ : St2) :
    ∃ r, go T F_kp_Program [.p v] τ = some (.agg ((genP r).row.map .p), τ) ∧ r.ts.tape = xs.take 60 ∧ r.loops = 0 := by
  obtain ⟨τ', l, r, h1, h2⟩ := program_pre (T := T) xs v hv τ
  refine ⟨r, ?_, h2.tape, h2.loops⟩
  rw [go_eq, hT, body_cut 2 rfl _ _ _ rfl, h1]
  exact program_post H h2
end
end
end Go.Proofs.YtpkchglfgkkcbaaDoor.Vs
