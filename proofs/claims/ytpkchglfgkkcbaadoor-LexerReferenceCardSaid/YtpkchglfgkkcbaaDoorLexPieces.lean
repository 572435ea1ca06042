/-
  Slices of integers among the arguments; fullinglaw2.pieces: the walk.
-/
import Derived.Test.YtpkchglfgkkcbaaDoorLexScan
import Derived.Test.YtpkchglfgkkcbaaDoorPick
namespace Go.Proofs.YtpkchglfgkkcbaaDoor
open Go.RowKit (wrap32 wrap64)
open Go.RowKit Go.ChangeShapes Go.WideShapes
set_option maxHeartbeats 400000

/-- The slice value v holds the integers xs. -/
def IntsIs (w : World) (v : Value) (xs : List Int) : Prop :=
  ((∃ p cap, v = .slice p 0 cap) ∧ xs = []) ∨
  (∃ b off cap, v = .slice (some ⟨b, off, none⟩) xs.length cap ∧ 0 < xs.length ∧ xs.length ≤ maxLen ∧ ∀ i, i < xs.length → w.cell? ⟨b, off + i, none⟩ = some (.int .i64 (xs.getD i 0)))
theorem IntsIs.keep {w w' : World} {v : Value} {xs : List Int} (h : IntsIs w v xs) (hb : Bel w w') : IntsIs w' v xs := by
  rcases h with h | ⟨b, off, cap, rfl, h0, h1, hc⟩
  · exact Or.inl h
  · refine Or.inr ⟨b, off, cap, rfl, h0, h1, fun i hi => ?_⟩
    have h2 := hc i hi
    rw [← h2]
    exact Below.cell hb (World.block_lt_of_cell? w _ h2)
set_option maxRecDepth 100000 in
theorem ints_of_arg {H : Type} {enc : TypeId × Value → H} {W : World} {t : TypeId} {v : Value} {d : DataW H} {p : List MemPlace} {r : Reach} {base : Nat} (ht : Tryd.prog.underlying t = some (.slice 3)) (hv : Value.okWide Tryd.prog W r base t v)
    (h : DataW.Trod enc Tryd.prog W 0 (fun _ => true) true t v d p) : ∃ xs, IntsIs W v xs := by
  obtain ⟨a0, len, cap, rfl⟩ := okWide_slice ht hv
  obtain ⟨fuel, hf⟩ := h
  rcases open_ints ht Tryd.underlying3 (by kernel_rfl) hf with ⟨hcs, hx⟩ | ⟨a, len', cap', zs, hcs, _, hl, hm, hz, hx, hcell, hwz⟩
  · simp [Value.cells] at hcs
    obtain ⟨rfl, rfl, rfl⟩ := hcs
    exact ⟨[], Or.inl ⟨⟨_, _, rfl⟩, rfl⟩⟩
  · simp [Value.cells] at hcs
    obtain ⟨rfl, rfl, rfl⟩ := hcs
    simp only [if_true] at hz
    by_cases h0 : len = 0
    · subst h0
      exact ⟨[], Or.inl ⟨⟨_, _, rfl⟩, rfl⟩⟩
    · obtain ⟨b, off, spot⟩ := a
      have hspot : spot = none := by simpa [Addr.add] using World.cell?_spot (hcell 0 (by omega))
      subst hspot
      have hlen : (zs.take len).length = len := by rw [List.length_take]; omega
      refine ⟨zs.take len, Or.inr ⟨b, off, cap, by rw [hlen], by omega, by omega, fun i hi => ?_⟩⟩
      rw [← add_plain, hcell i (by omega)]
      rw [hlen] at hi
      simp [List.getD_eq_getElem?_getD, hi]
def allP : List (List UInt8) := [[97], [98, 95, 49], [32], [9], [10], [35], [62], [62, 62], [60], [61], [33], [43], [45], [48], [55], [48, 55], [57, 50, 50, 51, 51, 55, 50, 48, 51, 54, 56, 53, 52, 55, 55, 53, 56, 48, 56], [57, 50, 50, 51, 51, 55, 50, 48, 51, 54, 56, 53, 52, 55, 55, 53, 56, 48, 57], [48, 120], [38], [40], [91], [59], [0], [195, 169], [97, 98, 99, 100, 101, 102, 103, 104, 105, 106, 107, 108, 109, 110, 111, 112], [97, 98, 99, 100, 101, 102, 103, 104, 105, 106, 107, 108, 109, 110, 111, 112, 113], [37], [36], [13]]
def pieceL (xs : List Int) : List UInt8 := (xs.take 30).flatMap (fun x => allP.getD (x % 30).toNat [])
theorem allP_len (j : Nat) : (allP.getD j []).length ≤ 19 := by
  by_cases h : j < allP.length
  · rw [List.getD_eq_getElem?_getD, List.getElem?_eq_getElem h]
    have : ∀ p ∈ allP, p.length ≤ 19 := by decide
    exact this _ (List.getElem_mem h)
  · rw [List.getD_eq_getElem?_getD, List.getElem?_eq_none (by omega)]
    simp
theorem flat_len : ∀ xs : List Int, (xs.flatMap (fun x => allP.getD (x % 30).toNat [])).length ≤ 19 * xs.length
  | [] => by simp
  | x :: xs => by
    have := flat_len xs
    have h2 := allP_len (x % 30).toNat
    rw [List.flatMap_cons, List.length_append, List.length_cons]
    omega
theorem piece_len (xs : List Int) : (pieceL xs).length ≤ 570 := by
  have := flat_len (xs.take 30)
  have h2 : (xs.take 30).length ≤ 30 := by rw [List.length_take]; omega
  unfold pieceL
  omega
theorem piece_take (xs : List Int) (k : Nat) (hk : k < xs.length) (h : k < 30) : pieceL (xs.take (k + 1)) = pieceL (xs.take k) ++ allP.getD (xs.getD k 0 % 30).toNat [] := by
  unfold pieceL
  rw [List.take_take, List.take_take, Nat.min_eq_right (by omega), Nat.min_eq_right (by omega), List.take_succ_eq_append_getElem hk, List.flatMap_append]
  congr 1
  have e : xs.getD k 0 = xs[k] := by rw [List.getD_eq_getElem?_getD, List.getElem?_eq_getElem hk]; rfl
  rw [e]
  simp
theorem piece_all (xs : List Int) (k : Nat) (h : xs.length ≤ k ∨ 30 ≤ k) : pieceL (xs.take k) = pieceL xs := by
  unfold pieceL
  rw [List.take_take]
  rcases h with h | h
  · by_cases h2 : k ≤ 30
    · rw [Nat.min_eq_right h2, List.take_of_length_le h, List.take_of_length_le (by omega)]
    · rw [Nat.min_eq_left (by omega)]
  · rw [Nat.min_eq_left h]
def allA : Array Value := #[.string ⟨#[97]⟩, .string ⟨#[98, 95, 49]⟩, .string ⟨#[32]⟩, .string ⟨#[9]⟩, .string ⟨#[10]⟩, .string ⟨#[35]⟩, .string ⟨#[62]⟩, .string ⟨#[62, 62]⟩, .string ⟨#[60]⟩, .string ⟨#[61]⟩, .string ⟨#[33]⟩, .string ⟨#[43]⟩, .string ⟨#[45]⟩, .string ⟨#[48]⟩, .string ⟨#[55]⟩, .string ⟨#[48, 55]⟩, .string ⟨#[57, 50, 50, 51, 51, 55, 50, 48, 51, 54, 56, 53, 52, 55, 55, 53, 56, 48, 56]⟩, .string ⟨#[57, 50, 50, 51, 51, 55, 50, 48, 51, 54, 56, 53, 52, 55, 55, 53, 56, 48, 57]⟩, .string ⟨#[48, 120]⟩, .string ⟨#[38]⟩, .string ⟨#[40]⟩, .string ⟨#[91]⟩, .string ⟨#[59]⟩, .string ⟨#[0]⟩, .string ⟨#[195, 169]⟩, .string ⟨#[97, 98, 99, 100, 101, 102, 103, 104, 105, 106, 107, 108, 109, 110, 111, 112]⟩, .string ⟨#[97, 98, 99, 100, 101, 102, 103, 104, 105, 106, 107, 108, 109, 110, 111, 112, 113]⟩, .string ⟨#[37]⟩, .string ⟨#[36]⟩, .string ⟨#[13]⟩]
def allL : List Value := [.string ⟨#[97]⟩, .string ⟨#[98, 95, 49]⟩, .string ⟨#[32]⟩, .string ⟨#[9]⟩, .string ⟨#[10]⟩, .string ⟨#[35]⟩, .string ⟨#[62]⟩, .string ⟨#[62, 62]⟩, .string ⟨#[60]⟩, .string ⟨#[61]⟩, .string ⟨#[33]⟩, .string ⟨#[43]⟩, .string ⟨#[45]⟩, .string ⟨#[48]⟩, .string ⟨#[55]⟩, .string ⟨#[48, 55]⟩, .string ⟨#[57, 50, 50, 51, 51, 55, 50, 48, 51, 54, 56, 53, 52, 55, 55, 53, 56, 48, 56]⟩, .string ⟨#[57, 50, 50, 51, 51, 55, 50, 48, 51, 54, 56, 53, 52, 55, 55, 53, 56, 48, 57]⟩, .string ⟨#[48, 120]⟩, .string ⟨#[38]⟩, .string ⟨#[40]⟩, .string ⟨#[91]⟩, .string ⟨#[59]⟩, .string ⟨#[0]⟩, .string ⟨#[195, 169]⟩, .string ⟨#[97, 98, 99, 100, 101, 102, 103, 104, 105, 106, 107, 108, 109, 110, 111, 112]⟩, .string ⟨#[97, 98, 99, 100, 101, 102, 103, 104, 105, 106, 107, 108, 109, 110, 111, 112, 113]⟩, .string ⟨#[37]⟩, .string ⟨#[36]⟩, .string ⟨#[13]⟩]
theorem allL_at (j : Nat) (h : j < allL.length) : allL[j] = .string ⟨(allP.getD j []).toArray⟩ := by
  have e : allL = allP.map (fun p => Value.string ⟨p.toArray⟩) := rfl
  have e2 : allL[j]? = some (.string ⟨(allP.getD j []).toArray⟩) := by
    rw [e, List.getElem?_map, List.getD_eq_getElem?_getD, List.getElem?_eq_getElem (by exact h)]
    rfl
  rw [List.getElem?_eq_getElem h] at e2
  exact Option.some.inj e2
theorem pieces_nil (p : Option Addr) (cap : Nat) (w : World) : Calls Tryd.prog 7 #[.slice p 0 cap] w fun e w' => e = .returned (.string ⟨#[]⟩) ∧ Bel w w' := by
  go_enter Tryd.func7, Tryd.ntmps7
  go_wp2_with fail
  go_loopw [4, 5] (fun v i wr => v = .string ⟨#[]⟩ ∧ i = .int .i64 0 ∧ Hid (Bel w wr)) (fun _ i _ => 0)
  case atStart => exact ⟨rfl, rfl, Lib.hid ((Bel.refl w).alloc _)⟩
  case round =>
    obtain ⟨rfl, rfl, HB⟩ := hrel
    go_wp2_with fail
    go_ret
    exact ⟨rfl, HB.out⟩
set_option maxRecDepth 100000 in
theorem pieces_some (b off cap : Nat) (xs : List Int) (w : World) (h0 : 0 < xs.length) (hm : xs.length ≤ maxLen) (hc : ∀ i, i < xs.length → w.cell? ⟨b, off + i, none⟩ = some (.int .i64 (xs.getD i 0))) :
    Calls Tryd.prog 7 #[.slice (some ⟨b, off, none⟩) xs.length cap] w fun e w' => e = .returned (.string ⟨(pieceL xs).toArray⟩) ∧ Bel w w' := by
  have HC : Hid (∀ o i, i < xs.length → (w.alloc o).cell? ⟨b, off + i, none⟩ = some (.int .i64 (xs.getD i 0))) := fun o i hi => by
    have h2 := hc i hi
    rw [← h2]
    exact Below.cell ((Bel.refl w).alloc o) (World.block_lt_of_cell? w _ h2)
  unfold maxLen at hm
  clear hc
  go_enter Tryd.func7, Tryd.ntmps7
  go_wp2_with fail
  go_loop [4, 5] (fun m i => ∃ (k : Nat) (t : ByteArray), k ≤ xs.length ∧ k ≤ 30 ∧ i = .int .i64 k ∧ m = .string t ∧ Hid (t = ⟨(pieceL (xs.take k)).toArray⟩)) (fun _ i => 30 - (intOf i).toNat)
  case atStart => exact ⟨0, ⟨#[]⟩, by omega, by omega, rfl, rfl, Lib.hid rfl⟩
  case round =>
    obtain ⟨k, t, hk, hk2, rfl, rfl, HT⟩ := hrel
    by_cases hlt : k < xs.length
    · by_cases h30 : k < 30
      · obtain ⟨j, hj⟩ : ∃ j : Nat, xs.getD k 0 % 30 = j := ⟨(xs.getD k 0 % 30).toNat, by omega⟩
        have hj30 : j < 30 := by omega
        obtain ⟨x, hx⟩ : ∃ x, xs.getD k 0 = x := ⟨_, rfl⟩
        have hcell := HC.out (.cells allA 9) k hlt
        rw [hx] at hcell
        have HP : Hid (∀ w, Calls Tryd.prog 12 #[.int .i64 x, .int .i64 30] w fun e w' => e = .returned (.int .i64 j) ∧ w = w') := by
          rw [← hj, hx]
          exact fun w => pick_any x 30 w (by omega) (by omega)
        obtain ⟨u, hu⟩ : ∃ u : ByteArray, u = ⟨(allP.getD j []).toArray⟩ := ⟨_, rfl⟩
        have harr : ∀ h, allL[j]'h = .string u := fun h => by rw [hu]; exact allL_at j h
        have hus : u.size ≤ 19 := by rw [hu, ← size_len]; exact allP_len j
        have hts : t.size ≤ 570 := by rw [HT.out, ← size_len]; exact piece_len _
        have HN : Hid (t ++ u = ⟨(pieceL (xs.take (k + 1))).toArray⟩) := Lib.hid (by
          rw [piece_take xs k hlt h30, hj, Int.toNat_natCast, HT.out, hu]
          exact ByteArray.mk_append_mk _ _)
        obtain ⟨y, hy⟩ : ∃ y, t ++ u = y := ⟨_, rfl⟩
        have hadd : ∀ W, (Op.stringOp .add t u).run Tryd.prog W = .ok (.string y) W := fun W => by
          rw [run_string_add_sum W _ _ (by omega), hy]
        rw [hy] at HN
        clear hy hus hts hu hj hx HT
        unfold allA at hcell
        unfold allL at harr
        go_wp2_with fail
        refine (HP.out _).mono ?_
        rintro e w' ⟨rfl, rfl⟩
        go_wp2_with fail
        exact ⟨⟨k + 1, y, by omega, by omega, by go_num, rfl, HN⟩, by simp [intOf]; omega⟩
      · obtain rfl : k = 30 := by omega
        have HE : Hid (t = ⟨(pieceL xs).toArray⟩) := by rw [← piece_all xs 30 (Or.inr (Nat.le_refl _))]; exact HT
        go_wp2_with fail
        go_ret
        refine ⟨?_, (Bel.refl w).alloc _⟩
        rw [← HE.out]
        rfl
    · have HE : Hid (t = ⟨(pieceL xs).toArray⟩) := by rw [← piece_all xs k (Or.inl (by omega))]; exact HT
      go_wp2_with fail
      go_ret
      refine ⟨?_, (Bel.refl w).alloc _⟩
      rw [← HE.out]
      rfl
theorem pieces_any (v : Value) (xs : List Int) (w : World) (h : IntsIs w v xs) : Calls Tryd.prog 7 #[v] w fun e w' => e = .returned (.string ⟨(pieceL xs).toArray⟩) ∧ Bel w w' := by
  rcases h with ⟨⟨p, cap, rfl⟩, rfl⟩ | ⟨b, off, cap, rfl, h0, h1, hc⟩
  · exact pieces_nil p cap w
  · exact pieces_some b off cap xs w h0 h1 hc
end Go.Proofs.YtpkchglfgkkcbaaDoor
