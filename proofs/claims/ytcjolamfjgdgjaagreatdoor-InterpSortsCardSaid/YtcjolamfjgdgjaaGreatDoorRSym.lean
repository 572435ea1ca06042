/-
  The reference scanner's small functions and its symbol: the walks.
-/
import Derived.Test.YtcjolamfjgdgjaaGreatDoorRNum
import Derived.Test.YtcjolamfjgdgjaaGreatDoorLexScan
import Derived.Deep.Quiet
import Derived.Deep.QuietTactic
import Derived.Deep.RegionWith
import Derived.Laws.StructEq
namespace Go.Proofs.YtcjolamfjgdgjaaGreatDoor
open Go.RowKit (wrap32 wrap64)
open Go.RowKit
set_option maxHeartbeats 400000

theorem refIsDigit_any (c : UInt8) (w : World) : Calls Tryz.prog 51 #[.int .u8 c.toNat] w fun e w' => e = .returned (.bool (isDig c)) ∧ w = w' := by
  have HD : Hid (isDig c = (decide (48 ≤ (c.toNat : Int)) && decide ((c.toNat : Int) ≤ 57))) := Lib.hid (by unfold isDig; congr 1 <;> (rw [decide_eq_decide]; omega))
  rcases Bool.eq_false_or_eq_true (decide (48 ≤ (c.toNat : Int))) with t1 | t1 <;> rcases Bool.eq_false_or_eq_true (decide ((c.toNat : Int) ≤ 57)) with t2 | t2
  all_goals
    have HX := HD.out
    rw [t1, t2] at HX
    have HY := Lib.hid HX
    clear HX HD
    go_enter Tryz.func51, Tryz.ntmps51
    go_wp2_with fail
    go_ret
    exact ⟨by rw [HY.out]; rfl, rfl⟩
theorem refIsLetter_any (c : UInt8) (w : World) : Calls Tryz.prog 50 #[.int .u8 c.toNat] w fun e w' => e = .returned (.bool (isLet c)) ∧ w = w' := by
  have HE : Hid (isLet c = ((decide (97 ≤ (c.toNat : Int)) && decide ((c.toNat : Int) ≤ 122)) || (decide (65 ≤ (c.toNat : Int)) && decide ((c.toNat : Int) ≤ 90)) || ((c.toNat : Int) == 95))) := Lib.hid (by
    unfold isLet
    have e1 : ((c.toNat : Int) == 95) = (c.toNat == 95) := by rw [Bool.eq_iff_iff, beq_iff_eq, beq_iff_eq]; omega
    have e2 : decide (97 ≤ (c.toNat : Int)) = decide (97 ≤ c.toNat) := by rw [decide_eq_decide]; omega
    have e3 : decide ((c.toNat : Int) ≤ 122) = decide (c.toNat ≤ 122) := by rw [decide_eq_decide]; omega
    have e4 : decide (65 ≤ (c.toNat : Int)) = decide (65 ≤ c.toNat) := by rw [decide_eq_decide]; omega
    have e5 : decide ((c.toNat : Int) ≤ 90) = decide (c.toNat ≤ 90) := by rw [decide_eq_decide]; omega
    rw [e1, e2, e3, e4, e5])
  rcases Bool.eq_false_or_eq_true ((c.toNat : Int) == 95) with t1 | t1 <;> rcases Bool.eq_false_or_eq_true (decide (97 ≤ (c.toNat : Int))) with t2 | t2 <;> rcases Bool.eq_false_or_eq_true (decide ((c.toNat : Int) ≤ 122)) with t3 | t3 <;> rcases Bool.eq_false_or_eq_true (decide (65 ≤ (c.toNat : Int))) with t4 | t4 <;> rcases Bool.eq_false_or_eq_true (decide ((c.toNat : Int) ≤ 90)) with t5 | t5
  all_goals
    have HX := HE.out
    rw [t1, t2, t3, t4, t5] at HX
    have HY := Lib.hid HX
    clear HX HE
    go_enter Tryz.func50, Tryz.ntmps50
    go_wp2_with fail
    go_ret
    exact ⟨by rw [HY.out]; rfl, rfl⟩
theorem prefix_take (s : ByteArray) (p : List UInt8) (h : p.length ≤ s.size) : ((s.extract 0 p.length).toList == p) = p.isPrefixOf s.data.toList := by
  rw [Lib.toList_data, Lib.extract_data, List.drop_zero, Nat.sub_zero]
  have e := Lib.hasPrefix_of_take s.data.toList p
  have hd : decide (p.length ≤ s.data.toList.length) = true := by rw [size_len]; simpa using h
  rw [hd, Bool.true_and] at e
  exact e
theorem prefix_long (s : ByteArray) (p : List UInt8) (h : ¬ p.length ≤ s.size) : p.isPrefixOf s.data.toList = false := by
  have e := Lib.hasPrefix_of_take s.data.toList p
  have hd : decide (p.length ≤ s.data.toList.length) = false := by rw [size_len]; simpa using h
  rw [hd, Bool.false_and] at e
  exact e.symm
def NoOne (c : UInt8) (k : Nat) : Prop := ∀ d ∈ ones.take k, d ≠ c
theorem noOne_succ (c : UInt8) (k : Nat) (hk : k < ones.length) (h : NoOne c k) (hb : ones[k] ≠ c) : NoOne c (k + 1) := by
  intro p hp
  rw [List.take_succ_eq_append_getElem hk, List.mem_append] at hp
  rcases hp with hp | hp
  · exact h p hp
  · obtain rfl : p = ones[k] := by simpa using hp
    exact hb
theorem noOne_all (c : UInt8) (h : NoOne c 23) : ones.contains c = false := by
  rw [Bool.eq_false_iff]
  intro hc
  exact h c (List.contains_iff_mem.1 hc) rfl
theorem one_hit (c : UInt8) (k : Nat) (hk : k < ones.length) (h : ones[k] = c) : ones.contains c = true := by
  rw [List.contains_iff_mem, ← h]
  exact List.getElem_mem hk
theorem sym_one (s : ByteArray) (hp : 0 < s.size) (h7 : NoneYet s 7) (h : ones.contains s[0] = true) : (⟨(sym s.data.toList).toArray⟩ : ByteArray) = s.extract 0 1 := by
  have hf := find_no _ h7
  have e := drop_cons s 0 hp
  rw [List.drop_zero] at e
  have e2 : s.extract 0 1 = ⟨[s[0]].toArray⟩ := by
    apply bytes_ext
    rw [Lib.extract_data, List.drop_zero, e]
    rfl
  rw [e2]
  rw [e] at hf ⊢
  rw [sym_none _ _ hf, h]
  rfl
theorem sym_zero (s : ByteArray) (hp : 0 < s.size) (h7 : NoneYet s 7) (h : ones.contains s[0] = false) : sym s.data.toList = [] := by
  have hf := find_no _ h7
  have e := drop_cons s 0 hp
  rw [List.drop_zero] at e
  rw [e] at hf ⊢
  rw [sym_none _ _ hf, h]
  rfl
set_option maxRecDepth 100000 in
set_option maxHeartbeats 1000000 in
theorem refSymbol_any (s : ByteArray) (w : World) (hp : 0 < s.size) (hs : s.size ≤ maxLen) : Calls Tryz.prog 53 #[.string s] w fun e w' => e = .returned (.string ⟨(sym s.data.toList).toArray⟩) ∧ Bel w w' := by
  unfold maxLen at hs
  go_enter Tryz.func53, Tryz.ntmps53
  go_wp2_with fail
  go_loopw [4] (fun i wr => ∃ k : Nat, k ≤ 7 ∧ i = .int .i64 k ∧ Hid (NoneYet s k) ∧ Hid (Bel (w.alloc (Obj.cells #[Value.string ⟨#[62, 62, 62]⟩, Value.string ⟨#[60, 60]⟩, Value.string ⟨#[62, 62]⟩, Value.string ⟨#[60, 61]⟩, Value.string ⟨#[62, 61]⟩, Value.string ⟨#[61, 61]⟩, Value.string ⟨#[33, 61]⟩] 9)) wr)) (fun i _ => 7 - (intOf i).toNat)
  case atStart => exact ⟨0, by omega, rfl, Lib.hid (fun p hp => by cases hp), Lib.hid (Bel.refl _)⟩
  case round =>
    obtain ⟨k, hk, rfl, HN, HB⟩ := hrel
    have cs : k = 0 ∨ k = 1 ∨ k = 2 ∨ k = 3 ∨ k = 4 ∨ k = 5 ∨ k = 6 ∨ k = 7 := by omega
    clear hk
    rcases cs with rfl | rfl | rfl | rfl | rfl | rfl | rfl | rfl
    · have hc : ∀ q, (wr.drewN q).cell? ⟨w.heap.size, 0, none⟩ = some (.string ⟨#[62, 62, 62]⟩) := fun q => (Below.cell (bel_drewN HB.out q) (p := ⟨w.heap.size, 0, none⟩) (by simp)).trans (by simp)
      by_cases hl : 3 ≤ s.size
      · obtain ⟨b, hb⟩ : ∃ b, ([62, 62, 62] : List UInt8).isPrefixOf s.data.toList = b := ⟨_, rfl⟩
        have hx : ((s.extract 0 3).toList == [62, 62, 62]) = b := by rw [← hb]; exact prefix_take s [62, 62, 62] hl
        have HPB := Lib.hid hb
        have l1 : decide ((3 : Int) ≤ (s.size : Int)) = true := by simp; omega
        have l2 : decide (3 ≤ s.size) = true := by simp; omega
        have l3 : (3 : Int) ≤ (s.size : Int) := by omega
        clear hb
        cases b
        · go_wp2_with fail
          go_quiet (fail)
          go_wp2_with fail
          exact ⟨⟨0 + 1, by omega, rfl, Lib.hid (noneYet_succ s 0 (by decide) HN.out HPB.out), Lib.hid (bel_drewN HB.out _)⟩, by simp [intOf]⟩
        · have HL := Lib.hid (find_at s.data.toList 0 (by decide) HN.out HPB.out)
          go_wp2_with fail
          go_quiet (fail)
          go_wp2_with fail
          go_ret
          exact ⟨by rw [HL.out]; rfl, ((Bel.refl w).alloc _).trans (bel_drewN HB.out _)⟩
      · have HPB := Lib.hid (prefix_long s [62, 62, 62] hl)
        have l1 : decide ((3 : Int) ≤ (s.size : Int)) = false := by simp; omega
        have l2 : decide (3 ≤ s.size) = false := by simp; omega
        clear hl
        go_wp2_with fail
        go_quiet (fail)
        go_wp2_with fail
        exact ⟨⟨0 + 1, by omega, rfl, Lib.hid (noneYet_succ s 0 (by decide) HN.out HPB.out), Lib.hid (bel_drewN HB.out _)⟩, by simp [intOf]⟩
    · have hc : ∀ q, (wr.drewN q).cell? ⟨w.heap.size, 1, none⟩ = some (.string ⟨#[60, 60]⟩) := fun q => (Below.cell (bel_drewN HB.out q) (p := ⟨w.heap.size, 1, none⟩) (by simp)).trans (by simp)
      by_cases hl : 2 ≤ s.size
      · obtain ⟨b, hb⟩ : ∃ b, ([60, 60] : List UInt8).isPrefixOf s.data.toList = b := ⟨_, rfl⟩
        have hx : ((s.extract 0 2).toList == [60, 60]) = b := by rw [← hb]; exact prefix_take s [60, 60] hl
        have HPB := Lib.hid hb
        have l1 : decide ((2 : Int) ≤ (s.size : Int)) = true := by simp; omega
        have l2 : decide (2 ≤ s.size) = true := by simp; omega
        have l3 : (2 : Int) ≤ (s.size : Int) := by omega
        clear hb
        cases b
        · go_wp2_with fail
          go_quiet (fail)
          go_wp2_with fail
          exact ⟨⟨1 + 1, by omega, rfl, Lib.hid (noneYet_succ s 1 (by decide) HN.out HPB.out), Lib.hid (bel_drewN HB.out _)⟩, by simp [intOf]⟩
        · have HL := Lib.hid (find_at s.data.toList 1 (by decide) HN.out HPB.out)
          go_wp2_with fail
          go_quiet (fail)
          go_wp2_with fail
          go_ret
          exact ⟨by rw [HL.out]; rfl, ((Bel.refl w).alloc _).trans (bel_drewN HB.out _)⟩
      · have HPB := Lib.hid (prefix_long s [60, 60] hl)
        have l1 : decide ((2 : Int) ≤ (s.size : Int)) = false := by simp; omega
        have l2 : decide (2 ≤ s.size) = false := by simp; omega
        clear hl
        go_wp2_with fail
        go_quiet (fail)
        go_wp2_with fail
        exact ⟨⟨1 + 1, by omega, rfl, Lib.hid (noneYet_succ s 1 (by decide) HN.out HPB.out), Lib.hid (bel_drewN HB.out _)⟩, by simp [intOf]⟩
    · have hc : ∀ q, (wr.drewN q).cell? ⟨w.heap.size, 2, none⟩ = some (.string ⟨#[62, 62]⟩) := fun q => (Below.cell (bel_drewN HB.out q) (p := ⟨w.heap.size, 2, none⟩) (by simp)).trans (by simp)
      by_cases hl : 2 ≤ s.size
      · obtain ⟨b, hb⟩ : ∃ b, ([62, 62] : List UInt8).isPrefixOf s.data.toList = b := ⟨_, rfl⟩
        have hx : ((s.extract 0 2).toList == [62, 62]) = b := by rw [← hb]; exact prefix_take s [62, 62] hl
        have HPB := Lib.hid hb
        have l1 : decide ((2 : Int) ≤ (s.size : Int)) = true := by simp; omega
        have l2 : decide (2 ≤ s.size) = true := by simp; omega
        have l3 : (2 : Int) ≤ (s.size : Int) := by omega
        clear hb
        cases b
        · go_wp2_with fail
          go_quiet (fail)
          go_wp2_with fail
          exact ⟨⟨2 + 1, by omega, rfl, Lib.hid (noneYet_succ s 2 (by decide) HN.out HPB.out), Lib.hid (bel_drewN HB.out _)⟩, by simp [intOf]⟩
        · have HL := Lib.hid (find_at s.data.toList 2 (by decide) HN.out HPB.out)
          go_wp2_with fail
          go_quiet (fail)
          go_wp2_with fail
          go_ret
          exact ⟨by rw [HL.out]; rfl, ((Bel.refl w).alloc _).trans (bel_drewN HB.out _)⟩
      · have HPB := Lib.hid (prefix_long s [62, 62] hl)
        have l1 : decide ((2 : Int) ≤ (s.size : Int)) = false := by simp; omega
        have l2 : decide (2 ≤ s.size) = false := by simp; omega
        clear hl
        go_wp2_with fail
        go_quiet (fail)
        go_wp2_with fail
        exact ⟨⟨2 + 1, by omega, rfl, Lib.hid (noneYet_succ s 2 (by decide) HN.out HPB.out), Lib.hid (bel_drewN HB.out _)⟩, by simp [intOf]⟩
    · have hc : ∀ q, (wr.drewN q).cell? ⟨w.heap.size, 3, none⟩ = some (.string ⟨#[60, 61]⟩) := fun q => (Below.cell (bel_drewN HB.out q) (p := ⟨w.heap.size, 3, none⟩) (by simp)).trans (by simp)
      by_cases hl : 2 ≤ s.size
      · obtain ⟨b, hb⟩ : ∃ b, ([60, 61] : List UInt8).isPrefixOf s.data.toList = b := ⟨_, rfl⟩
        have hx : ((s.extract 0 2).toList == [60, 61]) = b := by rw [← hb]; exact prefix_take s [60, 61] hl
        have HPB := Lib.hid hb
        have l1 : decide ((2 : Int) ≤ (s.size : Int)) = true := by simp; omega
        have l2 : decide (2 ≤ s.size) = true := by simp; omega
        have l3 : (2 : Int) ≤ (s.size : Int) := by omega
        clear hb
        cases b
        · go_wp2_with fail
          go_quiet (fail)
          go_wp2_with fail
          exact ⟨⟨3 + 1, by omega, rfl, Lib.hid (noneYet_succ s 3 (by decide) HN.out HPB.out), Lib.hid (bel_drewN HB.out _)⟩, by simp [intOf]⟩
        · have HL := Lib.hid (find_at s.data.toList 3 (by decide) HN.out HPB.out)
          go_wp2_with fail
          go_quiet (fail)
          go_wp2_with fail
          go_ret
          exact ⟨by rw [HL.out]; rfl, ((Bel.refl w).alloc _).trans (bel_drewN HB.out _)⟩
      · have HPB := Lib.hid (prefix_long s [60, 61] hl)
        have l1 : decide ((2 : Int) ≤ (s.size : Int)) = false := by simp; omega
        have l2 : decide (2 ≤ s.size) = false := by simp; omega
        clear hl
        go_wp2_with fail
        go_quiet (fail)
        go_wp2_with fail
        exact ⟨⟨3 + 1, by omega, rfl, Lib.hid (noneYet_succ s 3 (by decide) HN.out HPB.out), Lib.hid (bel_drewN HB.out _)⟩, by simp [intOf]⟩
    · have hc : ∀ q, (wr.drewN q).cell? ⟨w.heap.size, 4, none⟩ = some (.string ⟨#[62, 61]⟩) := fun q => (Below.cell (bel_drewN HB.out q) (p := ⟨w.heap.size, 4, none⟩) (by simp)).trans (by simp)
      by_cases hl : 2 ≤ s.size
      · obtain ⟨b, hb⟩ : ∃ b, ([62, 61] : List UInt8).isPrefixOf s.data.toList = b := ⟨_, rfl⟩
        have hx : ((s.extract 0 2).toList == [62, 61]) = b := by rw [← hb]; exact prefix_take s [62, 61] hl
        have HPB := Lib.hid hb
        have l1 : decide ((2 : Int) ≤ (s.size : Int)) = true := by simp; omega
        have l2 : decide (2 ≤ s.size) = true := by simp; omega
        have l3 : (2 : Int) ≤ (s.size : Int) := by omega
        clear hb
        cases b
        · go_wp2_with fail
          go_quiet (fail)
          go_wp2_with fail
          exact ⟨⟨4 + 1, by omega, rfl, Lib.hid (noneYet_succ s 4 (by decide) HN.out HPB.out), Lib.hid (bel_drewN HB.out _)⟩, by simp [intOf]⟩
        · have HL := Lib.hid (find_at s.data.toList 4 (by decide) HN.out HPB.out)
          go_wp2_with fail
          go_quiet (fail)
          go_wp2_with fail
          go_ret
          exact ⟨by rw [HL.out]; rfl, ((Bel.refl w).alloc _).trans (bel_drewN HB.out _)⟩
      · have HPB := Lib.hid (prefix_long s [62, 61] hl)
        have l1 : decide ((2 : Int) ≤ (s.size : Int)) = false := by simp; omega
        have l2 : decide (2 ≤ s.size) = false := by simp; omega
        clear hl
        go_wp2_with fail
        go_quiet (fail)
        go_wp2_with fail
        exact ⟨⟨4 + 1, by omega, rfl, Lib.hid (noneYet_succ s 4 (by decide) HN.out HPB.out), Lib.hid (bel_drewN HB.out _)⟩, by simp [intOf]⟩
    · have hc : ∀ q, (wr.drewN q).cell? ⟨w.heap.size, 5, none⟩ = some (.string ⟨#[61, 61]⟩) := fun q => (Below.cell (bel_drewN HB.out q) (p := ⟨w.heap.size, 5, none⟩) (by simp)).trans (by simp)
      by_cases hl : 2 ≤ s.size
      · obtain ⟨b, hb⟩ : ∃ b, ([61, 61] : List UInt8).isPrefixOf s.data.toList = b := ⟨_, rfl⟩
        have hx : ((s.extract 0 2).toList == [61, 61]) = b := by rw [← hb]; exact prefix_take s [61, 61] hl
        have HPB := Lib.hid hb
        have l1 : decide ((2 : Int) ≤ (s.size : Int)) = true := by simp; omega
        have l2 : decide (2 ≤ s.size) = true := by simp; omega
        have l3 : (2 : Int) ≤ (s.size : Int) := by omega
        clear hb
        cases b
        · go_wp2_with fail
          go_quiet (fail)
          go_wp2_with fail
          exact ⟨⟨5 + 1, by omega, rfl, Lib.hid (noneYet_succ s 5 (by decide) HN.out HPB.out), Lib.hid (bel_drewN HB.out _)⟩, by simp [intOf]⟩
        · have HL := Lib.hid (find_at s.data.toList 5 (by decide) HN.out HPB.out)
          go_wp2_with fail
          go_quiet (fail)
          go_wp2_with fail
          go_ret
          exact ⟨by rw [HL.out]; rfl, ((Bel.refl w).alloc _).trans (bel_drewN HB.out _)⟩
      · have HPB := Lib.hid (prefix_long s [61, 61] hl)
        have l1 : decide ((2 : Int) ≤ (s.size : Int)) = false := by simp; omega
        have l2 : decide (2 ≤ s.size) = false := by simp; omega
        clear hl
        go_wp2_with fail
        go_quiet (fail)
        go_wp2_with fail
        exact ⟨⟨5 + 1, by omega, rfl, Lib.hid (noneYet_succ s 5 (by decide) HN.out HPB.out), Lib.hid (bel_drewN HB.out _)⟩, by simp [intOf]⟩
    · have hc : ∀ q, (wr.drewN q).cell? ⟨w.heap.size, 6, none⟩ = some (.string ⟨#[33, 61]⟩) := fun q => (Below.cell (bel_drewN HB.out q) (p := ⟨w.heap.size, 6, none⟩) (by simp)).trans (by simp)
      by_cases hl : 2 ≤ s.size
      · obtain ⟨b, hb⟩ : ∃ b, ([33, 61] : List UInt8).isPrefixOf s.data.toList = b := ⟨_, rfl⟩
        have hx : ((s.extract 0 2).toList == [33, 61]) = b := by rw [← hb]; exact prefix_take s [33, 61] hl
        have HPB := Lib.hid hb
        have l1 : decide ((2 : Int) ≤ (s.size : Int)) = true := by simp; omega
        have l2 : decide (2 ≤ s.size) = true := by simp; omega
        have l3 : (2 : Int) ≤ (s.size : Int) := by omega
        clear hb
        cases b
        · go_wp2_with fail
          go_quiet (fail)
          go_wp2_with fail
          exact ⟨⟨6 + 1, by omega, rfl, Lib.hid (noneYet_succ s 6 (by decide) HN.out HPB.out), Lib.hid (bel_drewN HB.out _)⟩, by simp [intOf]⟩
        · have HL := Lib.hid (find_at s.data.toList 6 (by decide) HN.out HPB.out)
          go_wp2_with fail
          go_quiet (fail)
          go_wp2_with fail
          go_ret
          exact ⟨by rw [HL.out]; rfl, ((Bel.refl w).alloc _).trans (bel_drewN HB.out _)⟩
      · have HPB := Lib.hid (prefix_long s [33, 61] hl)
        have l1 : decide ((2 : Int) ≤ (s.size : Int)) = false := by simp; omega
        have l2 : decide (2 ≤ s.size) = false := by simp; omega
        clear hl
        go_wp2_with fail
        go_quiet (fail)
        go_wp2_with fail
        exact ⟨⟨6 + 1, by omega, rfl, Lib.hid (noneYet_succ s 6 (by decide) HN.out HPB.out), Lib.hid (bel_drewN HB.out _)⟩, by simp [intOf]⟩
    · have HB7 := Lib.hid (((Bel.refl w).alloc (Obj.cells #[Value.string ⟨#[62, 62, 62]⟩, Value.string ⟨#[60, 60]⟩, Value.string ⟨#[62, 62]⟩, Value.string ⟨#[60, 61]⟩, Value.string ⟨#[62, 61]⟩, Value.string ⟨#[61, 61]⟩, Value.string ⟨#[33, 61]⟩] 9)).trans HB.out)
      clear HB
      go_wp2_with fail
      go_loopw [6] (fun i wq => ∃ k : Nat, k ≤ 23 ∧ i = .int .i64 k ∧ Hid (NoOne s[0] k) ∧ Hid (Bel w wq)) (fun i _ => 23 - (intOf i).toNat)
      case atStart => exact ⟨0, by omega, rfl, Lib.hid (fun p hp => by cases hp), HB7⟩
      case round =>
        obtain ⟨k, hk, rfl, HO, HB⟩ := hrel
        by_cases hlt : k < 23
        · obtain ⟨b, hb⟩ : ∃ b, ((s[0].toNat : Int) == ((ones[k]'hlt).toNat : Int)) = b := ⟨_, rfl⟩
          have hx : ∀ h, ((s[0].toNat : Int) == (((⟨#[43, 45, 42, 47, 37, 38, 124, 94, 126, 33, 60, 62, 61, 63, 58, 59, 44, 40, 41, 123, 125, 91, 93]⟩ : ByteArray)[k]'h).toNat : Int)) = b := fun h => hb
          cases b
          · have HH := Lib.hid (noOne_succ s[0] k hlt HO.out (fun h => by rw [h] at hb; simp at hb))
            clear hb
            go_wp2_with fail
            go_quiet (fail)
            go_wp2_with fail
            exact ⟨⟨k + 1, by omega, by go_num, HH, Lib.hid (bel_drewN HB.out _)⟩, by simp [intOf]; omega⟩
          · have HH := Lib.hid (sym_one s hp HN.out (one_hit s[0] k hlt (UInt8.toNat.inj (by have := beq_iff_eq.1 hb; omega))))
            clear hb
            go_wp2_with fail
            go_quiet (fail)
            go_wp2_with fail
            go_ret
            exact ⟨by rw [HH.out]; rfl, bel_drewN HB.out _⟩
        · obtain rfl : k = 23 := by omega
          have HH := Lib.hid (sym_zero s hp HN.out (noOne_all s[0] HO.out))
          go_wp2_with fail
          go_ret
          exact ⟨by rw [HH.out]; rfl, HB.out⟩
end Go.Proofs.YtcjolamfjgdgjaaGreatDoor
