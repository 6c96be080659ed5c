/- The document's own: its list of rights, a set as a text. -/
import Derived.Test.YtpglioibdhcjkaaDoorEach
import Derived.Laws.Concat
namespace Go.Proofs.YtpglioibdhcjkaaDoor
open Go.RowKit

def bt (k : Nat) : Nat := nbits.getD k 0
def refCells (i : Nat) : List Value := [.int .i64 (i : Nat), .string (ns i)]
def refTable : Array Value := (nbits.flatMap refCells).toArray
theorem bt_mem : ∀ k, k < 13 → bt k ∈ nbits := by decide
theorem bt_lt (k : Nat) (h : k < 13) : bt k < 16 := nbits_lt _ (bt_mem k h)
theorem ref_at0 (k : Nat) (h : k < 13) : refTable[k * 2]? = some (.int .i64 (bt k : Nat)) := by
  rcases (by omega : k = 0 ∨ k = 1 ∨ k = 2 ∨ k = 3 ∨ k = 4 ∨ k = 5 ∨ k = 6 ∨ k = 7 ∨ k = 8 ∨ k = 9 ∨ k = 10 ∨ k = 11 ∨ k = 12) with rfl | rfl | rfl | rfl | rfl | rfl | rfl | rfl | rfl | rfl | rfl | rfl | rfl <;> kernel_rfl
theorem ref_at1 (k : Nat) (h : k < 13) : refTable[k * 2 + 1]? = some (.string (ns (bt k))) := by
  rcases (by omega : k = 0 ∨ k = 1 ∨ k = 2 ∨ k = 3 ∨ k = 4 ∨ k = 5 ∨ k = 6 ∨ k = 7 ∨ k = 8 ∨ k = 9 ∨ k = 10 ∨ k = 11 ∨ k = 12) with rfl | rfl | rfl | rfl | rfl | rfl | rfl | rfl | rfl | rfl | rfl | rfl | rfl <;> kernel_rfl
set_option maxRecDepth 100000 in
theorem ref_rights (w : World) : Calls Tryd.prog 15 #[] w fun e w' =>
    e = .returned (.slice (some ⟨w.heap.size, 0, none⟩) 13 13) ∧ w' = w.alloc (.cells refTable 40) := by
  go_enter Tryd.func15, Tryd.ntmps15
  go_wp2
  go_ret
  exact ⟨by kernel_rfl, by kernel_rfl⟩

/-- The first k of the bits with a name that a set has. -/
def Rb (n k : Nat) : List Nat := (nbits.take k).filter n.testBit
theorem take_bt : ∀ k, k < 13 → nbits.take (k + 1) = nbits.take k ++ [bt k] := by decide
theorem Rb_hit (n k : Nat) (h : k < 13) (h2 : n.testBit (bt k) = true) : Rb n (k + 1) = Rb n k ++ [bt k] := by
  rw [Rb, Rb, take_bt k h, List.filter_append]; simp [h2]
theorem Rb_miss (n k : Nat) (h : k < 13) (h2 : n.testBit (bt k) = false) : Rb n (k + 1) = Rb n k := by
  rw [Rb, Rb, take_bt k h, List.filter_append]; simp [h2]
theorem Rb_all (n : Nat) : Rb n 13 = named n := rfl
theorem Rb_sub (n k i : Nat) (h : i ∈ Rb n k) : i ∈ nbits := List.mem_of_mem_take (List.mem_filter.1 h).1
theorem Rb_le (n k : Nat) : (Rb n k).length ≤ 13 := by
  have h1 := List.length_filter_le n.testBit (nbits.take k)
  have h2 := List.length_take_le k nbits
  have h3 : (nbits.take k).length ≤ nbits.length := List.length_take_le' k nbits
  exact Nat.le_trans h1 h3
def txt (l : List Nat) : List UInt8 := Lib.join (l.map nm) [44]
theorem txt_snoc (l : List Nat) (x : Nat) (h : l ≠ []) : txt (l ++ [x]) = txt l ++ [44] ++ nm x := by
  obtain ⟨i, r, rfl⟩ := List.exists_cons_of_ne_nil h
  simp only [txt, List.cons_append, List.map_cons, List.map_append, Lib.join_cons, List.map_nil]
  simp [Lib.joinTail]
theorem txt_one (x : Nat) : txt [x] = nm x := by simp [txt, Lib.join_one]
theorem txt_nil : txt [] = [] := rfl
theorem txt_ne (l : List Nat) (h : l ≠ []) (h2 : ∀ i ∈ l, i ∈ nbits) : txt l ≠ [] := by
  obtain ⟨i, r, rfl⟩ := List.exists_cons_of_ne_nil h
  have hi := h2 i (by simp)
  have := (nbits_mem i (nbits_lt i hi)).1 hi
  rw [txt, List.map_cons, Lib.join_cons]
  intro e
  exact this (List.append_eq_nil_iff.1 e).1
theorem txt_size (n k : Nat) : (txt (Rb n k)).length ≤ 144 := join_nm _ (fun i hi => nbits_lt i (Rb_sub n k i hi)) (by have := Rb_le n k; omega)
theorem isEmpty_of_ne {s : ByteArray} (h : s.data.toList ≠ []) : s.toList.isEmpty = false ∧ ¬ s.toList = [] := by
  rw [toList_data]
  exact ⟨by cases e : s.data.toList with
    | nil => exact absurd e h
    | cons a b => rfl, h⟩

set_option maxRecDepth 100000 in
set_option maxHeartbeats 1000000 in
theorem refText_any (n : Nat) (w : World) (hn : n < 65536) : Calls Tryd.prog 13 #[.int .i64 n] w fun e w' =>
    e = .returned (.string ⟨(textL n).toArray⟩) ∧ Below w.heap.size w w' := by
  go_enter Tryd.func13, Tryd.ntmps13
  go_wp2_with (go_at_call 15; refine (ref_rights _).mono ?_; rintro e w1 ⟨rfl, rfl⟩)
  go_loop [4, 5] (fun sv i => ∃ (k : Nat) (t : ByteArray), k ≤ 13 ∧ i = .int .i64 k ∧ sv = .string t ∧ Hid (t.data.toList = txt (Rb n k))) (fun _ i => 13 - (intOf i).toNat)
  case atStart => exact ⟨0, ByteArray.empty, by omega, rfl, rfl, rfl⟩
  case round =>
    obtain ⟨k, t, hk, rfl, rfl, Ht⟩ := hrel
    have hts : t.size ≤ 144 := by rw [Lib.size_eq, Ht.out]; exact txt_size n k
    by_cases hlt : k < 13
    · have s0 := ref_at0 k hlt
      have s1 := ref_at1 k hlt
      have hb := bt_lt k hlt
      have hb2 : bt k ≤ 15 := by omega
      have Hm := Lib.hid (bt_mem k hlt)
      obtain ⟨b, hbe⟩ : ∃ b, b = bt k := ⟨_, rfl⟩
      have hns : (ns b).size ≤ 8 := by rw [hbe, Lib.size_eq]; exact nm_len _ hb
      have hh : n.testBit (bt k) = true → Rb n (k + 1) = Rb n k ++ [bt k] := Rb_hit n k hlt
      have hm : n.testBit (bt k) = false → Rb n (k + 1) = Rb n k := Rb_miss n k hlt
      rw [← hbe] at s0 s1 hb hb2 hh hm
      have HB := Lib.hid hbe
      clear hbe
      cases htb : n.testBit b
      · have Hk := Lib.hid (hm htb)
        clear hm hh
        go_wp2_with (go_at_call 16; refine (refHas_any _ _ _ hn hb2).mono ?_; rintro e w1 ⟨rfl, rfl⟩)
        go_round
        case rel => exact ⟨k + 1, t, by omega, by go_num, rfl, by rw [Hk.out]; exact Ht⟩
        case measure => simp [intOf]; omega
      · have Hk := Lib.hid (hh htb)
        clear hm hh
        by_cases hnil : Rb n k = []
        · obtain rfl : t = ByteArray.empty := ByteArray.size_eq_zero_iff.1 (by rw [Lib.size_eq, Ht.out, hnil]; rfl)
          have Hs := Lib.hid (show (ns b).data.toList = txt (Rb n (k + 1)) by rw [Hk.out, hnil]; exact (txt_one b).symm)
          clear hnil
          go_wp2_with (go_at_call 16; refine (refHas_any _ _ _ hn hb2).mono ?_; rintro e w1 ⟨rfl, rfl⟩)
          go_round
          case rel => exact ⟨k + 1, ns b, by omega, by go_num, rfl, Hs.out⟩
          case measure => simp [intOf]; omega
        · obtain ⟨hE, hE2⟩ := isEmpty_of_ne (s := t) (by rw [Ht.out]; exact txt_ne _ hnil (fun i hi => Rb_sub n k i hi))
          have Hs := Lib.hid (show txt (Rb n (k + 1)) = t.data.toList ++ [44] ++ nm b by rw [Hk.out, txt_snoc _ _ hnil, Ht.out])
          clear hnil
          go_wp2_with (go_at_call 16; refine (refHas_any _ _ _ hn hb2).mono ?_; rintro e w1 ⟨rfl, rfl⟩)
          go_round
          case rel => exact ⟨k + 1, t ++ ⟨#[44]⟩ ++ ns b, by omega, by go_num, rfl, by show (t ++ ⟨#[44]⟩ ++ ns b).data.toList = _; rw [Hs.out]; simp [ns]⟩
          case measure => simp [intOf]; omega
    · obtain rfl : k = 13 := by omega
      by_cases hnil : named n = []
      · obtain rfl : t = ByteArray.empty := ByteArray.size_eq_zero_iff.1 (by rw [Lib.size_eq, Ht.out, Rb_all, hnil]; rfl)
        have Hend := Lib.hid (show textL n = [45] by rw [textL, if_pos hnil])
        clear hnil
        go_wp2
        go_ret
        rw [Hend.out]
        exact ⟨rfl, (Below.refl _ _).alloc (Nat.le_refl _) _⟩
      · obtain ⟨hE, hE2⟩ := isEmpty_of_ne (s := t) (by rw [Ht.out]; exact txt_ne _ hnil (fun i hi => Rb_sub n 13 i hi))
        have Hend := Lib.hid (show textL n = t.data.toList by rw [Ht.out, textL, if_neg hnil]; rfl)
        clear hnil
        go_wp2
        go_ret
        rw [Hend.out]
        exact ⟨by simp, (Below.refl _ _).alloc (Nat.le_refl _) _⟩
end Go.Proofs.YtpglioibdhcjkaaDoor
