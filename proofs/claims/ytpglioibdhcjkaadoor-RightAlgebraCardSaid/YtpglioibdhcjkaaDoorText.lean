/- Text: the names of a set's bits, gathered and joined. -/
import Derived.Test.YtpglioibdhcjkaaDoorParsed
import Derived.OwnWalk
namespace Go.Proofs.YtpglioibdhcjkaaDoor
open Go.RowKit
theorem infoStr : (Tryd.prog.info? 9).map (fun i => (i.zero, i.size, i.bytes)) = some (some (.string ByteArray.empty), 1, 16) := by kernel_rfl

def ns (i : Nat) : ByteArray := ⟨(nm i).toArray⟩
/-- The bits with a name below k that a set has. -/
def Kb (n k : Nat) : List Nat := (List.range k).filter (fun i => !(nm i).isEmpty && n.testBit i)
theorem Kb_hit (n k : Nat) (h : (nm k).isEmpty = false) (h2 : n.testBit k = true) : Kb n (k + 1) = Kb n k ++ [k] := by
  rw [Kb, Kb, List.range_succ, List.filter_append]; simp [h, h2]
theorem Kb_miss (n k : Nat) (h : (nm k).isEmpty = true ∨ n.testBit k = false) : Kb n (k + 1) = Kb n k := by
  rw [Kb, Kb, List.range_succ, List.filter_append]; rcases h with h | h <;> simp [h]
theorem Kb_le (n k : Nat) : (Kb n k).length ≤ k := by
  have := List.length_filter_le (fun i => !(nm i).isEmpty && n.testBit i) (List.range k)
  rw [List.length_range] at this; exact this
theorem Kb_all (n : Nat) : Kb n 16 = named n := by
  unfold Kb named
  rw [show nbits = (List.range 16).filter (fun i => !(nm i).isEmpty) from by decide, List.filter_filter]
  congr 1; funext i; rw [Bool.and_comm]
theorem Kb_lt (n k i : Nat) (h : i ∈ Kb n k) : i < k := by simpa using (List.mem_filter.1 h).1
theorem nm_len : ∀ i, i < 16 → (nm i).length ≤ 8 := by decide
theorem lens_nm : ∀ l : List Nat, (∀ i ∈ l, i < 16) → Lib.lens (l.map nm) ≤ 8 * l.length
  | [], _ => by simp [Lib.lens]
  | i :: r, h => by
    have ih := lens_nm r (fun j hj => h j (by simp [hj]))
    have := nm_len i (h i (by simp))
    simp only [Lib.lens, List.map_cons, List.sum_cons, List.length_cons] at ih ⊢
    omega
theorem join_nm (l : List Nat) (h : ∀ i ∈ l, i < 16) (h2 : l.length ≤ 16) : (Lib.join (l.map nm) [44]).length ≤ 144 := by
  cases l with
  | nil => simp [Lib.join_nil]
  | cons i r =>
    have := lens_nm (i :: r) h
    rw [List.map_cons] at this ⊢
    rw [Lib.join_length]
    simp only [List.length_cons, List.length_map, List.length_nil] at *
    omega
theorem text_size (n : Nat) : (textL n).length ≤ 144 := by
  unfold textL
  split
  · decide
  · rw [← Kb_all]; exact join_nm _ (fun i hi => Kb_lt n 16 i hi) (Kb_le n 16)

set_option maxRecDepth 100000 in
set_option maxHeartbeats 1000000 in
theorem text_any (n : Nat) (w : World) (hn : n < 65536) (h : NamesAt w) : Calls Tryd.prog 12 #[.int .u16 n] w fun e w' =>
    e = .returned (.string ⟨(textL n).toArray⟩) ∧ Below w.heap.size w w' := by
  have H := Lib.hid h
  clear h
  obtain ⟨i0, hi, hz0, hz1, hz2⟩ := info_parts infoStr
  go_enter Tryd.func12, Tryd.ntmps12
  go_wp2_with (refine wpList_load_names rfl _ rfl rfl H.out ?_)
  go_loopw [3, 7] (fun v i wr => ∃ k : Nat, k ≤ 16 ∧ i = .int .i64 k ∧ Hid (wr.ownsRow w.heap.size 9 1 v (Kb n k).length ((Kb n k).map fun i => Value.string (ns i))) ∧ Hid (Below w.heap.size w wr)) (fun _ i _ => 16 - (intOf i).toNat)
  case atStart => exact ⟨0, by omega, rfl, World.ownsRow_nil _ _ _ _, Below.refl _ _⟩
  case round =>
    obtain ⟨k, hk, rfl, Hown, Hb⟩ := hrel
    by_cases hlt : k < 16
    · have hix := fun w => nm_index w k hlt
      have hpw := pow_lt k hlt
      have hle := Kb_le n k
      have hbw : w.heap.size ≤ wr.heap.size := Hb.out.size
      cases he : (nm k).isEmpty
      · have hne : ¬ nm k = [] := by intro e; rw [e] at he; simp at he
        cases htb : n.testBit k
        · have hhas : hasB n (2 ^ k) = false := by rw [hasB_bit, htb]
          have Hk := Lib.hid (Kb_miss n k (.inr htb))
          clear htb
          go_wp2_with (first | (go_at_call 24; refine (bit_any _ _ hlt).mono ?_; rintro e w' ⟨rfl, rfl⟩) | (go_at_call 20; refine (has_any _ _ _ hn hpw).mono ?_; rintro e w' ⟨rfl, rfl⟩))
          go_roundw
          case rel => exact ⟨k + 1, by omega, by go_num, by rw [Hk.out]; exact Hown, Hb⟩
          case measure => simp [intOf]; omega
        · have hhas : hasB n (2 ^ k) = true := by rw [hasB_bit, htb]
          have Hk := Lib.hid (Kb_hit n k he htb)
          clear htb
          go_wp2_with (first | (go_at_call 24; refine (bit_any _ _ hlt).mono ?_; rintro e w' ⟨rfl, rfl⟩) | (go_at_call 20; refine (has_any _ _ _ hn hpw).mono ?_; rintro e w' ⟨rfl, rfl⟩) | (at_builtin; refine wpList_append_own _ rfl _ _ 57 rfl w.heap.size 9 i0 (.string ByteArray.empty) 1 16 Tryd.underlying57 hi hz0 hz1 hz2 rfl (by decide) _ _ _ rfl (Hown.out.alloc _) ⟨wr.heap.size, 0, none⟩ 1 1 [Value.string (ns k)] rfl rfl (by intro j u hj; match j, hj with | 0, hj => (simp at hj; subst hj; simp [Addr.add, ns])) (by intro u hu; simp at hu; subst hu; rfl) (by unfold maxLen; omega) (by omega) (by simp; omega) ?_; intro v' w1 hown' hgrow _))
          have Hown' := Lib.hid hown'
          have Hb' := Lib.hid (show Below w.heap.size w w1 from (Hb.out.alloc hbw _).grown hgrow (by simp; omega) (fun k hk => (Hown.out.lt k hk).1))
          clear hown' hgrow
          go_wp2
          go_roundw
          case rel => exact ⟨k + 1, by omega, by go_num, by rw [Hk.out, List.map_append, List.length_append]; exact Hown', Hb'⟩
          case measure => simp [intOf]; omega
      · have hne : nm k = [] := by simpa using he
        have Hk := Lib.hid (Kb_miss n k (.inl he))
        go_wp2_with fail
        go_roundw
        case rel => exact ⟨k + 1, by omega, by go_num, by rw [Hk.out]; exact Hown, Hb⟩
        case measure => simp [intOf]; omega
    · obtain rfl : k = 16 := by omega
      have hown := Hown.out
      rw [Kb_all] at hown
      obtain ⟨L, hL⟩ : ∃ L, L = named n := ⟨_, rfl⟩
      rw [← hL] at hown
      have HL := Lib.hid hL
      clear hL Hown
      have hl16 : L.length ≤ 16 := by rw [HL.out, ← Kb_all]; exact Kb_le n 16
      rcases hown.2 with ⟨rfl, hz⟩ | ⟨g, cap, cur, rfl, hbase, hg, hcap, hmax, hsz, htake⟩
      · have hnil : L = [] := List.eq_nil_of_length_eq_zero hz
        have Hend := Lib.hid (show Ending.returned (.string ⟨#[45]⟩) = .returned (.string ⟨(textL n).toArray⟩) by rw [textL, ← HL.out, if_pos hnil])
        clear hown hz hnil hl16
        go_wp2_with fail
        go_ret
        exact ⟨Hend.out, Hb.out⟩
      · by_cases hnil : L = []
        · have Hend := Lib.hid (show Ending.returned (.string ⟨#[45]⟩) = .returned (.string ⟨(textL n).toArray⟩) by rw [textL, ← HL.out, if_pos hnil])
          have hz : L.length = 0 := by rw [hnil]; rfl
          clear hown hnil hl16 hg hcap hmax hsz htake
          go_wp2_with fail
          go_ret
          exact ⟨Hend.out, Hb.out⟩
        · have hz : ¬ L.length = 0 := fun e => hnil (List.eq_nil_of_length_eq_zero e)
          have Hend := Lib.hid (show Ending.returned (.string ⟨(Lib.join (L.map ((fun x : ByteArray => x.data.toList) ∘ ns)) [44]).toArray⟩) = .returned (.string ⟨(textL n).toArray⟩) by
            rw [textL, ← HL.out, if_neg hnil]; rfl)
          have hj := Tryd.strings_Join g 0 cap (L.map ns) ⟨#[44]⟩ wr (fun j x hx => by
              have hx2 : (L.map fun i => Value.string (ns i))[j]? = some (.string x) := by
                rw [List.getElem?_map] at hx ⊢
                cases e : L[j]? with
                | none => simp [e] at hx
                | some y => simp [e] at hx ⊢; exact hx
              rw [← htake, Nat.mul_one] at hx2
              have hjl : j < L.length := by
                rcases Nat.lt_or_ge j L.length with h | h
                · exact h
                · rw [List.getElem?_take_eq_none h] at hx2; cases hx2
              rw [List.getElem?_take_of_lt hjl] at hx2
              simp only [World.cell?, hg, Nat.zero_add, Option.isSome_none, Bool.false_eq_true, if_false]
              rw [← Array.getElem?_toList]; exact hx2) (Array.getElem?_eq_some_iff.1 hg).1 (by rw [List.length_map]; omega) (by rw [List.length_map]; omega) (by
                have := join_nm L (fun i hi => by rw [HL.out, ← Kb_all] at hi; exact Kb_lt n 16 i hi) hl16
                rw [List.map_map, show ((fun x : ByteArray => x.data.toList) ∘ ns) = nm from rfl]
                exact Nat.le_trans this (by decide))
          rw [List.length_map] at hj
          have Hj := Lib.hid hj
          clear hj hown hnil hg hcap hmax hsz htake
          go_wp2_with (go_at_call 25; refine Hj.out.mono ?_; rintro e w2 ⟨rfl, hb2⟩)
          go_ret
          exact ⟨Hend.out, Hb.out.trans (hb2.mono Hb.out.size)⟩
end Go.Proofs.YtpglioibdhcjkaaDoor
