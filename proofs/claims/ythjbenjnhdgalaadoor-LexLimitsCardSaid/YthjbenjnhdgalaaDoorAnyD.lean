/- Whether a text of at most forty bytes has one of six capital letters. -/
import Derived.Test.YthjbenjnhdgalaaDoorAnyC
import Derived.Test.YthjbenjnhdgalaaDoorTxtB
import Derived.Laws.RangeAny
namespace Go.Proofs.YthjbenjnhdgalaaDoor
open Go.RowKit
theorem decode_max (s : ByteArray) (pos : Nat) : (Utf8.decode s pos).1 ≤ 1114111 := by
  have hb : (s.get! pos).toNat < 256 := UInt8.toNat_lt _
  rw [Lib.decode_at]
  generalize (s.get! pos).toNat = b0 at hb
  unfold Lib.decodeN
  repeat' split
  all_goals (simp only; omega)
def Upr (c : UInt8) : Prop := 65 ≤ c.toNat ∧ c.toNat ≤ 70
def Bad (c : UInt8) : Prop := ¬ (48 ≤ c.toNat ∧ c.toNat ≤ 57) ∧ ¬ (97 ≤ c.toNat ∧ c.toNat ≤ 102)
def AnyPost (s : ByteArray) (w : World) (e : Ending) (w' : World) : Prop := (∃ v : Int, e = .returned (.int .i64 v) ∧ (0 ≤ v → ∃ c ∈ s.data.toList, Bad c) ∧ (v < 0 → ∀ c ∈ s.data.toList, ¬ Upr c)) ∧ Below w.heap.size w w'
def NoU (s : ByteArray) (i : Nat) : Prop := ∀ j (h : j < s.size), j < i → ¬ Upr (s[j]'h)
theorem ch_index (c : UInt8) : (Upr c → 0 ≤ Lib.indexByte CH.data.toList c) ∧ (¬ Upr c → ¬ 0 ≤ Lib.indexByte CH.data.toList c) := by
  constructor
  · rintro ⟨h1, h2⟩
    have : c.toNat = 65 ∨ c.toNat = 66 ∨ c.toNat = 67 ∨ c.toNat = 68 ∨ c.toNat = 69 ∨ c.toNat = 70 := by omega
    rcases this with h | h | h | h | h | h
    · obtain rfl : c = 65 := UInt8.toNat_inj.1 h
      decide
    · obtain rfl : c = 66 := UInt8.toNat_inj.1 h
      decide
    · obtain rfl : c = 67 := UInt8.toNat_inj.1 h
      decide
    · obtain rfl : c = 68 := UInt8.toNat_inj.1 h
      decide
    · obtain rfl : c = 69 := UInt8.toNat_inj.1 h
      decide
    · obtain rfl : c = 70 := UInt8.toNat_inj.1 h
      decide
  · intro h
    rw [indexByte_none c CH.data.toList (fun b hb e => h (by
      subst e
      have : ∀ b ∈ CH.data.toList, 65 ≤ b.toNat ∧ b.toNat ≤ 70 := by decide
      exact this b hb))]
    decide
theorem mem_at (s : ByteArray) (j : Nat) (h : j < s.size) : (s[j]'h) ∈ s.data.toList := List.getElem_mem (l := s.data.toList) (by rw [← Lib.size_eq]; exact h)
theorem noU_all {s : ByteArray} (h : NoU s s.size) : ∀ c ∈ s.data.toList, ¬ Upr c := by
  intro c hc
  obtain ⟨j, hj, rfl⟩ := List.getElem_of_mem hc
  exact h j (by rw [Lib.size_eq]; exact hj) (by rw [Lib.size_eq]; exact hj)
theorem upr_bad {c : UInt8} (h : Upr c) : Bad c := by obtain ⟨h1, h2⟩ := h; exact ⟨by omega, by omega⟩
theorem hi_bad {c : UInt8} (h : 128 ≤ c.toNat) : Bad c := ⟨by omega, by omega⟩
theorem noU_step {s : ByteArray} {i : Nat} (h : NoU s i) (hi : i < s.size) (hu : ¬ Upr (s[i]'hi)) : NoU s (i + 1) := fun j hj hlt => by
  rcases (by omega : j < i ∨ j = i) with h' | rfl
  · exact h j hj h'
  · exact hu
theorem noU_skip {s : ByteArray} {i n : Nat} (h : NoU s i) (hs : ∀ j, i ≤ j → j < i + n → ∃ hj : j < s.size, 128 ≤ (s[j]'hj).toNat) : NoU s (i + n) := fun j hj hlt => by
  rcases (by omega : j < i ∨ (i ≤ j ∧ j < i + n)) with h' | ⟨h1, h2⟩
  · exact h j hj h'
  · obtain ⟨hj', h3⟩ := hs j h1 h2
    intro hu
    have := hu.2
    omega
theorem ch_ne : CH.toList.isEmpty = false := by rw [Lib.toList_data]; rfl
set_option maxHeartbeats 4000000 in
set_option maxRecDepth 1000000 in
theorem anyShort (s : ByteArray) (w : World) (h8 : s.size ≤ 8) : Calls Tryd.prog 21 #[.string s, .string CH] w (AnyPost s w) := by
  have hemp := ch_ne
  have hn1 : ((CH.size : Int) == 1) = false := by decide
  have h8z : decide ((8 : Int) < (s.size : Int)) = false := decide_eq_false (by omega)
  go_enter Tryd.func21, Tryd.ntmps21
  go_wp2_with (go_at_call 30; refine (Tryd.strings_shouldUseASCIISet _ _).mono ?_; rintro e w' ⟨rfl, hw⟩; rw [hw, h8z])
  go_loopg [9, 10] s.size (fun g _ _ wx => ∃ i : Nat, i + g = s.size ∧ wx.heap[w.heap.size]? = some (.stringIter s i) ∧ Hid (Below w.heap.size w wx) ∧ Hid (NoU s i))
  case atStart => exact ⟨0, by omega, World.iter_heap w s 0, (Below.refl _ _).alloc (Nat.le_refl _) _, fun j _ h => absurd h (by omega)⟩
  case round =>
    obtain ⟨i, hig, hit, HB, HN⟩ := hrel
    by_cases hi : i < s.size
    · by_cases ha : (s[i]'hi).toNat < 128
      · have hnx := fun ty => Lib.run_next_any_at (P := Tryd.prog) wr w.heap.size s i ty hit hi
        rw [decode_ascii s i hi ha] at hnx
        have HI2 := Lib.hid (Lib.iterAt_heap wr w.heap.size s i (i + 1) hit)
        have HB2 := Lib.hid (Lib.below_iterAt HB.out (k := w.heap.size) (Nat.le_refl _) s (i + 1))
        obtain ⟨x, hx⟩ : ∃ x : UInt8, s[i]'hi = x := ⟨_, rfl⟩
        have HM := Lib.hid (mem_at s i hi)
        have HS := Lib.hid (fun h => noU_step HN.out hi h)
        rw [hx] at hnx ha HM HS
        have hback : ((x.toNat : Int)).toNat.toUInt8 = x := by simp
        have hci := ch_index x
        clear hx hit HB HN
        by_cases hu : Upr x
        · have hge := hci.1 hu
          have HU := Lib.hid hu
          clear hci hu
          go_wp2_with (go_at_call 29; refine (Tryd.strings_IndexRune_ascii _ _ _ (by omega) (by omega)).mono ?_; rintro e w' ⟨rfl, hw⟩; rw [hw, hback])
          go_ret
          exact ⟨⟨_, rfl, fun _ => ⟨x, HM.out, upr_bad HU.out⟩, fun h => absurd h (by omega)⟩, HB2.out⟩
        · have hge := hci.2 hu
          have HU := Lib.hid (HS.out hu)
          clear hci hu
          go_wp2_with (go_at_call 29; refine (Tryd.strings_IndexRune_ascii _ _ _ (by omega) (by omega)).mono ?_; rintro e w' ⟨rfl, hw⟩; rw [hw, hback])
          go_roundg (s.size - (i + 1))
          case measure => omega
          case rel => exact ⟨i + 1, by omega, HI2.out, HB2.out, HU.out⟩
      · have hnx := fun ty => Lib.run_next_any_at (P := Tryd.prog) wr w.heap.size s i ty hit hi
        have hd1 := decode_high s i hi (by omega)
        have hd2 := decode_max s i
        have hsk := decode_skip s i hi (by omega)
        obtain ⟨r, n, hd⟩ : ∃ r n, Utf8.decode s i = (r, n) := ⟨_, _, rfl⟩
        rw [hd] at hnx hd1 hd2 hsk
        simp only at hnx hd1 hd2 hsk
        obtain ⟨hr, hn⟩ := hd1
        obtain ⟨hle, _⟩ := hsk (i + n - 1) (by omega) (by omega)
        have HI2 := Lib.hid (Lib.iterAt_heap wr w.heap.size s i (i + n) hit)
        have HB2 := Lib.hid (Lib.below_iterAt HB.out (k := w.heap.size) (Nat.le_refl _) s (i + n))
        have HM := Lib.hid (show ∃ c ∈ s.data.toList, Bad c from ⟨_, mem_at s i hi, hi_bad (by omega)⟩)
        have HU := Lib.hid (noU_skip HN.out hsk)
        have HZ := Lib.hid (show w.heap.size < (wr.iterAt w.heap.size s (i + n)).heap.size from (Array.getElem?_eq_some_iff.1 HI2.out).1)
        clear hsk hit HB HN ha hd
        go_wp2_with fail
        refine (rune_hi r _ hr hd2).mono ?_
        rintro e w2 ⟨⟨v, rfl⟩, hb2⟩
        have HI3 := Lib.hid ((hb2.block _ HZ.out).trans HI2.out)
        have HB3 := Lib.hid (HB2.out.trans (hb2.mono HB2.out.size))
        clear hb2
        by_cases hv : 0 ≤ v
        · go_wp2_with fail
          go_ret
          exact ⟨⟨_, rfl, fun _ => HM.out, fun h => absurd h (by omega)⟩, HB3.out⟩
        · go_wp2_with fail
          go_roundg (s.size - (i + n))
          case measure => omega
          case rel => exact ⟨i + n, by omega, HI3.out, HB3.out, HU.out⟩
    · obtain rfl : i = s.size := by omega
      have hnx := fun ty => Lib.run_next_end_at (P := Tryd.prog) wr w.heap.size s s.size ty hit (by omega)
      go_wp2
      go_ret
      exact ⟨⟨-1, rfl, fun h => absurd h (by omega), fun _ => noU_all HN.out⟩, HB.out⟩
theorem indexAny_spec (l : Bs) : (0 ≤ Lib.indexAny l CH.data.toList → ∃ c ∈ l, Upr c) ∧ (Lib.indexAny l CH.data.toList < 0 → ∀ c ∈ l, ¬ Upr c) := by
  induction l with
  | nil => exact ⟨fun h => by simp [Lib.indexAny] at h, fun _ c hc => by simp at hc⟩
  | cons b l ih =>
    have hb : CH.data.toList.contains b = true ↔ Upr b := by
      constructor
      · intro h
        have : ∀ b ∈ CH.data.toList, 65 ≤ b.toNat ∧ b.toNat ≤ 70 := by decide
        exact this b (by simpa using h)
      · rintro ⟨h1, h2⟩
        have : b.toNat = 65 ∨ b.toNat = 66 ∨ b.toNat = 67 ∨ b.toNat = 68 ∨ b.toNat = 69 ∨ b.toNat = 70 := by omega
        rcases this with h | h | h | h | h | h
        · obtain rfl : b = 65 := UInt8.toNat_inj.1 h
          decide
        · obtain rfl : b = 66 := UInt8.toNat_inj.1 h
          decide
        · obtain rfl : b = 67 := UInt8.toNat_inj.1 h
          decide
        · obtain rfl : b = 68 := UInt8.toNat_inj.1 h
          decide
        · obtain rfl : b = 69 := UInt8.toNat_inj.1 h
          decide
        · obtain rfl : b = 70 := UInt8.toNat_inj.1 h
          decide
    have hge := Lib.indexAny_ge CH.data.toList l
    by_cases hc : CH.data.toList.contains b = true
    · simp only [Lib.indexAny, hc, if_true]
      exact ⟨fun _ => ⟨b, by simp, hb.1 hc⟩, fun h => absurd h (by omega)⟩
    · simp only [Lib.indexAny, hc]
      simp only [Bool.false_eq_true, if_false]
      by_cases hm : Lib.indexAny l CH.data.toList = -1
      · rw [hm]
        have := ih.2 (by omega)
        refine ⟨fun h => by simp at h, fun _ c hcm => ?_⟩
        rcases List.mem_cons.1 hcm with rfl | hcm
        · exact fun hu => hc (hb.2 hu)
        · exact this c hcm
      · have h1 : (Lib.indexAny l CH.data.toList == -1) = false := by rw [beq_eq_false_iff_ne]; exact hm
        rw [h1]
        simp only [Bool.false_eq_true, if_false]
        refine ⟨fun _ => ?_, fun h => absurd h (by omega)⟩
        obtain ⟨c, hcm, hu⟩ := ih.1 (by omega)
        exact ⟨c, by simp [hcm], hu⟩
theorem set_zero : ∀ w, (zeroValue 70).run Tryd.prog w = .ok (.agg (Array.replicate 256 (.bool false))) w := fun _ => by kernel_rfl
theorem any_all (s : ByteArray) (w : World) (h : s.size < 4294967281) : Calls Tryd.prog 21 #[.string s, .string CH] w (AnyPost s w) := by
  by_cases h8 : s.size ≤ 8
  · exact anyShort s w h8
  · refine (Tryd.strings_IndexAny_long set_zero s CH w (by decide) (by omega) h (by decide) (fun j b hj => ch_low b (List.mem_of_getElem? hj))).mono ?_
    rintro e w' ⟨rfl, rfl⟩
    have := indexAny_spec s.data.toList
    exact ⟨⟨_, rfl, fun h => (by obtain ⟨c, h1, h2⟩ := this.1 h; exact ⟨c, h1, upr_bad h2⟩), this.2⟩, ((Below.refl _ _).alloc (Nat.le_refl _) _).alloc (by simp) _⟩
def CAnyPost (s : ByteArray) (w : World) (e : Ending) (w' : World) : Prop := (∃ v : Bool, e = .returned (.bool v) ∧ (v = true → ∃ c ∈ s.data.toList, Bad c) ∧ (v = false → ∀ c ∈ s.data.toList, ¬ Upr c)) ∧ Below w.heap.size w w'
theorem canyC (s : ByteArray) (w : World) (h : s.size < 4294967281) : Calls Tryd.prog 16 #[.string s, .string ⟨#[65, 66, 67, 68, 69, 70]⟩] w (CAnyPost s w) := by
  have hc : Calls Tryd.prog 21 #[.string s, .string ⟨#[65, 66, 67, 68, 69, 70]⟩] w (AnyPost s w) := any_all s w h
  clear h
  go_enter Tryd.func16, Tryd.ntmps16
  go_wp2_with fail
  refine hc.mono ?_
  rintro e w2 ⟨⟨v, rfl, h1, h2⟩, hb⟩
  have H1 := Lib.hid h1
  have H2 := Lib.hid h2
  have HB := Lib.hid hb
  clear h1 h2 hb
  by_cases hv : 0 ≤ v
  · go_wp2_with fail
    go_ret
    exact ⟨⟨_, rfl, fun _ => H1.out hv, fun e => by simp at e⟩, HB.out⟩
  · go_wp2_with fail
    go_ret
    exact ⟨⟨_, rfl, fun e => by simp at e; omega, fun _ => H2.out (by omega)⟩, HB.out⟩
end Go.Proofs.YthjbenjnhdgalaaDoor
