/- May a text be a path: the document's way, byte by byte. -/
import Derived.Test.YtonpakndocgndaaGreatDoorPathW
import Derived.Laws.BytesArg
namespace Go.Proofs.YtonpakndocgndaaGreatDoor
open Go.RowKit
set_option maxRecDepth 100000 in
theorem pone_byte (w : World) (c : UInt8) : (convert 32 9 (.slice (some ⟨w.heap.size, 0, none⟩) 1 1)).run Tryz.prog (w.alloc (.cells #[.int .u8 (c.toNat : Int)] 5)) = .ok (.string ⟨#[c]⟩) (w.alloc (.cells #[.int .u8 (c.toNat : Int)] 5)) := by
  have h := run_convert_bytes_arg (P := Tryz.prog) (w := w.alloc (.cells #[.int .u8 (c.toNat : Int)] 5)) 32 5 Tryz.underlying32 Tryz.underlying5 w.heap.size 0 1 1 [(c.toNat : Int)] rfl
    (fun i hi => by obtain rfl : i = 0 := by omega
                    simp) 9 Tryz.underlying9
  rw [h]
  congr 2
  simp [strOfNums]
def PA (s : Bs) (i : Nat) (cur : Bs) : Prop := (i ≤ s.length ∧ pathB s = goP cur (s.drop i)) ∨ (i = s.length + 1 ∧ pathB s = true)
theorem drop_at {s : Bs} {i : Nat} {c : UInt8} (h : s[i]? = some c) : s.drop i = c :: s.drop (i + 1) := by
  obtain ⟨h1, h2⟩ := List.getElem?_eq_some_iff.1 h
  rw [List.drop_eq_getElem_cons h1, h2]
theorem PA.go {s : Bs} {i : Nat} {cur : Bs} (h : PA s i cur) (hi : i ≤ s.length) : pathB s = goP cur (s.drop i) := by
  rcases h with ⟨_, h⟩ | ⟨h, _⟩
  · exact h
  · omega
theorem PA.done {s : Bs} {i : Nat} {cur : Bs} (h : PA s i cur) (hi : s.length < i) : pathB s = true := by
  rcases h with ⟨h, _⟩ | ⟨_, h⟩
  · omega
  · exact h
theorem PA.byte {s : Bs} {i : Nat} {cur : Bs} {c : UInt8} (h : PA s i cur) (hc : s[i]? = some c) (h47 : c ≠ 47) (hp : prn c.toNat = true) : PA s (i + 1) (cur ++ [c]) := by
  have hl := (List.getElem?_eq_some_iff.1 hc).1
  refine .inl ⟨hl, ?_⟩
  rw [h.go (Nat.le_of_lt hl), drop_at hc, goP, if_neg h47, hp, Bool.true_and]
theorem PA.bad {s : Bs} {i : Nat} {cur : Bs} {c : UInt8} (h : PA s i cur) (hc : s[i]? = some c) (h47 : c ≠ 47) (hp : prn c.toNat = false) : pathB s = false := by
  have hl := (List.getElem?_eq_some_iff.1 hc).1
  rw [h.go (Nat.le_of_lt hl), drop_at hc, goP, if_neg h47, hp, Bool.false_and]
theorem PA.end_ {s : Bs} {i : Nat} {cur : Bs} (h : PA s i cur) (hi : i ≤ s.length) (hs : i = s.length ∨ s[i]? = some 47) (he : endB cur = false) : PA s (i + 1) [] := by
  have hg := h.go hi
  rcases hs with e | e
  · refine .inr ⟨by omega, ?_⟩
    rw [hg, e, List.drop_length, goP, he]; rfl
  · refine .inl ⟨(List.getElem?_eq_some_iff.1 e).1, ?_⟩
    rw [hg, drop_at e, goP, if_pos rfl, he]; rfl
theorem PA.ill {s : Bs} {i : Nat} {cur : Bs} (h : PA s i cur) (hi : i ≤ s.length) (hs : i = s.length ∨ s[i]? = some 47) (he : endB cur = true) : pathB s = false := by
  have hg := h.go hi
  rcases hs with e | e
  · rw [hg, e, List.drop_length, goP, he]; rfl
  · rw [hg, drop_at e, goP, if_pos rfl, he]; rfl
theorem prn_no {c : Nat} (h : prn c = false) : c < 33 ∨ (33 ≤ c ∧ 126 < c) ∨ (33 ≤ c ∧ c ≤ 126 ∧ c = 35) := by
  by_cases h1 : c < 33
  · exact .inl h1
  · by_cases h2 : 126 < c
    · exact .inr (.inl ⟨by omega, h2⟩)
    · refine .inr (.inr ⟨by omega, by omega, ?_⟩)
      simp [prn] at h
      exact h (by omega) (by omega)
theorem prn_yes {c : Nat} (h : prn c = true) : 33 ≤ c ∧ c ≤ 126 ∧ c ≠ 35 := by
  simp [prn] at h
  exact ⟨h.1, h.2.1, h.2.2⟩
theorem cur_ways (cur : Bs) : cur = [] ∨ cur = [46] ∨ cur = [46, 46] ∨ (cur ≠ [] ∧ cur ≠ [46] ∧ cur ≠ [46, 46] ∧ 14 < cur.length) ∨ (cur ≠ [] ∧ cur ≠ [46] ∧ cur ≠ [46, 46] ∧ ¬ 14 < cur.length) := by
  by_cases h0 : cur = []
  · exact .inl h0
  by_cases h1 : cur = [46]
  · exact .inr (.inl h1)
  by_cases h2 : cur = [46, 46]
  · exact .inr (.inr (.inl h2))
  by_cases h3 : 14 < cur.length
  · exact .inr (.inr (.inr (.inl ⟨h0, h1, h2, h3⟩)))
  · exact .inr (.inr (.inr (.inr ⟨h0, h1, h2, h3⟩)))
theorem str_index (s : ByteArray) (k : Nat) (h : k < s.size) (W : World) : (Instr.index 9 (.string s) (.int .i64 (k : Int))).run Tryz.prog W = .ok (.int .u8 ((s[k]'h).toNat : Int)) W := by
  simp [go_sem, h]
theorem str_at (s : Bs) (k : Nat) (c : UInt8) (h : s[k]? = some c) (W : World) : (Instr.index 9 (.string ⟨s.toArray⟩) (.int .i64 (k : Int))).run Tryz.prog W = .ok (.int .u8 (c.toNat : Int)) W := by
  obtain ⟨h1, h2⟩ := List.getElem?_eq_some_iff.1 h
  have hsz : k < (⟨s.toArray⟩ : ByteArray).size := by rw [Lib.size_eq]; exact h1
  rw [str_index _ k hsz W]
  have e : (⟨s.toArray⟩ : ByteArray)[k]'hsz = c := by rw [← h2]; rfl
  rw [e]
set_option maxHeartbeats 4000000 in
set_option maxRecDepth 100000 in
theorem refPath_any (s : Bs) (w : World) (hs : s.length ≤ maxLen) : Calls Tryz.prog 30 #[.string ⟨s.toArray⟩] w (BoolPost (pathB s) w) := by
  by_cases h1 : s = [47]
  · subst h1
    go_enter Tryz.func30, Tryz.ntmps30
    go_wp2_with fail
    go_ret
    exact ⟨rfl, Below.refl _ _⟩
  have g1 : (s == [47]) = false := by simpa using h1
  have hlen : s.length ≤ 9223372036854775807 := hs
  by_cases h2 : s.length < 2
  · have HV := Lib.hid (show pathB s = false by
      match s, h2, h1 with
      | [], _, _ => rfl
      | [c], _, h1 => simp [pathB]; intro e; exact absurd (by rw [e]) h1)
    have g2 : (s.length : Int) < 2 := by omega
    have d2 : decide ((s.length : Int) < 2) = true := decide_eq_true g2
    clear h1 h2 hs
    go_enter Tryz.func30, Tryz.ntmps30
    go_wp2_with fail
    go_ret
    exact path_false HV.out rfl (Below.refl _ _)
  have g2 : ¬ (s.length : Int) < 2 := by omega
  have d2 : decide ((s.length : Int) < 2) = false := decide_eq_false g2
  by_cases h3 : 120 < s.length
  · have HV := Lib.hid (show pathB s = false by
      cases s with
      | nil => rfl
      | cons c t => simp [pathB]; simp at h3; omega)
    have g3 : (120 : Int) < (s.length : Int) := by omega
    have d3 : decide ((120 : Int) < (s.length : Int)) = true := decide_eq_true g3
    clear h1 h2 h3 hs
    go_enter Tryz.func30, Tryz.ntmps30
    go_wp2_with fail
    go_ret
    exact path_false HV.out rfl (Below.refl _ _)
  have g3 : ¬ (120 : Int) < (s.length : Int) := by omega
  have d3 : decide ((120 : Int) < (s.length : Int)) = false := decide_eq_false g3
  obtain ⟨c0, hc0⟩ : ∃ c, s[0]? = some c := ⟨_, List.getElem?_eq_getElem (by omega)⟩
  have hix0 := str_at s 0 c0 hc0
  have hix : (Instr.index 9 (.string ⟨s.toArray⟩) (.int .i64 0)).run Tryz.prog = fun w => .ok (.int .u8 (c0.toNat : Int)) w := funext hix0
  have hixw := hix0 w
  by_cases h4 : c0 = 47
  · have HP := Lib.hid (show PA s 1 [] by
      refine .inl ⟨by omega, ?_⟩
      cases s with
      | nil => simp at hc0
      | cons c t =>
        simp at hc0
        subst hc0 h4
        exact pathB_go t (by omega) (fun e => h1 (by rw [e])))
    subst h4
    have hlen2 : s.length ≤ 120 := by omega
    have HG := Lib.hid g1
    clear h1 h2 h3 hs hc0 hlen
    go_enter Tryz.func30, Tryz.ntmps30
    go_wp2_with fail
    clear g1 g2 g3 d2 d3 hix0 hix hixw
    go_loopw [3, 4] (fun cv iv wr => ∃ (i : Nat) (cur : Bs), iv = .int .i64 i ∧ cv = .string ⟨cur.toArray⟩ ∧ i ≤ s.length + 1 ∧ cur.length ≤ i ∧ Hid (PA s i cur) ∧ Hid (Below w.heap.size w wr)) (fun _ iv _ => s.length + 1 - (intOf iv).toNat)
    case atStart => exact ⟨1, [], rfl, rfl, by omega, by simp, HP, Below.refl _ _⟩
    case round =>
      obtain ⟨i, cur, rfl, rfl, hi, hcl, HPA, HB⟩ := hrel
      have hbw : w.heap.size ≤ wr.heap.size := HB.out.size
      by_cases hend : s.length < i
      · have HV := Lib.hid (HPA.out.done hend)
        have k1 : ¬ (i : Int) ≤ (s.length : Int) := by omega
        go_wp2_with fail
        go_ret
        exact path_false HV.out rfl HB.out
      have k1 : (i : Int) ≤ (s.length : Int) := by omega
      have hle : i ≤ s.length := by omega
      by_cases hcase : ∃ c, s[i]? = some c ∧ c ≠ 47
      · obtain ⟨c, hc, h47⟩ := hcase
        have hlt := (List.getElem?_eq_some_iff.1 hc).1
        have hx := str_at s i c hc
        have HX := Lib.hid hc
        have k2 : (i : Int) < (s.length : Int) := by omega
        have d2 : decide ((i : Int) < (s.length : Int)) = true := decide_eq_true k2
        have k3 : ((c.toNat : Int) != 47) = true := by
          rw [bne_iff_ne]
          intro e
          exact h47 (UInt8.toNat_inj.1 (by show c.toNat = 47; omega))
        have H47 := Lib.hid h47
        clear hc h47 hend
        cases hq : prn c.toNat with
        | false =>
          have HV := Lib.hid (HPA.out.bad HX.out H47.out hq)
          rcases prn_no hq with hb | ⟨hb0, hb⟩ | ⟨hb0, hb1, hb⟩
          · have b1 : (c.toNat : Int) < 33 := by omega
            have b2 : decide ((c.toNat : Int) < 33) = true := decide_eq_true b1
            clear hq hb
            go_wp2_with fail
            go_ret
            exact path_false HV.out rfl HB.out
          · have b1 : ¬ (c.toNat : Int) < 33 := by omega
            have b2 : decide ((c.toNat : Int) < 33) = false := decide_eq_false b1
            have b3 : (126 : Int) < (c.toNat : Int) := by omega
            have b4 : decide ((126 : Int) < (c.toNat : Int)) = true := decide_eq_true b3
            clear hq hb0 hb
            go_wp2_with fail
            go_ret
            exact path_false HV.out rfl HB.out
          · have b1 : ¬ (c.toNat : Int) < 33 := by omega
            have b2 : decide ((c.toNat : Int) < 33) = false := decide_eq_false b1
            have b3 : ¬ (126 : Int) < (c.toNat : Int) := by omega
            have b4 : decide ((126 : Int) < (c.toNat : Int)) = false := decide_eq_false b3
            have b5 : ((c.toNat : Int) == 35) = true := by rw [beq_iff_eq]; omega
            clear hq hb0 hb1 hb
            go_wp2_with fail
            go_ret
            exact path_false HV.out rfl HB.out
        | true =>
          have HN := Lib.hid (HPA.out.byte HX.out H47.out hq)
          obtain ⟨p1, p2, p3⟩ := prn_yes hq
          have b1 : ¬ (c.toNat : Int) < 33 := by omega
          have b2 : decide ((c.toNat : Int) < 33) = false := decide_eq_false b1
          have b3 : ¬ (126 : Int) < (c.toNat : Int) := by omega
          have b4 : decide ((126 : Int) < (c.toNat : Int)) = false := decide_eq_false b3
          have b5 : ((c.toNat : Int) == 35) = false := by rw [beq_eq_false_iff_ne]; omega
          have hcv := pone_byte wr c
          clear hq p1 p2 p3
          go_wp2_with fail
          go_roundw
          case rel => exact ⟨i + 1, cur ++ [c], by go_num, by first | rfl | simp, by omega, by simp; omega, HN, HB.out.alloc hbw _⟩
          case measure => simp [intOf]; omega

      · by_cases hil : i = s.length
        · have hsl : i = s.length ∨ s[i]? = some 47 := .inl hil
          have k2 : ¬ (i : Int) < (s.length : Int) := by omega
          have d2 : decide ((i : Int) < (s.length : Int)) = false := decide_eq_false k2
          clear hcase hend
          clear hil
          have HSL := Lib.hid (show i = s.length ∨ s[i]? = some 47 from hsl)
          clear hsl
          rcases cur_ways cur with rfl | rfl | rfl | ⟨e0, e1, e2, e3⟩ | ⟨e0, e1, e2, e3⟩
          · have HV := Lib.hid (HPA.out.ill hle HSL.out (by decide))
            clear hcl
            go_wp2_with fail
            go_ret
            exact path_false HV.out rfl HB.out
          · have HV := Lib.hid (HPA.out.ill hle HSL.out (by decide))
            clear hcl
            go_wp2_with fail
            go_ret
            exact path_false HV.out rfl HB.out
          · have HV := Lib.hid (HPA.out.ill hle HSL.out (by decide))
            clear hcl
            go_wp2_with fail
            go_ret
            exact path_false HV.out rfl HB.out
          · have HE := Lib.hid (show endB cur = true by simp [endB, e0, e1, e2, e3])
            have f0 : cur.isEmpty = false := by cases cur <;> simp_all
            have f1 : (cur == [46]) = false := by simpa using e1
            have f2 : (cur == [46, 46]) = false := by simpa using e2
            have f3 : (14 : Int) < (cur.length : Int) := by omega
            have f4 : decide ((14 : Int) < (cur.length : Int)) = true := decide_eq_true f3
            clear e0 e1 e2 e3
            have HV := Lib.hid (HPA.out.ill hle HSL.out HE.out)
            go_wp2_with fail
            go_ret
            exact path_false HV.out rfl HB.out
          · have HE := Lib.hid (show endB cur = false by simp [endB, e0, e1, e2, e3])
            have f0 : cur.isEmpty = false := by cases cur <;> simp_all
            have f1 : (cur == [46]) = false := by simpa using e1
            have f2 : (cur == [46, 46]) = false := by simpa using e2
            have f3 : ¬ (14 : Int) < (cur.length : Int) := by omega
            have f4 : decide ((14 : Int) < (cur.length : Int)) = false := decide_eq_false f3
            clear e0 e1 e2 e3
            have HN := Lib.hid (HPA.out.end_ hle HSL.out HE.out)
            go_wp2_with fail
            go_roundw
            case rel => exact ⟨i + 1, [], by go_num, rfl, by omega, by simp, HN, HB⟩
            case measure => simp [intOf]; omega
        · have hlt : i < s.length := by omega
          have hsl : i = s.length ∨ s[i]? = some 47 := by
            right
            obtain ⟨c, hc⟩ : ∃ c, s[i]? = some c := ⟨_, List.getElem?_eq_getElem hlt⟩
            by_cases e : c = 47
            · rw [hc, e]
            · exact absurd ⟨c, hc, e⟩ hcase
          have hx := str_at s i 47 (by rcases hsl with e | e; exact absurd e hil; exact e)
          have k2 : (i : Int) < (s.length : Int) := by omega
          have d2 : decide ((i : Int) < (s.length : Int)) = true := decide_eq_true k2
          clear hcase hend hil
          have HSL := Lib.hid (show i = s.length ∨ s[i]? = some 47 from hsl)
          clear hsl
          rcases cur_ways cur with rfl | rfl | rfl | ⟨e0, e1, e2, e3⟩ | ⟨e0, e1, e2, e3⟩
          · have HV := Lib.hid (HPA.out.ill hle HSL.out (by decide))
            clear hcl
            go_wp2_with fail
            go_ret
            exact path_false HV.out rfl HB.out
          · have HV := Lib.hid (HPA.out.ill hle HSL.out (by decide))
            clear hcl
            go_wp2_with fail
            go_ret
            exact path_false HV.out rfl HB.out
          · have HV := Lib.hid (HPA.out.ill hle HSL.out (by decide))
            clear hcl
            go_wp2_with fail
            go_ret
            exact path_false HV.out rfl HB.out
          · have HE := Lib.hid (show endB cur = true by simp [endB, e0, e1, e2, e3])
            have f0 : cur.isEmpty = false := by cases cur <;> simp_all
            have f1 : (cur == [46]) = false := by simpa using e1
            have f2 : (cur == [46, 46]) = false := by simpa using e2
            have f3 : (14 : Int) < (cur.length : Int) := by omega
            have f4 : decide ((14 : Int) < (cur.length : Int)) = true := decide_eq_true f3
            clear e0 e1 e2 e3
            have HV := Lib.hid (HPA.out.ill hle HSL.out HE.out)
            go_wp2_with fail
            go_ret
            exact path_false HV.out rfl HB.out
          · have HE := Lib.hid (show endB cur = false by simp [endB, e0, e1, e2, e3])
            have f0 : cur.isEmpty = false := by cases cur <;> simp_all
            have f1 : (cur == [46]) = false := by simpa using e1
            have f2 : (cur == [46, 46]) = false := by simpa using e2
            have f3 : ¬ (14 : Int) < (cur.length : Int) := by omega
            have f4 : decide ((14 : Int) < (cur.length : Int)) = false := decide_eq_false f3
            clear e0 e1 e2 e3
            have HN := Lib.hid (HPA.out.end_ hle HSL.out HE.out)
            go_wp2_with fail
            go_roundw
            case rel => exact ⟨i + 1, [], by go_num, rfl, by omega, by simp, HN, HB⟩
            case measure => simp [intOf]; omega
  · have HV := Lib.hid (show pathB s = false by
      cases s with
      | nil => rfl
      | cons c t => simp at hc0; subst hc0; simp [pathB, h4])
    have k3 : ((c0.toNat : Int) != 47) = true := by
      rw [bne_iff_ne]
      intro e
      exact h4 (UInt8.toNat_inj.1 (by show c0.toNat = 47; omega))
    clear h1 h2 h3 h4 hs hc0
    go_enter Tryz.func30, Tryz.ntmps30
    go_wp2_with fail
    go_ret
    exact path_false HV.out rfl (Below.refl _ _)
end Go.Proofs.YtonpakndocgndaaGreatDoor
