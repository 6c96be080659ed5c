/- moving. -/
import Derived.Test.YtdlglllidolggaaInV
import Derived.StillTailTactics
namespace Go.Proofs.Ytdlglllidolggaa.In
open Go.RowKit Go.Maps Go.WideMaps
section
variable {w w' : World} {B tb A : Nat} {T : TrM} {nb mb : Nat → Nat}
def IntB (k : Int) (w : World) (e : Ending) (w' : World) : Prop := e = .returned (.int .i64 k) ∧ Below w.heap.size w w'
set_option maxRecDepth 100000 in
set_option maxHeartbeats 4000000 in
theorem moving_any (h : TabR w B tb T A nb mb) {n tt : Nat} (hn : (T.nd n).kd ≠ 0) (ht : (T.nd tt).kd = 2) (u : ByteArray) (hu : u.size ≤ maxLen) (hL : Live T) (way : List Nat) (tall : Nat)
    (hw : (T.nd n).kd = 2 → (T.nd tt).links ≠ 0 → (∃ f, upO T f tt = some way ∧ f ≤ 1000) ∧ ∃ f, f ≤ 100 ∧ Low T f n ∧ tall = tallF T f n) :
    Calls Try.prog 52 #[tP tb, tP (nb n), tP (nb tt), .string u] w (IntB (movingE T way tall n tt u.data.toList) w) := by
  have ht0 : (T.nd tt).kd ≠ 0 := by rw [ht]; decide
  have H := Lib.hid h
  have HN := Lib.hid hn
  have HT0 := Lib.hid ht0
  by_cases q1 : nameB u.data.toList = false
  · have HR := Lib.hid (show movingE T way tall n tt u.data.toList = 22 from by unfold movingE; rw [if_pos q1])
    have Hq := Lib.hid q1
    clear q1 hw h
    go_enter Try.func52, Try.ntmps52
    go_wp2_with fail
    refine (name_any u _ hu).mono ?_
    rintro e w1 ⟨rfl, hb⟩
    rw [Hq.out]
    have Hb := Lib.hid hb
    clear hb
    go_wp2
    go_ret
    exact ⟨by rw [HR.out]; rfl, Hb.out⟩
  have Hq := Lib.hid (show nameB u.data.toList = true by simpa using q1)
  by_cases q2 : (T.nd tt).links = 0
  · have HR := Lib.hid (show movingE T way tall n tt u.data.toList = 2 from by unfold movingE; rw [if_neg q1, if_pos q2])
    have Hq2 := Lib.hid q2
    clear q1 q2 hw h
    go_enter Try.func52, Try.ntmps52
    go_wp2_with fail
    refine (name_any u _ hu).mono ?_
    rintro e w1 ⟨rfl, hb⟩
    rw [Hq.out]
    have Hb := Lib.hid hb
    have a6 := ndL (H.out.below hb) HT0.out
    rw [Hq2.out] at a6
    clear hb
    go_wp2
    go_ret
    exact ⟨by rw [HR.out]; rfl, Hb.out⟩
  have lb : (((T.nd tt).links : Int) == 0) = false := by simp; omega
  by_cases q3 : (T.nd n).kd ≠ 2
  · have HR := Lib.hid (show movingE T way tall n tt u.data.toList = 0 from by unfold movingE; rw [if_neg q1, if_neg q2, if_pos q3])
    obtain ⟨kk, hkk⟩ : ∃ kk, kk = (T.nd n).kd := ⟨_, rfl⟩
    have kb : ((kk : Int) != 2) = true := by simp; omega
    have HKK := Lib.hid hkk
    clear q1 q2 q3 hw h hkk
    go_enter Try.func52, Try.ntmps52
    go_wp2_with fail
    refine (name_any u _ hu).mono ?_
    rintro e w1 ⟨rfl, hb⟩
    rw [Hq.out]
    have Hb := Lib.hid hb
    have a6 := ndL (H.out.below hb) HT0.out
    have a1 := ndK (H.out.below hb) HN.out
    rw [← HKK.out] at a1
    clear hb
    go_wp2
    go_ret
    exact ⟨by rw [HR.out]; rfl, Hb.out⟩
  have q3 : (T.nd n).kd = 2 := by omega
  obtain ⟨⟨f, hf, hf1⟩, f2, hf2, hlow, htall⟩ := hw q3 q2
  have hnn : n ≤ 65535 := by have := (h.rowYes hn).1; have := h.lim; omega
  have htn : tt ≤ 65535 := by have := (h.rowYes ht0).1; have := h.lim; omega
  have HWi := Lib.hid (fun (w1 : World) (hb : Below w.heap.size w w1) => within_any (h.below hb) htn hnn hf hf1)
  have HDp := Lib.hid (fun (w1 : World) (hb : Below w.heap.size w w1) => depth_any (h.below hb) htn hf hf1)
  have HHt := Lib.hid (fun (w1 : World) (hb : Below w.heap.size w w1) => height_any B tb T A nb mb hL f2 hf2 n w1 (h.below hb) q3 hlow)
  have hlen := upO_len hf
  have hti : tall ≤ 100 := by have := tall_le (T := T) f2 n; omega
  have HTall := Lib.hid htall
  have HR := Lib.hid (show movingE T way tall n tt u.data.toList = if n ∈ way then 22 else if 16 < way.length + tall then 28 else 0 from by unfold movingE; rw [if_neg q1, if_neg q2, if_neg (by rw [q3]; simp)])
  have HKK := Lib.hid q3
  have hwl : way.length ≤ 1000 := by omega
  clear q1 q2 q3 hw h hf hf1 hf2 hlow htall hlen
  by_cases q4 : n ∈ way
  · have Hq4 := Lib.hid q4
    clear q4
    go_enter Try.func52, Try.ntmps52
    go_wp2_with fail
    refine (name_any u _ hu).mono ?_
    rintro e w1 ⟨rfl, hb⟩
    rw [Hq.out]
    have Hb := Lib.hid hb
    have a6 := ndL (H.out.below hb) HT0.out
    have a1 := ndK (H.out.below hb) HN.out
    rw [HKK.out] at a1
    have b0 := nd0 (H.out.below hb) HN.out
    have c0 := nd0 (H.out.below hb) HT0.out
    clear hb
    go_wp2
    refine wp_region_still_tail 9 (by kernel_rfl) (by kernel_rfl) ?_
    simp only [List.take_succ_cons, List.take_zero, List.drop_succ_cons, List.drop_zero]
    change wpStill _ _ (World.drew _) (fun a' => wpList _ _ _ _ a' (World.drew _)) _ _
    repeat still_step
    refine wpStill_nil ?_
    go_wp2_with fail
    refine (HWi.out w1.drew Hb.out.drew).mono ?_
    rintro e w2 ⟨rfl, hb2⟩
    rw [decide_eq_true Hq4.out]
    have Hb2 := Lib.hid (Hb.out.drew.trans (hb2.mono Hb.out.size))
    clear hb2
    go_wp2
    go_ret
    exact ⟨by rw [HR.out, if_pos Hq4.out]; rfl, Hb2.out⟩
  · have Hq4 := Lib.hid q4
    clear q4
    go_enter Try.func52, Try.ntmps52
    go_wp2_with fail
    refine (name_any u _ hu).mono ?_
    rintro e w1 ⟨rfl, hb⟩
    rw [Hq.out]
    have Hb := Lib.hid hb
    have a6 := ndL (H.out.below hb) HT0.out
    have a1 := ndK (H.out.below hb) HN.out
    rw [HKK.out] at a1
    have b0 := nd0 (H.out.below hb) HN.out
    have c0 := nd0 (H.out.below hb) HT0.out
    clear hb
    go_wp2
    refine wp_region_still_tail 9 (by kernel_rfl) (by kernel_rfl) ?_
    simp only [List.take_succ_cons, List.take_zero, List.drop_succ_cons, List.drop_zero]
    change wpStill _ _ (World.drew _) (fun a' => wpList _ _ _ _ a' (World.drew _)) _ _
    repeat still_step
    refine wpStill_nil ?_
    go_wp2_with fail
    refine (HWi.out w1.drew Hb.out.drew).mono ?_
    rintro e w2 ⟨rfl, hb2⟩
    rw [decide_eq_false Hq4.out]
    have hb3 := Hb.out.drew.trans (hb2.mono Hb.out.size)
    have Hb2 := Lib.hid hb3
    have d0 := nd0 (H.out.below hb3) HT0.out
    clear hb2 hb3
    go_wp2_with fail
    refine (HDp.out w2 Hb2.out).mono ?_
    rintro e w3 ⟨rfl, hb3⟩
    have Hb3 := Lib.hid (Hb2.out.trans (hb3.mono Hb2.out.size))
    clear hb3
    obtain ⟨ln, hln⟩ : ∃ ln, ln = way.length := ⟨_, rfl⟩
    rw [← hln] at hwl ⊢
    have HLN := Lib.hid hln
    clear hln
    go_wp2_with fail
    refine (HHt.out w3 Hb3.out).mono ?_
    rintro e w4 ⟨rfl, hb4⟩
    rw [← HTall.out]
    have Hb4 := Lib.hid (Hb3.out.trans (hb4.mono Hb3.out.size))
    clear hb4
    by_cases q5 : 16 < ln + tall
    · have c5 : (16 : Int) < (ln : Int) + (tall : Int) := by omega
      have c6 : (16 : Int) < (ln : Int) - 1 + 1 + (tall : Int) := by omega
      go_wp2
      go_ret
      exact ⟨by rw [HR.out, if_neg Hq4.out, if_pos (by rw [← HLN.out]; exact q5)]; rfl, Hb4.out⟩
    · have c5 : ¬ (16 : Int) < (ln : Int) + (tall : Int) := by omega
      have c6 : ¬ (16 : Int) < (ln : Int) - 1 + 1 + (tall : Int) := by omega
      go_wp2
      go_ret
      exact ⟨by rw [HR.out, if_neg Hq4.out, if_neg (by rw [← HLN.out]; exact q5)]; rfl, Hb4.out⟩
end
end Go.Proofs.Ytdlglllidolggaa.In
