/- The document's room. -/
import Derived.Test.YtdlglllidolggaaRtF
namespace Go.Proofs.Ytdlglllidolggaa.In
open Go.RowKit Go.Maps Go.WideElems
theorem cellB {w w' : World} {b o : Nat} {v : Value} (h : w.cell? ⟨b, o, none⟩ = some v) (hl : b < w.heap.size) (hb : Below w.heap.size w w') : w'.cell? ⟨b, o, none⟩ = some v := (hb.cell (p := ⟨b, o, none⟩) hl).trans h
theorem ERd.below {w w' : World} {lv : Value} {L : Es} (h : ERd w lv L) (hb : Below w.heap.size w w') : ERd w' lv L := h.same hb.size fun b q => hb.block _ q.lt
theorem At7.below {w w' : World} {b o : Nat} {x : NdM} {dv lv : Value} (h : At7 w b o x dv lv) (hb : Below w.heap.size w w') : At7 w' b o x dv lv :=
  ⟨cellB h.kd h.lt hb, cellB h.cdv h.lt hb, cellB h.clv h.lt hb, cellB h.par h.lt hb, cellB h.text h.lt hb, cellB h.links h.lt hb, cellB h.held h.lt hb, h.list.below hb, Nat.lt_of_lt_of_le h.lt hb.size⟩
theorem at_neg {s : Bs} : ∀ {L : Es}, atF s L < 0 ↔ lk s L = none
  | [] => ⟨fun _ => rfl, fun _ => by show (-1 : Int) < 0; decide⟩
  | e :: L => by
    have ih := at_neg (s := s) (L := L)
    have hg := atF_ge s L
    by_cases h : e.1 = s
    · constructor
      · intro q; unfold atF at q; rw [if_pos h] at q; exact absurd q (by decide)
      · intro q; exact absurd h (lk_none.1 q e (by simp))
    · constructor
      · intro q
        unfold atF at q; rw [if_neg h] at q
        have hl : lk s L = none := ih.1 (by split at q <;> omega)
        exact lk_none.2 fun x hx => by
          rcases List.mem_cons.1 hx with rfl | hx
          · exact h
          · exact lk_none.1 hl x hx
      · intro q
        have hl : lk s L = none := lk_none.2 fun x hx => lk_none.1 q x (by simp [hx])
        have := ih.2 hl
        unfold atF; rw [if_neg h, if_pos this]; decide
section
variable {w w' : World} {B tb A k c g : Nat} {T : TrM} {mv nx : Value} {df lf : Nat → Value}
set_option maxHeartbeats 2000000 in
theorem rroom_any (h : RtR w B tb T A k c mv nx df lf) {n : Nat} (hn : n ≤ 65535) (s : ByteArray) (hs : s.size ≤ maxLen) :
    Calls Try.prog 42 #[tP tb, .int .i64 n, .string s] w fun e w' => e = .returned (.int .i64 (roomE T n s.data.toList)) ∧ Below w.heap.size w w' := by
  have hd := rdir_any h (n := n) (by omega)
  by_cases d0 : dirE T n = 0
  case neg =>
    have hr : roomE T n s.data.toList = dirE T n := by unfold roomE; rw [if_pos d0]
    rw [hr]
    obtain ⟨q, hq⟩ : ∃ q, q = dirE T n := ⟨_, rfl⟩
    rw [← hq] at hd d0 ⊢
    have e0 : ((q : Int) != 0) = true := by simp; omega
    have HD := Lib.hid hd
    clear hd hq hr d0 h
    go_enter Try.func42, Try.ntmps42
    go_wp2_with fail
    refine HD.out.mono ?_
    rintro e w1 ⟨rfl, hb⟩
    have Hb := Lib.hid hb
    clear hb HD
    go_wp2
    go_ret
    exact ⟨rfl, Hb.out⟩
  rw [d0] at hd
  have HD := Lib.hid hd
  have H := Lib.hid h
  have hls := (h.ls n).len
  have hlk := (h.ls n).links
  have Hroom := Lib.hid (show roomE T n s.data.toList = (if nameB s.data.toList = false then 22 else if (lk s.data.toList (T.nd n).L).isSome = true then 17 else if (T.nd n).links = 0 then 2 else if 32 ≤ (T.nd n).L.length then 28 else 0) by unfold roomE; rw [if_neg (by rw [d0]; decide)])
  clear h hd d0
  go_enter Try.func42, Try.ntmps42
  go_wp2_with fail
  refine HD.out.mono ?_
  rintro e w1 ⟨rfl, hb⟩
  have Hb1 := Lib.hid hb
  have H1 := Lib.hid (H.out.below hb)
  clear hb HD
  go_wp2_with fail
  refine (rnode_any H1.out (n := n) (by omega)).mono ?_
  rintro e w2 ⟨b, o, dv, lv, rfl, h7, hb⟩
  have Hb2 := Lib.hid (Hb1.out.trans (hb.mono Hb1.out.size))
  have H7 := Lib.hid h7
  clear hb h7
  go_wp2_with fail
  refine (rname_any s _ hs).mono ?_
  rintro e w3 ⟨rfl, hb⟩
  have Hb3 := Lib.hid (Hb2.out.trans (hb.mono Hb2.out.size))
  have H73 := Lib.hid (H7.out.below hb)
  clear hb H7
  by_cases q1 : nameB s.data.toList = false
  · have Hq1 := Lib.hid q1
    rw [q1]
    clear q1
    go_wp2
    go_ret
    exact ⟨by rw [Hroom.out, if_pos Hq1.out]; rfl, Hb3.out⟩
  have Hq1 := Lib.hid q1
  rw [show nameB s.data.toList = true by simpa using q1]
  clear q1
  have hat := at_any H73.out.clv H73.out.list hls s
  have c5 := H73.out.links
  have c2 := H73.out.clv
  obtain ⟨A1, c1, rfl, _, _, _⟩ := H73.out.list
  by_cases q2 : atF s.data.toList (T.nd n).L < 0
  case neg =>
    have Hq2 := Lib.hid (show (lk s.data.toList (T.nd n).L).isSome = true by
      cases hl : lk s.data.toList (T.nd n).L with
      | none => exact absurd (at_neg.2 hl) q2
      | some _ => rfl)
    have q3 : (0 : Int) ≤ atF s.data.toList (T.nd n).L := by omega
    obtain ⟨z, hz⟩ : ∃ z, z = atF s.data.toList (T.nd n).L := ⟨_, rfl⟩
    rw [← hz] at hat q3
    have HAt := Lib.hid hat
    clear hat hz q2
    go_wp2_with fail
    refine HAt.out.mono ?_
    rintro e w4 ⟨rfl, rfl⟩
    clear HAt
    go_wp2
    go_ret
    exact ⟨by rw [Hroom.out, if_neg Hq1.out, if_pos Hq2.out]; rfl, Hb3.out⟩
  have Hq2 := Lib.hid (show ¬ (lk s.data.toList (T.nd n).L).isSome = true by rw [at_neg.1 q2]; simp)
  have q3 : ¬ (0 : Int) ≤ atF s.data.toList (T.nd n).L := by omega
  obtain ⟨z, hz⟩ : ∃ z, z = atF s.data.toList (T.nd n).L := ⟨_, rfl⟩
  rw [← hz] at hat q3
  obtain ⟨lks, hlks⟩ : ∃ z, z = (T.nd n).links := ⟨_, rfl⟩
  obtain ⟨len, hlen⟩ : ∃ z, z = (T.nd n).L.length := ⟨_, rfl⟩
  rw [← hlks] at c5
  rw [← hlen] at c2
  have HAt := Lib.hid hat
  have Hlks := Lib.hid hlks
  have Hlen := Lib.hid hlen
  rw [← hlks] at hlk
  rw [← hlen] at hls
  clear hat hz q2 hlks hlen
  by_cases q4 : lks = 0
  · have Hq4 := Lib.hid (show (T.nd n).links = 0 by rw [← Hlks.out]; exact q4)
    rw [q4] at c5
    clear q4
    go_wp2_with fail
    refine HAt.out.mono ?_
    rintro e w4 ⟨rfl, rfl⟩
    clear HAt
    go_wp2
    go_ret
    exact ⟨by rw [Hroom.out, if_neg Hq1.out, if_neg Hq2.out, if_pos Hq4.out]; rfl, Hb3.out⟩
  have Hq4 := Lib.hid (show ¬ (T.nd n).links = 0 by rw [← Hlks.out]; exact q4)
  have e4 : ((lks : Int) == 0) = false := by simp; omega
  clear q4
  by_cases q5 : 32 ≤ len
  · have Hq5 := Lib.hid (show 32 ≤ (T.nd n).L.length by rw [← Hlen.out]; exact q5)
    have q6 : (32 : Int) ≤ len := by omega
    go_wp2_with fail
    refine HAt.out.mono ?_
    rintro e w4 ⟨rfl, rfl⟩
    clear HAt
    go_wp2
    go_ret
    exact ⟨by rw [Hroom.out, if_neg Hq1.out, if_neg Hq2.out, if_neg Hq4.out, if_pos Hq5.out]; rfl, Hb3.out⟩
  · have Hq5 := Lib.hid (show ¬ 32 ≤ (T.nd n).L.length by rw [← Hlen.out]; exact q5)
    have q6 : ¬ (32 : Int) ≤ len := by omega
    go_wp2_with fail
    refine HAt.out.mono ?_
    rintro e w4 ⟨rfl, rfl⟩
    clear HAt
    go_wp2
    go_ret
    exact ⟨by rw [Hroom.out, if_neg Hq1.out, if_neg Hq2.out, if_neg Hq4.out, if_neg Hq5.out]; rfl, Hb3.out⟩
end
end Go.Proofs.Ytdlglllidolggaa.In
