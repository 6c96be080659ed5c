/- InodeNames: the walk. -/
import Derived.Test.YtdlglllidolggaaNmM
import Derived.Test.YtdlglllidolggaaRtLa
import Derived.Test.YtdlglllidolggaaRtH
import Derived.Test.YtdlglllidolggaaInEn
import Derived.Test.YtdlglllidolggaaInR
namespace Go.Proofs.Ytdlglllidolggaa.In
open Go.RowKit Go.Maps Go.WideMaps Go.WideElems
theorem Rt.lt {w : World} {B tb : Nat} {T : TrM} (h : Rt w B tb T) : B < w.heap.size := by obtain ⟨A, k, c, mv, nx, df, lf, h⟩ := h; exact RtR.lt h
/-- Both sides as one. -/
def Two (w : World) (B1 tb B2 rb : Nat) (T : TrM) : Prop := Tab w B1 tb T ∧ Rt w B2 rb T
theorem rmake_file {w : World} {B tb : Nat} {T : TrM} (h : Rt w B tb T) {i : Nat} (hi : i ≤ 65535) (s : ByteArray) (hs : s.size ≤ maxLen) (hch : T.ch < 1000000000) :
    Calls Try.prog 13 #[tP tb, .int .i64 i, .string s, .int .i64 1, .string ⟨#[]⟩] w (RMakeP w B tb (makeF T 0 i s.data.toList 1 ⟨#[]⟩)) := by
  obtain ⟨A, k, c, mv, nx, df, lf, h⟩ := h
  have ht : (⟨#[]⟩ : ByteArray).size ≤ maxLen := Nat.zero_le _
  by_cases hr : roomE T i s.data.toList = 0
  case neg =>
    have e : makeF T 0 i s.data.toList 1 ⟨#[]⟩ = (0, roomE T i s.data.toList, T) := by unfold makeF; rw [if_pos hr]
    rw [e]
    exact rmake_room (kk := 1) h hi s ⟨#[]⟩ hs hr
  cases hf : freeF T with
  | none =>
    have e : makeF T 0 i s.data.toList 1 ⟨#[]⟩ = (0, 28, T) := by unfold makeF; rw [if_neg (by rw [hr]; decide), if_neg (by decide), hf]
    rw [e]
    exact rmake_full (kk := 1) h hi s ⟨#[]⟩ hs ht hr rfl (.inl (h.cnt.2 hf))
  | some n =>
    have e : makeF T 0 i s.data.toList 1 ⟨#[]⟩ = (n, 0, madeT T i s.data.toList 1 ⟨#[]⟩ n) := by unfold makeF; rw [if_neg (by rw [hr]; decide), if_neg (by decide), hf]; rfl
    rw [e]
    exact rmake_ok1 h hi s ⟨#[]⟩ hs ht hr hch hf
set_option maxRecDepth 100000 in
set_option maxHeartbeats 8000000 in
theorem walk_inodeNames (s : ByteArray) (x : Option Addr) (len cap : Nat) (zs : List ByteArray) (w : World) (hs : s.size ≤ maxLen) (hrow : StrRow w x len cap zs) :
    Calls Try.prog 3 #[.string s, .slice x len cap] w (BoolP true w) := by
  have HRow := Lib.hid hrow
  have hlm : len ≤ 9223372036854775807 := by
    rcases hrow with ⟨_, h, _⟩ | ⟨x, _, hl, hm, _⟩
    · omega
    · unfold maxLen at hm; omega
  have Hs := Lib.hid hs
  clear hrow hs
  by_cases hlen : len ≤ 60
  case neg =>
    have hl1 : (60 : Int) < len := by omega
    go_enter Try.func3, Try.ntmps3
    go_wp2_with fail
    refine (awake_any w).mono ?_
    rintro e w1 ⟨rfl, hb⟩
    have HB1 := Lib.hid hb
    clear hb
    go_wp2
    go_ret
    exact ⟨rfl, HB1.out⟩
  have hl1 : ¬ (60 : Int) < len := by omega
  go_enter Try.func3, Try.ntmps3
  go_wp2_with fail
  refine (awake_any w).mono ?_
  rintro e w1 ⟨rfl, hb⟩
  have HB1 := Lib.hid hb
  clear hb
  go_wp2_with fail
  refine (new_any w1 200 (by decide)).mono ?_
  rintro e w2 ⟨tb, rfl, htb, hT, hb⟩
  have HT2 := Lib.hid hT
  have HB2 := Lib.hid (HB1.out.trans (hb.mono HB1.out.size))
  have HS1 := Lib.hid HB1.out.size
  clear hb htb hT HB1
  go_wp2_with fail
  refine (rnew_any w2 200 (by decide)).mono ?_
  rintro e w3 ⟨rb, rfl, hR, hb⟩
  have HTw := Lib.hid (show Two w3 w1.heap.size tb w2.heap.size rb (newT 200) from ⟨HT2.out.below hb, hR⟩)
  have HB3 := Lib.hid (HB2.out.trans (hb.mono HB2.out.size))
  have HS2 := Lib.hid HB2.out.size
  clear hb hR HT2 HB2
  go_wp2_with fail
  go_loopw [30] (fun i wx => ∃ (j : Nat) (T : TrM), i = .int .i64 j ∧ j ≤ len ∧ Hid (NmI T ∧ T.ch ≤ j) ∧ Hid (Two wx w1.heap.size tb w2.heap.size rb T) ∧ Hid (Below w.heap.size w wx)) (fun i _ => len - (intOf i).toNat)
  case atStart => exact ⟨0, newT 200, rfl, Nat.zero_le _, Lib.hid ⟨nm_new, Nat.le_refl _⟩, HTw, HB3⟩
  case round =>
    clear HTw HB3
    obtain ⟨j, T, rfl, hj, HI, HTw, HC⟩ := hrel
    by_cases hlt : j < len
    · obtain ⟨bb, q, y, rfl, hbl, hcell, hy⟩ := str_at HRow.out j hlt
      rw [← HC.out.cell hbl] at hcell
      have hch : T.ch < 1000000000 := by have := HI.out.2; omega
      obtain ⟨hN1, hN2, hN3, hN4⟩ := nm_make HI.out.1 y.data.toList
      have HRM := Lib.hid (fun (wz : World) (h : Rt wz w2.heap.size rb T) => rmake_file (i := 1) h (by decide) y hy hch)
      obtain ⟨⟨A, nb, mb, hT⟩, hR⟩ := HTw.out
      have hm : Calls _ _ _ _ (MakeP wr w1.heap.size tb (makeF T 0 1 y.data.toList 1 ⟨#[]⟩)) := make_any hT (i := 1) (k := 1) (by decide) (by decide) y ⟨#[]⟩ hy (Nat.zero_le _) hch 0 (fun e => by cases e)
      obtain ⟨R, hRd⟩ : ∃ R, R = makeF T 0 1 y.data.toList 1 ⟨#[]⟩ := ⟨_, rfl⟩
      rw [← hRd] at hm hN1 hN2 hN3 hN4 HRM
      clear hRd
      obtain ⟨R1, R2, T'⟩ := R
      dsimp only at hN1 hN2 hN3 hN4
      have HM := Lib.hid hm
      have HLt := Lib.hid (Nat.le_of_lt hT.lt)
      have HI2 := Lib.hid (show NmI T' ∧ T'.ch ≤ j + 1 from ⟨hN1, by have := HI.out.2; omega⟩)
      have HR := Lib.hid hR
      clear hm hT hN1 hN2 hR hch
      go_wp2_with fail
      refine HM.out.mono ?_
      rintro e w4 ⟨rfl, hT4, hF4⟩
      have HT4 := Lib.hid hT4
      have HR4 := Lib.hid (HR.out.other hF4)
      have HC4 := Lib.hid (HC.out.trans ((hF4.below HLt.out).mono HS1.out))
      clear hT4 hF4 HM HR
      go_wp2_with fail
      refine (HRM.out _ HR4.out).mono ?_
      rintro e w5 ⟨rfl, hR5, hF5⟩
      have HT5 := Lib.hid (HT4.out.ref hF5)
      have HR5 := Lib.hid hR5
      have HC5 := Lib.hid (HC4.out.trans ((hF5.below (Nat.le_of_lt (Rt.lt HR4.out))).mono HS2.out))
      clear hR5 hF5 HRM HT4 HR4
      go_wp2_with fail
      go_roundw
      case rel => exact ⟨j + 1, T', by go_num, by omega, HI2, Lib.hid ⟨HT5.out, HR5.out⟩, HC5⟩
      case measure => simp [intOf]; omega
    · obtain rfl : j = len := by omega
      obtain ⟨⟨A, nb, mb, hT⟩, hR⟩ := HTw.out
      have hen := entries_yes hT (n := 1) HI.out.1.root HI.out.1.ris
      have HEn := Lib.hid hen
      have HT := Lib.hid hT
      have HR := Lib.hid hR
      clear hen hT hR HTw
      go_wp2_with fail
      refine HEn.out.mono ?_
      rintro e w6 ⟨v, rfl, hown, hb⟩
      obtain ⟨A6, c6, rfl, _, hRd⟩ := own_form hown
      have HRd6 := Lib.hid hRd
      have HT6 := Lib.hid (HT.out.below hb)
      have HC6 := Lib.hid (HC.out.trans (hb.mono HC.out.size))
      obtain ⟨RA, k, c, mv, nx, df, lf, hR6⟩ := HR.out.below hb
      have hk := hR6.kk
      have hk1 : (1 : Int) < k := by omega
      have hk2 : k ≤ 201 := by have := HI.out.1.lim; omega
      have c0 := hR6.c0
      have c2 : w6.cell? ⟨RA, 9, none⟩ = some (lf 1) := (hR6.cells7 (n := 1) (by omega)).2.2.1
      obtain ⟨LA, lc, hlf, hl1, hl2, hl3⟩ := hR6.list 1 (by omega)
      rw [hlf] at c2
      have HRl := Lib.hid hl3.rd
      have hNl := (hR6.ls 1).len
      have H999 := Lib.hid (show dirE T 999 = 2 by unfold dirE; rw [hR6.out 999 (.inr (by omega))]; rfl)
      obtain ⟨N, hN⟩ : ∃ N, N = (T.nd 1).L.length := ⟨_, rfl⟩
      rw [← hN] at c2 hNl ⊢
      have HN := Lib.hid hN
      clear hN hlf hl1 hl2 hl3 hR6 hown hRd hb HEn HT HR HC hk
      go_wp2_with fail
      go_loop [78] (fun i => ∃ j2 : Nat, j2 ≤ N ∧ i = .int .i64 j2) (fun i => N - (intOf i).toNat)
      case atStart => exact ⟨0, Nat.zero_le _, rfl⟩
      case round =>
        obtain ⟨j2, hj2, rfl⟩ := hrel
        by_cases hlt2 : j2 < N
        · obtain ⟨z, hz⟩ : ∃ z, (T.nd 1).L[j2]? = some z := ⟨(T.nd 1).L[j2]'(by rw [← HN.out]; exact hlt2), List.getElem?_eq_getElem _⟩
          obtain ⟨b6, o6, e6, _, hc6⟩ := HRd6.out.pos (by rw [← HN.out]; omega)
          obtain ⟨b7, o7, e7, _, hc7⟩ := HRl.out.pos (by rw [← HN.out]; omega)
          have g6 := hc6 j2 (.string ⟨z.1.toArray⟩) (by unfold nmRow; rw [List.getElem?_map, hz]; rfl)
          have g7 := hc7 _ _ (en_at hz).1
          subst e6 e7
          generalize (⟨z.1.toArray⟩ : ByteArray) = yy at g6 g7
          clear hc6 hc7 hz
          go_wp2_with fail
          go_round
          case rel => exact ⟨j2 + 1, by omega, by go_num⟩
          case measure => simp [intOf]; omega
        · obtain rfl : j2 = N := by omega
          clear hlt2 hj2 c0 c2
          have hn999 := entries_no HT6.out (n := 999) (by decide) (by intro e; have := H999.out; unfold dirE at this; rw [e] at this; cases this)
          rw [H999.out] at hn999
          have H9 := Lib.hid hn999
          clear hn999
          rcases HI.out.1.two with ⟨q1, q2⟩ | q2
          · have hn2 := entries_no HT6.out (n := 2) (by decide) (by rw [q2]; decide)
            rw [show dirE T 2 = 2 from by unfold dirE; rw [q2]; rfl] at hn2
            obtain rfl : j2 = 0 := by rw [HN.out, q1]; rfl
            have H2 := Lib.hid hn2
            clear q1 q2 hn2
            go_wp2_with fail
            refine H2.out.mono ?_
            rintro e w8 ⟨rfl, rfl⟩
            go_wp2_with fail
            refine H9.out.mono ?_
            rintro e w8 ⟨rfl, rfl⟩
            go_wp2_with fail
            refine (name_any s _ Hs.out).mono ?_
            rintro e w8 ⟨rfl, hb8⟩
            have HB8 := Lib.hid (HC6.out.trans (hb8.mono HC6.out.size))
            clear hb8
            go_wp2_with fail
            refine (rname_any s _ Hs.out).mono ?_
            rintro e w9 ⟨rfl, hb9⟩
            have HB9 := Lib.hid (HB8.out.trans (hb9.mono HB8.out.size))
            clear hb9
            generalize nameB s.data.toList = bb
            go_wp2_with fail
            go_ret
            exact ⟨rfl, HB9.out⟩
          · have hn2 := entries_no HT6.out (n := 2) (by decide) (by rw [q2]; decide)
            rw [show dirE T 2 = 20 from by unfold dirE; rw [q2]; rfl] at hn2
            have H2 := Lib.hid hn2
            clear q2 hn2
            go_wp2_with fail
            refine H2.out.mono ?_
            rintro e w8 ⟨rfl, rfl⟩
            go_wp2_with fail
            refine H9.out.mono ?_
            rintro e w8 ⟨rfl, rfl⟩
            go_wp2_with fail
            refine (name_any s _ Hs.out).mono ?_
            rintro e w8 ⟨rfl, hb8⟩
            have HB8 := Lib.hid (HC6.out.trans (hb8.mono HC6.out.size))
            clear hb8
            go_wp2_with fail
            refine (rname_any s _ Hs.out).mono ?_
            rintro e w9 ⟨rfl, hb9⟩
            have HB9 := Lib.hid (HB8.out.trans (hb9.mono HB8.out.size))
            clear hb9
            generalize nameB s.data.toList = bb
            go_wp2_with fail
            go_ret
            exact ⟨rfl, HB9.out⟩
end Go.Proofs.Ytdlglllidolggaa.In
