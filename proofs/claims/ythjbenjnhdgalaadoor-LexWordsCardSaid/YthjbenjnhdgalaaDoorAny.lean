/- Any text: its words stand where they are told; or where it isn't right. -/
import Derived.Test.YthjbenjnhdgalaaDoorAnyM
import Derived.Test.YthjbenjnhdgalaaDoorAwake8
import Derived.Lib.IndexBytes
namespace Go.Proofs.YthjbenjnhdgalaaDoor
open Go.RowKit
theorem infoStr : (Tryd.prog.info? 9).map (fun i => (i.zero, i.size, i.bytes)) = some (some (.string ByteArray.empty), 1, 16) := by kernel_rfl
theorem cell_one_new (w : World) (T : TypeId) (v : Value) : ∀ j u, [v][j]? = some u → (w.alloc (.cells #[v] T)).cell? ((⟨w.heap.size, 0, none⟩ : Addr).add j) = some u := fun j u hj => by
  match j, hj with
  | 0, hj => simp at hj; subst hj; simp [Addr.add]
/-- Where the first loop stands: at the i-th byte, its line beginning at a. -/
def LinAt (S : Bs) (Ls : List Bs) (a i : Nat) : Prop :=
  (i ≤ S.length ∧ a ≤ i ∧ (∀ c ∈ (S.drop a).take (i - a), c ≠ 10) ∧ lines S = Ls ++ lines (S.drop a)) ∨ (i = S.length + 1 ∧ lines S = Ls)
theorem linAt_start (S : Bs) : LinAt S [] 0 0 := .inl ⟨Nat.zero_le _, Nat.le_refl _, by simp, by simp⟩
theorem linAt_on {S : Bs} {Ls : List Bs} {a i : Nat} {c : UInt8} (h : LinAt S Ls a i) (hc : S[i]? = some c) (h10 : c ≠ 10) : LinAt S Ls a (i + 1) := by
  obtain ⟨hi, e⟩ := List.getElem?_eq_some_iff.1 hc
  rcases h with ⟨h1, h2, h3, h4⟩ | ⟨h1, _⟩
  · refine .inl ⟨by omega, by omega, fun d hd => ?_, h4⟩
    rw [show i + 1 - a = (i - a) + 1 by omega, List.take_add_one, List.getElem?_drop, show a + (i - a) = i by omega, hc] at hd
    rcases List.mem_append.1 hd with hd | hd
    · exact h3 d hd
    · simp at hd; subst hd; exact h10
  · omega
theorem linAt_line {S : Bs} {Ls : List Bs} {a i : Nat} (h : LinAt S Ls a i) (hi : i ≤ S.length) (h10 : S[i]? = none ∨ S[i]? = some 10) :
    LinAt S (Ls ++ [(S.drop a).take (i - a)]) (i + 1) (i + 1) ∧ a ≤ i := by
  rcases h with ⟨h1, h2, h3, h4⟩ | ⟨h1, _⟩
  · refine ⟨?_, h2⟩
    rcases h10 with h10 | h10
    · have hl : i = S.length := by
        have := List.getElem?_eq_none_iff.1 h10; omega
      refine .inr ⟨by omega, ?_⟩
      have ht : (S.drop a).take (i - a) = S.drop a := List.take_of_length_le (by rw [List.length_drop]; omega)
      rw [h4, ht] 
      rw [ht] at h3
      rw [lines_end _ h3]
    · obtain ⟨hi', e⟩ := List.getElem?_eq_some_iff.1 h10
      refine .inl ⟨by omega, Nat.le_refl _, by simp, ?_⟩
      have hd : S.drop a = (S.drop a).take (i - a) ++ 10 :: S.drop (i + 1) := by
        have h5 := List.take_append_drop (i - a) (S.drop a)
        rw [List.drop_drop, show a + (i - a) = i by omega, List.drop_eq_getElem_cons hi', e] at h5
        exact h5.symm
      rw [h4]
      conv => lhs; rw [hd]
      rw [lines_plain _ _ h3, List.append_assoc]
      rfl
  · omega
theorem linAt_over {S : Bs} {Ls : List Bs} {a i : Nat} (h : LinAt S Ls a i) (hi : S.length < i) : lines S = Ls := by
  rcases h with ⟨h1, _⟩ | ⟨_, h2⟩
  · omega
  · exact h2
theorem linAt_le {S : Bs} {Ls : List Bs} {a i : Nat} (h : LinAt S Ls a i) : i ≤ S.length + 1 := by
  rcases h with ⟨h1, _⟩ | ⟨h2, _⟩ <;> omega
theorem linAt_line_a {S : Bs} {Ls : List Bs} {a i : Nat} (h : LinAt S Ls a i) (hi : i ≤ S.length) : a ≤ i := by
  rcases h with ⟨_, h2, _⟩ | ⟨h1, _⟩ <;> omega
theorem set_five {w3 wr : World} (w' : World) (g : Nat) (a b c d e : Value) (h : w3.grownBy wr (some g)) (hb : Below wr.heap.size wr w') :
    w3.grownBy (((((w'.setCell ⟨g, 0, none⟩ a).setCell ⟨g, 1, none⟩ b).setCell ⟨g, 2, none⟩ c).setCell ⟨g, 3, none⟩ d).setCell ⟨g, 4, none⟩ e) (some g) := by
  have h1 : w3.grownBy w' (some g) := ⟨hb.os.trans h.os, hb.tape.trans h.tape, hb.output.trans h.output, Nat.le_trans h.size hb.size, fun i hi hn => (hb.block i (Nat.lt_of_lt_of_le hi h.size)).trans (h.block i hi hn)⟩
  exact only_trans (only_trans (only_trans (only_trans (only_trans h1 (only_set _ g 0 a)) (only_set _ g 1 b)) (only_set _ g 2 c)) (only_set _ g 3 d)) (only_set _ g 4 e)
theorem chain_at {L : List Tok} {a x : Tok} {k : Nat} (h : chainT a L) (hx : L[k]? = some x) : follows (lastT a (L.take k)) x := by
  obtain ⟨h1, h2⟩ := List.getElem?_eq_some_iff.1 hx
  have h3 := List.take_append_drop k L
  rw [List.drop_eq_getElem_cons h1, h2] at h3
  rw [← h3, chain_app] at h
  exact h.2.1
theorem last_at {L : List Tok} {a x : Tok} {k : Nat} (hx : L[k]? = some x) : lastT a (L.take (k + 1)) = x := by
  rw [take_snoc' L k x hx, last_app]
  rfl
theorem Rd.grownR {w w' : World} {z n g : Nat} {A : Option Addr} {xs : List Value} (h : Rd w z n A xs) (hg : w.grownBy w' (some g)) (hA : n ≠ 0 → ∀ a, A = some a → a.block ≠ g) : Rd w' z n A xs :=
  (Seg.grownO h.seg hg (fun hn a ha e => hA hn a ha (Option.some.inj e).symm)).rd
theorem rd_block {w : World} {z n : Nat} {A : Option Addr} {xs : List Value} (h : Rd w z n A xs) : n ≠ 0 → ∀ a, A = some a → a.block < w.heap.size := by
  intro hn a ha
  rcases h.at_ with e | ⟨b, o, e, hl, _⟩
  · exact absurd e hn
  · rw [ha] at e; cases e; exact hl
theorem lexL_len (m : Nat) : ∀ (ls : List Bs) (k : Nat) (acc : List Tok), (∀ l ∈ ls, l.length ≤ m) → (lexL ls k acc).1.length ≤ acc.length + ls.length * (m + 1)
  | [], _, _, _ => by simp [lexL]
  | l :: ls, k, acc, h => by
    rw [lexL]
    split
    · simp
    · have ih := lexL_len m ls (k + 1) (acc ++ (lineB (k + 1) l).1) (fun x hx => h x (List.mem_cons_of_mem _ hx))
      have h1 := lineB_len (k + 1) l
      have h2 := h l (by simp)
      rw [List.length_append] at ih
      rw [List.length_cons, Nat.add_mul]
      omega
theorem lexB_len (s : Bs) (m : Nat) (hs : s.length ≤ m) (hm : m ≤ 400) : (lexB s).1.length ≤ 200000 := by
  unfold lexB
  split
  · simp
  · have h1 := lexL_len m (lines s) 0 [] (fun l hl => Nat.le_trans (lines_mem s l hl).1 hs)
    have h2 := lines_len s
    have h3 : (lines s).length * (m + 1) ≤ 401 * 401 := Nat.mul_le_mul (by omega) (by omega)
    simp only [List.length_nil] at h1
    omega
set_option maxHeartbeats 4000000 in
set_option maxRecDepth 100000 in
theorem walk_lexAny (s : ByteArray) (w : World) (_hsm : s.size ≤ maxLen) (hE : Env w) : Calls Tryd.prog 4 #[.string s] w (Yes w) := by
  have HE := Lib.hid hE
  obtain ⟨i0, hi0, hz0, hz1, hz2⟩ := info_parts infoStr
  by_cases hs : s.size ≤ 400
  case neg =>
    have h1 : (400 : Int) < (s.size : Int) := by omega
    have h2 : ¬ (s.size : Int) ≤ 400 := by omega
    go_enter Tryd.func4, Tryd.ntmps4
    go_wp2_with fail
    refine (awake_any _ HE.out).mono ?_
    rintro e w1 ⟨rfl, hb1⟩
    have HB1 := Lib.hid hb1
    clear hb1
    go_wp2_with fail
    go_ret
    exact ⟨rfl, HB1.out⟩
  have h1 : ¬ (400 : Int) < (s.size : Int) := by omega
  have h2 : (s.size : Int) ≤ 400 := by omega
  have hsz := Lib.size_eq s
  obtain ⟨S, hS⟩ : ∃ S, S = s.data.toList := ⟨_, rfl⟩
  rw [← hS] at hsz
  have Hlex := Lib.hid (fun W E => lex_any s W E)
  rw [← hS] at Hlex
  have Hs := Lib.hid hS
  have Hsz := Lib.hid hsz
  clear hE hS hsz
  go_enter Tryd.func4, Tryd.ntmps4
  go_wp2_with fail
  refine (awake_any _ HE.out).mono ?_
  rintro e w1 ⟨rfl, hb1⟩
  have HB1 := Lib.hid hb1
  clear hb1
  go_wp2_with fail
  go_loopw [3, 4, 5] (fun v av iv wr => ∃ (a i : Nat) (Ls : List Bs), av = .int .i64 a ∧ iv = .int .i64 i ∧ a ≤ 401 ∧ i ≤ s.size + 1 ∧ Ls.length ≤ i ∧ Hid (LinAt S Ls a i) ∧ Hid (wr.ownsRow w.heap.size 9 1 v Ls.length (strs Ls)) ∧ Hid (Below w.heap.size w wr)) (fun _ _ iv _ => s.size + 1 - (intOf iv).toNat)
  case atStart => exact ⟨0, 0, [], rfl, rfl, by omega, by omega, by simp, linAt_start S, World.ownsRow_nil _ _ _ _, HB1.out⟩
  case round =>
    obtain ⟨a, i, Ls, rfl, rfl, ha, hi, hLs, HA, HO, HB⟩ := hrel
    clear HB1
    by_cases hlt : i ≤ s.size
    · obtain ⟨Av, cv, rfl, hcv, _⟩ := own_slice HO.out
      have Hbw := Lib.hid HB.out.size
      have hal := (linAt_line_a HA.out (by have := Hsz.out; omega))
      have Hx := Lib.hid (show s.extract a i = ⟨((S.drop a).take (i - a)).toArray⟩ by
        apply ByteArray.ext
        apply Array.toList_inj.1
        rw [extract_ext, Hs.out]
        rfl)
      have hi401 : i ≤ 400 := by omega
      by_cases hend : i = s.size
      · have HA2 := Lib.hid (linAt_line HA.out (by have := Hsz.out; omega) (.inl (List.getElem?_eq_none_iff.2 (by have := Hsz.out; omega)))).1
        obtain rfl := hend
        go_wp2_with (at_builtin; refine wpList_append_own_at _ rfl (.tmp 33) (.tmp 38) 36 rfl w.heap.size 9 i0 (.string ByteArray.empty) 1 16 Tryd.underlying36 hi0 hz0 hz1 hz2 rfl (by decide) _ Ls.length (strs Ls) rfl (HO.out.alloc _) ⟨wr.heap.size, 0, none⟩ 1 1 [Value.string (s.extract a s.size)] rfl rfl (cell_one_new _ _ _) (by intro u hu; simp at hu; subst hu; rfl) (by unfold maxLen; omega) (by omega) (by simp; exact Nat.le_succ_of_le Hbw.out) ?_; intro v' w5 hown' hgrow _ hat; have HO5 := Lib.hid hown'; have HB5 := Lib.hid ((HB.out.alloc HB.out.size (.cells #[.string (s.extract a s.size)] 9)).grown hgrow (by simp; exact Nat.le_succ_of_le Hbw.out) (fun g hg => (HO.out.lt g hg).1)); clear hown' hgrow hat)
        go_roundw
        case rel => exact ⟨s.size + 1, s.size + 1, Ls ++ [(S.drop a).take (s.size - a)], by go_num, by go_num, by omega, by omega, by simp; omega, HA2.out, by rw [← strs_snoc, ← Hx.out, List.length_append]; exact HO5.out, HB5.out⟩
        case measure => simp [intOf]
      · have hlt2 : i < s.size := by omega
        have g1 : ((i : Int) == (s.size : Int)) = false := by rw [beq_eq_false_iff_ne]; omega
        obtain ⟨c, hc⟩ : ∃ c, S[i]? = some c := ⟨_, List.getElem?_eq_getElem (by have := Hsz.out; omega)⟩
        have hidx : ∀ W : World, (Instr.index 9 (.string s) (.int .i64 (i : Int))).run Tryd.prog W = .ok (.int .u8 (c.toNat : Int)) W := fun W => by
          have h3 := idx_at S i c hc W
          rwa [show (⟨S.toArray⟩ : ByteArray) = s by rw [Hs.out]] at h3
        by_cases h10 : c = 10
        · have g2 : ((c.toNat : Int) == 10) = true := by rw [h10]; rfl
          have HA2 := Lib.hid (linAt_line HA.out (by have := Hsz.out; omega) (.inr (by rw [hc, h10]))).1
          clear hend hc h10
          go_wp2_with (at_builtin; refine wpList_append_own_at _ rfl (.tmp 33) (.tmp 38) 36 rfl w.heap.size 9 i0 (.string ByteArray.empty) 1 16 Tryd.underlying36 hi0 hz0 hz1 hz2 rfl (by decide) _ Ls.length (strs Ls) rfl (HO.out.alloc _) ⟨wr.heap.size, 0, none⟩ 1 1 [Value.string (s.extract a i)] rfl rfl (cell_one_new _ _ _) (by intro u hu; simp at hu; subst hu; rfl) (by unfold maxLen; omega) (by omega) (by simp; exact Nat.le_succ_of_le Hbw.out) ?_; intro v' w5 hown' hgrow _ hat; have HO5 := Lib.hid hown'; have HB5 := Lib.hid ((HB.out.alloc HB.out.size (.cells #[.string (s.extract a i)] 9)).grown hgrow (by simp; exact Nat.le_succ_of_le Hbw.out) (fun g hg => (HO.out.lt g hg).1)); clear hown' hgrow hat)
          go_roundw
          case rel => exact ⟨i + 1, i + 1, Ls ++ [(S.drop a).take (i - a)], by go_num, by go_num, by omega, by omega, by simp; omega, HA2.out, by rw [← strs_snoc, ← Hx.out, List.length_append]; exact HO5.out, HB5.out⟩
          case measure => simp [intOf]; omega
        · have g2 : ((c.toNat : Int) == 10) = false := by
            rw [beq_eq_false_iff_ne]
            intro e
            exact h10 (UInt8.toNat_inj.1 (by have h5 : (10 : UInt8).toNat = 10 := rfl; omega))
          have HA2 := Lib.hid (linAt_on HA.out hc h10)
          clear hend hc h10
          go_wp2_with fail
          go_roundw
          case rel => exact ⟨a, i + 1, Ls, rfl, by go_num, ha, by omega, by omega, HA2.out, HO.out, HB.out⟩
          case measure => simp [intOf]; omega
    · obtain rfl : i = s.size + 1 := by omega
      obtain ⟨Av, cv, rfl, hcv, hRd, hAn⟩ := own_slice HO.out
      have HL := Lib.hid (linAt_over HA.out (by have := Hsz.out; omega))
      have HLm := Lib.hid (show ∀ l ∈ Ls, l.length ≤ s.size from fun l hl => by have := (lines_mem S l (by rw [HL.out]; exact hl)).1; have := Hsz.out; omega)
      have HK := Lib.hid (lexB_ok S (by have := Hsz.out; omega))
      rw [HL.out] at HK
      obtain ⟨R, hR⟩ : ∃ R, R = lexB S := ⟨_, rfl⟩
      rw [← hR] at HK Hlex
      have HRd := Lib.hid hRd
      have HLb := Lib.hid (show R.1.length ≤ 200000 by rw [hR]; exact lexB_len S 400 (by have := Hsz.out; omega) (Nat.le_refl _))
      obtain ⟨L, xl, xc, xe⟩ := R
      clear hR hRd HA hi
      go_wp2_with fail
      refine (Hlex.out _ (HE.out.below HB.out)).mono ?_
      rintro e w2 ⟨v2, rfl, hown2, hb2⟩
      obtain ⟨A2, c2, rfl, hc2, hR2, hn2⟩ := own_slice hown2
      have hA2 := rd_block hR2
      have hAv := rd_block (HRd.out.below hb2)
      have Hws := Lib.hid (Nat.le_trans HB.out.size hb2.size)
      have hb3 := (Below.refl w2.heap.size w2).alloc (Nat.le_refl _) (.cells #[.int .i64 xl, .int .i64 xc, .int .i64 xe] 39)
      have HR2 := Lib.hid (hR2.below hb3)
      have HRd2 := Lib.hid ((HRd.out.below hb2).below hb3)
      have HB2 := Lib.hid ((HB.out.trans (hb2.mono HB.out.size)).alloc (Nat.le_trans HB.out.size hb2.size) (.cells #[.int .i64 xl, .int .i64 xc, .int .i64 xe] 39))
      have HX := Lib.hid (bk_new_at w2 39 (l := [.int .i64 xl, .int .i64 xc, .int .i64 xe]) #[.int .i64 xl, .int .i64 xc, .int .i64 xe] rfl rfl)
      simp only [Wr.val]
      clear hb3 hR2 hown2 hb2 HRd HO HB
      by_cases hx : (⟨xl, xc, xe⟩ : Wr) = noW
      · have hQ : ∀ W : World, (binOp .neq 39 (.agg #[.int .i64 xl, .int .i64 xc, .int .i64 xe]) (.agg #[.int .i64 0, .int .i64 0, .int .i64 0])).run Tryd.prog W = .ok (.bool false) W := fun W => by have h := neq_wr ⟨xl, xc, xe⟩ noW W; rw [decide_eq_true hx] at h; exact h
        have HG : Hid (goodA Ls L) := Lib.hid (HK.out.2 hx)
        have d0 := HX.out.cell 0 rfl
        have d1 := HX.out.cell 1 rfl
        have d2 := HX.out.cell 2 rfl
        clear hx HK
        go_wp2_with fail
        have hb4 := (Below.refl (w2.heap.size + 1) (w2.alloc (.cells #[.int .i64 xl, .int .i64 xc, .int .i64 xe] 39))).alloc (by simp) (.cells #[.int .u8 0, .string ⟨#[]⟩, .int .u64 0, .int .i64 0, .int .i64 0] 35)
        have HT := Lib.hid (bk_new_at (w2.alloc (.cells #[.int .i64 xl, .int .i64 xc, .int .i64 xe] 39)) 35 (n := w2.heap.size + 1) (l := zTok.cells) #[.int .u8 0, .string ⟨#[]⟩, .int .u64 0, .int .i64 0, .int .i64 0] rfl (by simp))
        have HR4 := Lib.hid (HR2.out.kept (by simp) hb4)
        have HRd4 := Lib.hid (HRd2.out.kept (by simp) hb4)
        have HB4 := Lib.hid (HB2.out.alloc HB2.out.size (.cells #[.int .u8 0, .string ⟨#[]⟩, .int .u64 0, .int .i64 0, .int .i64 0] 35))
        have HA2 := Lib.hid hA2
        have HAv := Lib.hid hAv
        clear hb4 HR2 HRd2 HB2 HX d0 d1 d2 hQ
        obtain ⟨b8, hb8⟩ : ∃ b8, b8 = w2.heap.size + 1 := ⟨_, rfl⟩
        have Hb8 := Lib.hid hb8
        rw [← hb8] at HT ⊢
        have Hbw := Lib.hid (show w.heap.size ≤ b8 by have := Hws.out; omega)
        clear hb8
        revert HT HR4 HRd4 HB4
        generalize World.alloc _ _ = w3
        intro HR4 HRd4 HB4 HT
        have hLb : L.length ≤ 200000 := HLb.out
        go_loopw [10, 11, 100] (fun _ _ iv wr => ∃ k : Nat, iv = .int .i64 k ∧ k ≤ L.length ∧ Hid (Bk wr b8 35 (lastT zTok (L.take k)).cells) ∧ Hid (w3.grownBy wr (some b8))) (fun _ _ iv _ => L.length - (intOf iv).toNat)
        case atStart => exact ⟨0, rfl, Nat.zero_le _, HT.out, only_refl _ _⟩
        case round =>
          obtain ⟨k, rfl, hk, HK, Hgr⟩ := hrel
          clear HT
          by_cases hlt : k < L.length
          · obtain ⟨x, hx⟩ : ∃ x, L[k]? = some x := ⟨_, List.getElem?_eq_getElem hlt⟩
            obtain ⟨b, o, hbo, hbl, hcell⟩ := (HR4.out.grownR Hgr.out (fun hn a ha e => by have := HA2.out hn a ha; have := Hb8.out; omega)).pos (by omega)
            subst hbo
            obtain ⟨c0, c1, c2', c3, c4⟩ := five_cells hcell hx
            have Hf := chain_at HG.out.2.1 hx
            obtain ⟨o1, o2, o3, l, o4, o6, o5⟩ := HG.out.1 x (List.mem_of_getElem? hx)
            have HL1 := Lib.hid (last_at (a := zTok) hx)
            obtain ⟨y, hy⟩ : ∃ y, y = lastT zTok (L.take k) := ⟨_, rfl⟩
            rw [← hy] at HK Hf
            obtain ⟨yk, yt, yn, yl, yc⟩ := y
            obtain ⟨xk, xt, xn, xn2, xcol⟩ := x
            obtain ⟨Hf1, Hf2⟩ := Hf
            simp only at c0 c1 c2' c3 c4 o1 o2 o3 o4 o5 o6 Hf1 Hf2
            have t0 := HK.out.cell 0 rfl
            have t1 := HK.out.cell 1 rfl
            have t2 := HK.out.cell 2 rfl
            have t3 := HK.out.cell 3 rfl
            have t4 := HK.out.cell 4 rfl
            have f0 := HK.out.fz 0
            have f1 := HK.out.fz 1
            have f2 := HK.out.fz 2
            have f3 := HK.out.fz 3
            have f4 := HK.out.fz 4
            have h8 := HK.out.lt
            obtain ⟨bl, ol, hbo, hbll, hcl⟩ := (HRd4.out.grownR Hgr.out (fun hn a ha e => by have := HAv.out hn a ha; have := Hb8.out; omega)).pos (by omega)
            subst hbo
            obtain ⟨q, hq⟩ : ∃ q, q = xn2 - 1 := ⟨_, rfl⟩
            rw [← hq] at o4
            have hqi : ((xn2 : Int) - 1) = (q : Int) := by omega
            have hcl0 := hcl q _ (strs_at o4)
            have hql : q < Ls.length := by omega
            have hxl : xn2 ≤ 402 := by omega
            have hl400 : l.length ≤ 400 := by have := HLm.out l (List.mem_of_getElem? o4); omega
            have hsl : (⟨l.toArray⟩ : ByteArray).size = l.length := by rw [Lib.size_eq]
            have hst : (⟨xt.toArray⟩ : ByteArray).size = xt.length := by rw [Lib.size_eq]
            have hsy : (⟨yt.toArray⟩ : ByteArray).size = yt.length := by rw [Lib.size_eq]
            have g1 : ¬ (xn2 : Int) < 1 := by omega
            have g2 : ¬ (Ls.length : Int) < (xn2 : Int) := by omega
            have g3 : ¬ (xn2 : Int) < (yl : Int) := by omega
            have e1 : decide ((xn2 : Int) < 1) = false := decide_eq_false g1
            have e2 : decide ((Ls.length : Int) < (xn2 : Int)) = false := decide_eq_false g2
            have e3 : decide ((xn2 : Int) < (yl : Int)) = false := decide_eq_false g3
            have Hx := Lib.hid hx
            have Hq := Lib.hid hq
            clear hx hq hcell hcl hy
            by_cases hsame : yl = xn2
            · have g4 : ((xn2 : Int) == (yl : Int)) = true := by rw [hsame]; simp
              have h9 := Hf2 hsame
              obtain ⟨z, hz⟩ : ∃ z, z = yc + yt.length := ⟨_, rfl⟩
              have hzi : ((yc : Int) + (yt.length : Int)) = (z : Int) := by omega
              have g5 : ¬ (xcol : Int) < (z : Int) := by omega
              have e5 : decide ((xcol : Int) < (z : Int)) = false := decide_eq_false g5
              have hzb : z ≤ 402 := by omega
              clear hsame Hf2 h9 hz
              by_cases hk0 : xk = 0
              · subst hk0
                go_wp2_with fail
                go_quiet (fail)
                go_wp2_with fail
                have HF := Lib.hid (show Bk _ b8 35 [.int .u8 0, .string ⟨xt.toArray⟩, .int .u64 xn, .int .i64 xn2, .int .i64 xcol] from (((((((HK.out.kept ((Below.refl wr.heap.size wr).alloc (Nat.le_refl _) (.cells #[.int .u8 0, .string ⟨xt.toArray⟩, .int .u64 xn, .int .i64 xn2, .int .i64 xcol] 35))).drewN nq).set 0 (.int .u8 0)).set 1 (.string ⟨xt.toArray⟩)).set 2 (.int .u64 xn)).set 3 (.int .i64 xn2)).set 4 (.int .i64 xcol)))
                have HGf := Lib.hid (set_five ((wr.alloc (.cells #[.int .u8 0, .string ⟨xt.toArray⟩, .int .u64 xn, .int .i64 xn2, .int .i64 xcol] 35)).drewN nq) b8 (.int .u8 0) (.string ⟨xt.toArray⟩) (.int .u64 xn) (.int .i64 xn2) (.int .i64 xcol) Hgr.out (below_drewN ((Below.refl wr.heap.size wr).alloc (Nat.le_refl _) _) nq))
                go_roundw
                case rel => exact ⟨k + 1, by go_num, by omega, by rw [HL1.out]; exact HF.out, HGf.out⟩
                case measure => simp [intOf]; omega
              · have k1 : ((xk : Int) != 0) = true := by simp; omega
                obtain ⟨s1, s2, s3⟩ := o5 hk0
                simp only at s1 s2 s3
                obtain ⟨p, hp⟩ : ∃ p, p = xcol - 1 := ⟨_, rfl⟩
                rw [← hp] at s2 s3
                have hpi : ((xcol : Int) - 1) = (p : Int) := by omega
                have hpw : IntKind.i64.wrap ((xcol : Int) - 1) = (p : Int) := by rw [hpi, wrap_i]; unfold wrap64; omega
                obtain ⟨e, he⟩ : ∃ e, e = p + xt.length := ⟨_, rfl⟩
                have hei : ((p : Int) + (xt.length : Int)) = (e : Int) := by omega
                have hew : IntKind.i64.wrap ((p : Int) + (xt.length : Int)) = (e : Int) := by rw [hei, wrap_i]; unfold wrap64; omega
                have hxs : (⟨l.toArray⟩ : ByteArray).extract p e = ⟨xt.toArray⟩ := by
                  apply ByteArray.ext
                  apply Array.toList_inj.1
                  rw [extract_ext, he]
                  show ((l.drop p).take (p + xt.length - p)) = xt
                  rw [Nat.add_sub_cancel_left]
                  exact s3
                have hpe : p ≤ e := by omega
                have hel : e ≤ l.length := by omega
                have k2 : xt.isEmpty = false := by simp [s1]
                clear s1 s2 s3 hp he
                go_wp2_with fail
                go_quiet (fail)
                go_wp2_with fail
                have HF := Lib.hid (show Bk _ b8 35 [.int .u8 xk, .string ⟨xt.toArray⟩, .int .u64 xn, .int .i64 xn2, .int .i64 xcol] from (((((((HK.out.kept ((Below.refl wr.heap.size wr).alloc (Nat.le_refl _) (.cells #[.int .u8 xk, .string ⟨xt.toArray⟩, .int .u64 xn, .int .i64 xn2, .int .i64 xcol] 35))).drewN nq).set 0 (.int .u8 xk)).set 1 (.string ⟨xt.toArray⟩)).set 2 (.int .u64 xn)).set 3 (.int .i64 xn2)).set 4 (.int .i64 xcol)))
                have HGf := Lib.hid (set_five ((wr.alloc (.cells #[.int .u8 xk, .string ⟨xt.toArray⟩, .int .u64 xn, .int .i64 xn2, .int .i64 xcol] 35)).drewN nq) b8 (.int .u8 xk) (.string ⟨xt.toArray⟩) (.int .u64 xn) (.int .i64 xn2) (.int .i64 xcol) Hgr.out (below_drewN ((Below.refl wr.heap.size wr).alloc (Nat.le_refl _) _) nq))
                go_roundw
                case rel => exact ⟨k + 1, by go_num, by omega, by rw [HL1.out]; exact HF.out, HGf.out⟩
                case measure => simp [intOf]; omega
            · have g4 : ((xn2 : Int) == (yl : Int)) = false := by rw [beq_eq_false_iff_ne]; omega
              clear hsame Hf2
              by_cases hk0 : xk = 0
              · subst hk0
                go_wp2_with fail
                go_quiet (fail)
                go_wp2_with fail
                have HF := Lib.hid (show Bk _ b8 35 [.int .u8 0, .string ⟨xt.toArray⟩, .int .u64 xn, .int .i64 xn2, .int .i64 xcol] from (((((((HK.out.kept ((Below.refl wr.heap.size wr).alloc (Nat.le_refl _) (.cells #[.int .u8 0, .string ⟨xt.toArray⟩, .int .u64 xn, .int .i64 xn2, .int .i64 xcol] 35))).drewN nq).set 0 (.int .u8 0)).set 1 (.string ⟨xt.toArray⟩)).set 2 (.int .u64 xn)).set 3 (.int .i64 xn2)).set 4 (.int .i64 xcol)))
                have HGf := Lib.hid (set_five ((wr.alloc (.cells #[.int .u8 0, .string ⟨xt.toArray⟩, .int .u64 xn, .int .i64 xn2, .int .i64 xcol] 35)).drewN nq) b8 (.int .u8 0) (.string ⟨xt.toArray⟩) (.int .u64 xn) (.int .i64 xn2) (.int .i64 xcol) Hgr.out (below_drewN ((Below.refl wr.heap.size wr).alloc (Nat.le_refl _) _) nq))
                go_roundw
                case rel => exact ⟨k + 1, by go_num, by omega, by rw [HL1.out]; exact HF.out, HGf.out⟩
                case measure => simp [intOf]; omega
              · have k1 : ((xk : Int) != 0) = true := by simp; omega
                obtain ⟨s1, s2, s3⟩ := o5 hk0
                simp only at s1 s2 s3
                obtain ⟨p, hp⟩ : ∃ p, p = xcol - 1 := ⟨_, rfl⟩
                rw [← hp] at s2 s3
                have hpi : ((xcol : Int) - 1) = (p : Int) := by omega
                have hpw : IntKind.i64.wrap ((xcol : Int) - 1) = (p : Int) := by rw [hpi, wrap_i]; unfold wrap64; omega
                obtain ⟨e, he⟩ : ∃ e, e = p + xt.length := ⟨_, rfl⟩
                have hei : ((p : Int) + (xt.length : Int)) = (e : Int) := by omega
                have hew : IntKind.i64.wrap ((p : Int) + (xt.length : Int)) = (e : Int) := by rw [hei, wrap_i]; unfold wrap64; omega
                have hxs : (⟨l.toArray⟩ : ByteArray).extract p e = ⟨xt.toArray⟩ := by
                  apply ByteArray.ext
                  apply Array.toList_inj.1
                  rw [extract_ext, he]
                  show ((l.drop p).take (p + xt.length - p)) = xt
                  rw [Nat.add_sub_cancel_left]
                  exact s3
                have hpe : p ≤ e := by omega
                have hel : e ≤ l.length := by omega
                have k2 : xt.isEmpty = false := by simp [s1]
                clear s1 s2 s3 hp he
                go_wp2_with fail
                go_quiet (fail)
                go_wp2_with fail
                have HF := Lib.hid (show Bk _ b8 35 [.int .u8 xk, .string ⟨xt.toArray⟩, .int .u64 xn, .int .i64 xn2, .int .i64 xcol] from (((((((HK.out.kept ((Below.refl wr.heap.size wr).alloc (Nat.le_refl _) (.cells #[.int .u8 xk, .string ⟨xt.toArray⟩, .int .u64 xn, .int .i64 xn2, .int .i64 xcol] 35))).drewN nq).set 0 (.int .u8 xk)).set 1 (.string ⟨xt.toArray⟩)).set 2 (.int .u64 xn)).set 3 (.int .i64 xn2)).set 4 (.int .i64 xcol)))
                have HGf := Lib.hid (set_five ((wr.alloc (.cells #[.int .u8 xk, .string ⟨xt.toArray⟩, .int .u64 xn, .int .i64 xn2, .int .i64 xcol] 35)).drewN nq) b8 (.int .u8 xk) (.string ⟨xt.toArray⟩) (.int .u64 xn) (.int .i64 xn2) (.int .i64 xcol) Hgr.out (below_drewN ((Below.refl wr.heap.size wr).alloc (Nat.le_refl _) _) nq))
                go_roundw
                case rel => exact ⟨k + 1, by go_num, by omega, by rw [HL1.out]; exact HF.out, HGf.out⟩
                case measure => simp [intOf]; omega
          · obtain rfl : k = L.length := by omega
            have HT9 := HG.out.2.2
            rw [List.take_of_length_le (Nat.le_refl _)] at HK
            obtain ⟨y, hy⟩ : ∃ y, y = lastT zTok L := ⟨_, rfl⟩
            rw [← hy] at HK HT9
            have c0 := HK.out.cell 0 rfl
            have h8 := HK.out.lt
            have HBf := Lib.hid (HB4.out.grown Hgr.out HB4.out.size (fun g hg => by cases hg; exact Hbw.out))
            clear hy
            by_cases hL0 : L.length = 0
            · have g1 : ((L.length : Int) == 0) = true := by rw [hL0]; rfl
              go_wp2_with fail
              go_ret
              exact ⟨rfl, HBf.out⟩
            · have g1 : ((L.length : Int) == 0) = false := by rw [beq_eq_false_iff_ne]; omega
              have hyk : y.k = 0 := by
                rcases HT9 with e | e
                · exact absurd (by rw [e]; rfl) hL0
                · exact e
              have c0' : wr.cell? ⟨b8, 0, none⟩ = some (.int .u8 0) := by rw [c0, hyk]; rfl
              clear c0 HT9
              go_wp2_with fail
              go_ret
              exact ⟨rfl, HBf.out⟩
      · have hQ : ∀ W : World, (binOp .neq 39 (.agg #[.int .i64 xl, .int .i64 xc, .int .i64 xe]) (.agg #[.int .i64 0, .int .i64 0, .int .i64 0])).run Tryd.prog W = .ok (.bool true) W := fun W => by have h := neq_wr ⟨xl, xc, xe⟩ noW W; rw [decide_eq_false hx] at h; exact h
        obtain ⟨hL0, i1, i2, i3, i4, l, i5, i6⟩ := HK.out.1 hx
        simp only at hL0 i1 i2 i3 i4 i5 i6
        subst hL0
        have d0 := HX.out.cell 0 rfl
        have d1 := HX.out.cell 1 rfl
        have d2 := HX.out.cell 2 rfl
        obtain ⟨b, o, rfl, hbs, hcell⟩ := HRd2.out.pos (by omega)
        obtain ⟨q, hq⟩ : ∃ q, q = xl - 1 := ⟨_, rfl⟩
        rw [← hq] at i5
        have hqi : ((xl : Int) - 1) = (q : Int) := by omega
        have hc := hcell q _ (strs_at i5)
        have hsl : (⟨l.toArray⟩ : ByteArray).size = l.length := by rw [Lib.size_eq]
        clear hx hcell
        have ge1 : (1 : Int) ≤ (xl : Int) := by omega
        have ge2 : (xl : Int) ≤ (Ls.length : Int) := by omega
        have ge3 : (1 : Int) ≤ (xc : Int) := by omega
        have ge4 : (xc : Int) ≤ (l.length : Int) := by omega
        have de1 : decide ((1 : Int) ≤ (xl : Int)) = true := decide_eq_true ge1
        have de2 : decide ((xl : Int) ≤ (Ls.length : Int)) = true := decide_eq_true ge2
        have de3 : decide ((1 : Int) ≤ (xc : Int)) = true := decide_eq_true ge3
        have de4 : decide ((xc : Int) ≤ (l.length : Int)) = true := decide_eq_true ge4
        have hql : q < Ls.length := by omega
        have Hq := Lib.hid hq
        have hqw : IntKind.i64.wrap ((xl : Int) - 1) = (q : Int) := by rw [hqi, wrap_i]; unfold wrap64; omega
        have hxb : xl ≤ 402 := by omega
        clear i1 i2 i3 i5 i6 hq
        have key : ((xe : Int) == 204) = true ∨ (((xe : Int) == 204) = false ∧ ((xe : Int) == 36) = true) ∨ (((xe : Int) == 204) = false ∧ ((xe : Int) == 36) = false ∧ ((xe : Int) == 202) = true) := by
          rcases i4 with rfl | rfl | rfl <;> decide
        clear i4
        rcases key with k1 | ⟨k1, k2⟩ | ⟨k1, k2, k3⟩
        · go_wp2_with fail
          go_quiet (fail)
          go_wp2_with fail
          go_ret
          exact ⟨rfl, below_drewN HB2.out _⟩
        · go_wp2_with fail
          go_quiet (fail)
          go_wp2_with fail
          go_ret
          exact ⟨rfl, below_drewN HB2.out _⟩
        · go_wp2_with fail
          go_quiet (fail)
          go_wp2_with fail
          go_ret
          exact ⟨rfl, below_drewN HB2.out _⟩
end Go.Proofs.YthjbenjnhdgalaaDoor
