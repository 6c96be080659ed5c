/- MountBack: the walk. -/
import Derived.Test.YtmbgmbheonpamaaBkM
namespace Go.Proofs.Ytmbgmbheonpamaa.Mt
open Go.RowKit Go.Maps Go.WideElems In
theorem seen_pl {w : World} {B tb : Nat} {M : Ms} {last : Int} {A c : Nat} (h : MtR w B tb M last A c) (x y : Int) {q : Pl} (hq : seenF M (x, y) = q) : Calls Try.prog 36 #[.pointer (some ⟨tb, 0, none⟩), .agg #[.int .i64 x, .int .u16 y]] w fun e w' => e = .returned (.agg #[.int .i64 q.1, .int .u16 q.2]) ∧ Below w.heap.size w w' := by
  rw [← hq]; exact seen_any h (x, y)
theorem down_pl {w : World} {B tb : Nat} {M : Ms} {last : Int} {A c : Nat} (h : MtR w B tb M last A c) (x y : Int) {q : Pl} (hq : downF M (x, y) = some q) : Calls Try.prog 34 #[.pointer (some ⟨tb, 0, none⟩), .agg #[.int .i64 x, .int .u16 y]] w fun e w' => e = .returned (.tuple #[.agg #[.int .i64 q.1, .int .u16 q.2], .bool true]) ∧ Below w.heap.size w w' := by
  have := down_any h (x, y)
  unfold DownP at this
  rw [hq] at this
  exact this
/-- Places that may be handed over. -/
theorem tip_small {y : Int} (hy : 0 ≤ y ∧ y ≤ 65535) : ∀ {L : List Int}, L.length ≤ 20 → (∀ r ∈ L, 0 ≤ r ∧ r ≤ 65535) → InR (tipF (0, y) L).1 ∧ 0 ≤ (tipF (0, y) L).2 ∧ (tipF (0, y) L).2 ≤ 65535
  | [], _, _ => ⟨⟨by show (-9223372036854775808 : Int) ≤ 0; decide, by show (0 : Int) ≤ 9223372036854775807; decide⟩, hy⟩
  | r :: L, h, hr => ⟨⟨by show -9223372036854775808 ≤ ((L.length + 1 : Nat) : Int); omega, by show ((L.length + 1 : Nat) : Int) ≤ 9223372036854775807; simp at h; omega⟩, hr r (by simp)⟩
theorem bind_pl {w : World} {B tb : Nat} {M : Ms} {last : Int} {A c : Nat} (h : MtR w B tb M last A c) (root : Int) (hroot : 0 ≤ root ∧ root ≤ 65535) (p : Pl) (hp : InR p.1 ∧ 0 ≤ p.2 ∧ p.2 ≤ 65535) (hl : last + 1 ≤ 1000000000) {a b : Int} (ha : p.1 = a) (hb : p.2 = b) : Calls Try.prog 25 #[.pointer (some ⟨tb, 0, none⟩), .int .u16 root, .agg #[.int .i64 a, .int .u16 b]] w (BindP B tb M last root p w) := by
  subst ha hb
  exact bind_any h root hroot p hp hl
set_option maxRecDepth 100000 in
set_option maxHeartbeats 8000000 in
theorem walk_mountBack (x : Option Addr) (len cap : Nat) (z : List Int) (a : Int) (w : World) (hx : IsRow .u8 w x len cap z) (ha : (Lit.int .u8 a).wf = true) :
    Calls Try.prog 6 #[.slice x len cap, .int .u8 a] w (BoP true w) := by
  obtain ⟨ha0, ha1⟩ := bounds_u8 ha
  obtain ⟨l, hl, hlb, hrd, hlen⟩ := row_u8 hx
  obtain ⟨y, hy⟩ : ∃ y, y = (2 + a) % 256 := ⟨_, rfl⟩
  have hy0 : 0 ≤ y := by omega
  have hy1 : y ≤ 255 := by omega
  have hw8 : IntKind.u8.wrap (2 + a) = y := by rw [hy]; rfl
  have HL := Lib.hid hl
  have HLb := Lib.hid hlb
  have HR := Lib.hid hrd
  unfold maxLen at hlen
  clear ha hx hl hlb hrd hy
  go_enter Try.func6, Try.ntmps6
  go_wp2_with fail
  refine (awake_any w).mono ?_
  rintro e w1 ⟨rfl, hb1'⟩
  have HB := Lib.hid hb1'
  have HR1 := Lib.hid (HR.out.below hb1')
  clear hb1'
  go_wp2_with fail
  refine (new_any w1).mono ?_
  rintro e w2 ⟨tb, A, c, rfl, h, hb2⟩
  have HC2 := Lib.hid hb2
  have HR2 := Lib.hid (HR1.out.below hb2)
  have HM2 := Lib.hid (show Mtb w2 w1.heap.size tb (BS (0, y) []) (([] : List Int).length : Nat) from ⟨A, c, h⟩)
  clear hb2 h
  go_wp2_with fail
  have HK2 := Lib.hid (Bk.new w2 74 #[.int .i64 0, .int .u16 y] (l := [.int .i64 0, .int .u16 y]) rfl)
  have HM3 := Lib.hid (HM2.out.below (oneb w2 (.cells #[.int .i64 0, .int .u16 y] 74)))
  have HC3 := Lib.hid (HC2.out.trans ((oneb w2 (.cells #[.int .i64 0, .int .u16 y] 74)).mono HC2.out.size))
  obtain ⟨pb, hpb⟩ : ∃ pb, pb = w2.heap.size := ⟨_, rfl⟩
  rw [← hpb] at HK2 ⊢
  clear hpb
  generalize w2.alloc (.cells #[.int .i64 0, .int .u16 y] 74) = w3 at HK2 HM3 HC3 ⊢
  clear HM2 HC2 HR2 HR
  go_loopw [7, 25] (fun mv iv wx => ∃ (k : Nat) (L : List Int), k ≤ len ∧ iv = .int .i64 k ∧ mv = .int .i64 (L.length : Nat) ∧ L.length ≤ 15 ∧ Hid (∀ r ∈ L, 0 ≤ r ∧ r ≤ 65535) ∧ Hid (Mtb wx w1.heap.size tb (BS (0, y) L) (L.length : Nat)) ∧ Hid (Bk wx pb 74 [.int .i64 0, .int .u16 y]) ∧ Hid (Below w1.heap.size w1 wx)) (fun _ iv _ => len - (intOf iv).toNat)
  case atStart => exact ⟨0, [], by omega, rfl, rfl, by simp, fun r h => by simp at h, HM3.out, HK2.out, HC3.out⟩
  case round =>
    obtain ⟨k, L, hk, rfl, rfl, hL, HLs, HM, HK, HC⟩ := hrel
    by_cases hlt : k < len
    · obtain ⟨r, hr⟩ : ∃ r, l[k]? = some r := ⟨_, List.getElem?_eq_getElem (by rw [HL.out]; exact hlt)⟩
      have hrb := HLb.out r (List.mem_of_getElem? hr)
      obtain ⟨bx, ox, rfl, hbx, hcx⟩ := (HR1.out.below HC.out).pos (by omega)
      have cr := hcx k _ (u8s_at hr)
      clear hr hcx
      by_cases h20 : k < 20
      · have g20 : ¬ (20 : Int) ≤ (k : Int) := by omega
        skip
        obtain ⟨l0, k0, k1, g0, g1⟩ := Bk.all2 HK.out
        obtain ⟨A3, c3, h3⟩ := HM.out
        have hs := seen_pl h3 0 y (bs_see (p := (0, y)) rfl L h3.fit)
        have H3 := Lib.hid h3
        obtain ⟨m, hm⟩ : ∃ m, m = L.length := ⟨_, rfl⟩
        have HLm := Lib.hid hm
        rw [← hm] at hL ⊢
        clear h3 hm
        go_wp2_with fail
        refine hs.mono ?_
        rintro e w5 ⟨rfl, hb5⟩
        have HK5 := Lib.hid (HK.out.kept hb5)
        have HC5 := Lib.hid (HC.out.trans (hb5.mono HC.out.size))
        have H5 := Lib.hid (H3.out.below hb5)
        clear hb5 hs k0 k1 l0 g0 g1 cr
        obtain ⟨t1, ht1⟩ : ∃ t, t = (tipF (0, y) L).1 := ⟨_, rfl⟩
        obtain ⟨t2, ht2⟩ : ∃ t, t = (tipF (0, y) L).2 := ⟨_, rfl⟩
        have Ht1 := Lib.hid ht1
        have Ht2 := Lib.hid ht2
        rw [← ht1, ← ht2]
        clear ht1 ht2
        have hbd := bind_pl (H5.out.below (oneb w5 (.cells #[.int .i64 t1, .int .u16 t2] 74))) ((r : Int) + 300) (by omega) (tipF (0, y) L) (tip_small (by omega) (by rw [← HLm.out]; omega) HLs.out) (by rw [← HLm.out]; omega) Ht1.out.symm Ht2.out.symm
        have HC6 := Lib.hid (HC5.out.trans ((oneb w5 (.cells #[.int .i64 t1, .int .u16 t2] 74)).mono HC5.out.size))
        have HK6 := Lib.hid (HK5.out.alloc (.cells #[.int .i64 t1, .int .u16 t2] 74))
        unfold BindP at hbd
        rw [bs_bindE (p := (0, y)) rfl, ← HLm.out] at hbd
        by_cases hfull : 15 ≤ m
        · rw [if_pos (show 16 ≤ m + 1 by omega)] at hbd
          rw [if_neg (by decide), if_neg (by decide), if_neg (by decide)] at hbd
          have HBd := Lib.hid hbd
          have g15 : (15 : Int) ≤ (m : Int) := by omega
          clear hbd
          go_wp2_with fail
          refine HBd.out.mono ?_
          rintro e w7 ⟨rfl, ⟨A7, c7, h7⟩, hf7⟩
          have HC7 := Lib.hid (HC6.out.trans (hf7.below HC6.out.size))
          have HK7 := Lib.hid (hf7.bk HK6.out (by decide))
          have hl := list_any h7
          have H7 := Lib.hid h7
          unfold LsP at hl
          rw [bs_len, ← HLm.out] at hl
          have g16 : ¬ (16 : Int) < ((m + 1 : Nat) : Int) := by omega
          have g16' : ¬ (16 : Int) < (m : Int) + 1 := by omega
          have g17 : ¬ 16 < m + 1 := by omega
          clear hf7 h7 HBd
          go_wp2_with fail
          refine hl.mono ?_
          rintro e w8 ⟨A8, c8, rfl, -, hb8⟩
          have HC8 := Lib.hid (HC7.out.trans (hb8.mono HC7.out.size))
          have HK8 := Lib.hid (HK7.out.kept hb8)
          have HM8 := Lib.hid (show Mtb w8 w1.heap.size tb (BS (0, y) L) (L.length : Nat) from ⟨A7, c7, by have := H7.out.below hb8; rwa [HLm.out] at this⟩)
          clear hb8 hl
          go_wp2_with fail
          go_roundw
          case rel => exact ⟨k + 1, L, by omega, by go_num, by rw [HLm.out], by rw [← HLm.out]; omega, HLs, HM8, HK8, HC8⟩
          case measure => simp [intOf]; omega
        · rw [if_neg (show ¬ 16 ≤ m + 1 by omega), if_pos rfl, if_pos rfl, if_pos rfl] at hbd
          have HBd := Lib.hid hbd
          have g15 : ¬ (15 : Int) ≤ (m : Int) := by omega
          have hm15 : m < 15 := by omega
          clear hbd hfull
          go_wp2_with fail
          refine HBd.out.mono ?_
          rintro e w7 ⟨rfl, ⟨A7, c7, h7⟩, hf7⟩
          have h7 : MtR w7 w1.heap.size tb (BS (0, y) (((r : Int) + 300) :: L)) ((m : Int) + 1) A7 c7 := by have h := h7; rw [HLm.out] at h ⊢; exact h
          have HC7 := Lib.hid (HC6.out.trans (hf7.below HC6.out.size))
          have HK7 := Lib.hid (hf7.bk HK6.out (by decide))
          have hl := list_any h7
          have H7 := Lib.hid h7
          unfold LsP at hl
          rw [bs_len, List.length_cons, ← HLm.out] at hl
          have g16 : ¬ (16 : Int) < (m : Int) + 1 + 1 := by omega
          have g17 : ¬ 16 < m + 1 + 1 := by omega
          have g18 : ¬ (16 : Int) < ((m + 1 + 1 : Nat) : Int) := by omega
          clear hf7 h7 HBd
          go_wp2_with fail
          refine hl.mono ?_
          rintro e w8 ⟨A8, c8, rfl, -, hb8⟩
          have HC8 := Lib.hid (HC7.out.trans (hb8.mono HC7.out.size))
          have HK8 := Lib.hid (HK7.out.kept hb8)
          have H8 := Lib.hid (H7.out.below hb8)
          obtain ⟨l0, k0, k1, g0, g1⟩ := Bk.all2 HK8.out
          have hs := seen_pl H8.out 0 y (bs_see (p := (0, y)) rfl (((r : Int) + 300) :: L) H8.out.fit)
          rw [show (tipF (0, y) (((r : Int) + 300) :: L)).1 = (m : Int) + 1 from by show ((L.length + 1 : Nat) : Int) = _; rw [HLm.out]; omega, show (tipF (0, y) (((r : Int) + 300) :: L)).2 = (r : Int) + 300 from rfl] at hs
          have hne := fun W => neqPl ((m : Int) + 1) ((r : Int) + 300) ((m : Int) + 1) ((r : Int) + 300) W false (by simp)
          clear hb8 hl
          go_wp2_with fail
          refine hs.mono ?_
          rintro e w9 ⟨rfl, hb9⟩
          have HC9 := Lib.hid (HC8.out.trans (hb9.mono HC8.out.size))
          have HK9 := Lib.hid (HK8.out.kept hb9)
          have HM9 := Lib.hid (show Mtb w9 w1.heap.size tb (BS (0, y) (((r : Int) + 300) :: L)) ((((r : Int) + 300) :: L).length : Nat) from ⟨A7, c7, by have := H8.out.below hb9; rw [List.length_cons, ← HLm.out, show ((m + 1 : Nat) : Int) = (m : Int) + 1 by omega]; exact this⟩)
          clear hb9 hs k0 k1 l0 g0 g1
          go_wp2_with fail
          go_roundw
          case rel => exact ⟨k + 1, ((r : Int) + 300) :: L, by omega, by go_num, by rw [List.length_cons, ← HLm.out]; go_num, by rw [List.length_cons, ← HLm.out]; omega, fun q hq => by
            rcases List.mem_cons.1 hq with rfl | hq
            · omega
            · exact HLs.out q hq, HM9, HK9, HC9⟩
          case measure => simp [intOf]; omega
      · have g20 : (20 : Int) ≤ (k : Int) := by omega
        obtain ⟨l0, k0, k1, -, -⟩ := Bk.all2 HK.out
        obtain ⟨A3, c3, h3⟩ := HM.out
        have hs := seen_pl h3 0 y (bs_see (p := (0, y)) rfl L h3.fit)
        have HFit := Lib.hid h3.fit
        have H3 := Lib.hid h3
        obtain ⟨m, hm⟩ : ∃ m, m = L.length := ⟨_, rfl⟩
        have HLm := Lib.hid hm
        have hL15 : m ≤ 15 := by omega
        rw [← hm]
        clear h3 hm
        go_wp2_with fail
        refine hs.mono ?_
        rintro e w5 ⟨rfl, hb5⟩
        have HM5 := Lib.hid (show Mtb w5 w1.heap.size tb (BS (0, y) L) L.length from ⟨A3, c3, H3.out.below hb5⟩)
        have HK5 := Lib.hid (HK.out.kept hb5)
        have HC5 := Lib.hid (HC.out.trans (hb5.mono HC.out.size))
        clear hb5 hs k0 k1 l0
        obtain ⟨t1, ht1⟩ : ∃ t, t = (tipF (0, y) L).1 := ⟨_, rfl⟩
        obtain ⟨t2, ht2⟩ : ∃ t, t = (tipF (0, y) L).2 := ⟨_, rfl⟩
        have Ht1 := Lib.hid ht1
        have Ht2 := Lib.hid ht2
        rw [← ht1, ← ht2]
        clear ht1 ht2
        go_wp2_with fail
        have HN1 := Lib.hid (show Bk (w5.alloc (.cells #[.int .i64 t1, .int .u16 t2] 74)) w5.heap.size 74 [.int .i64 (tipF (0, y) (L.drop 0)).1, .int .u16 (tipF (0, y) (L.drop 0)).2] by rw [List.drop_zero, ← Ht1.out, ← Ht2.out]; exact Bk.new _ _ _ rfl)
        have HM6 := Lib.hid (HM5.out.below (oneb w5 (.cells #[.int .i64 t1, .int .u16 t2] 74)))
        have HK6 := Lib.hid (HK5.out.alloc (.cells #[.int .i64 t1, .int .u16 t2] 74))
        have HC6 := Lib.hid (HC5.out.trans ((oneb w5 (.cells #[.int .i64 t1, .int .u16 t2] 74)).mono HC5.out.size))
        have Hne := Lib.hid (show pb ≠ w5.heap.size from fun e => by have := HK5.out.lt; omega)
        have Hpb := Lib.hid (show w1.heap.size ≤ w5.heap.size from HC5.out.size)
        generalize w5.alloc (.cells #[.int .i64 t1, .int .u16 t2] 74) = w6 at HN1 HM6 HK6 HC6 ⊢
        generalize w5.heap.size = qb at HN1 Hne Hpb ⊢
        clear HM5 HK5 HC5
        go_loopw [78] (fun i wx => ∃ j : Nat, j ≤ m ∧ i = .int .i64 j ∧ Hid (Mtb wx w1.heap.size tb (BS (0, y) L) L.length) ∧ Hid (Bk wx pb 74 [.int .i64 0, .int .u16 y]) ∧ Hid (Bk wx qb 74 [.int .i64 (tipF (0, y) (L.drop j)).1, .int .u16 (tipF (0, y) (L.drop j)).2]) ∧ Hid (Below w1.heap.size w1 wx)) (fun i _ => m - (intOf i).toNat)
        case atStart => exact ⟨0, by omega, rfl, HM6.out, HK6.out, HN1.out, HC6.out⟩
        case round =>
          obtain ⟨j, hj, rfl, HM, HK, HQ, HC⟩ := hrel
          obtain ⟨l0, k0, k1, g0, g1⟩ := Bk.all2 HK.out
          obtain ⟨l1, q0, q1, f0, f1⟩ := Bk.all2 HQ.out
          by_cases hlt2 : j < m
          · obtain ⟨A4, c4, h4⟩ := HM.out
            have hdn := bs_down (p := (0, y)) rfl L (L.length - 1 - j) (by have := HLm.out; omega)
            have HLL := HLm.out
            rw [show L.length - (L.length - 1 - j + 1) = j by omega, show L.length - (L.length - 1 - j) = j + 1 by omega] at hdn
            have hd := down_pl h4 (tipF (0, y) (L.drop j)).1 (tipF (0, y) (L.drop j)).2 hdn
            have H4 := Lib.hid h4
            obtain ⟨a1, ha1⟩ : ∃ t, t = (tipF (0, y) (L.drop j)).1 := ⟨_, rfl⟩
            obtain ⟨a2, ha2⟩ : ∃ t, t = (tipF (0, y) (L.drop j)).2 := ⟨_, rfl⟩
            obtain ⟨b1, hb1⟩ : ∃ t, t = (tipF (0, y) (L.drop (j + 1))).1 := ⟨_, rfl⟩
            obtain ⟨b2, hb2⟩ : ∃ t, t = (tipF (0, y) (L.drop (j + 1))).2 := ⟨_, rfl⟩
            rw [← ha1, ← ha2] at hd HQ
            rw [← ha1] at q0
            rw [← ha2] at q1
            rw [← hb1, ← hb2] at hd
            have Hb1 := Lib.hid hb1
            have Hb2 := Lib.hid hb2
            clear hdn h4 ha1 ha2 hb1 hb2 HLL
            go_wp2_with fail
            refine hd.mono ?_
            rintro e w7 ⟨rfl, hb7⟩
            have HB7 := Lib.hid (hb7.trans ((oneb w7 (.cells #[.int .i64 b1, .int .u16 b2] 74)).mono hb7.size))
            have hK8 := HK.out.kept HB7.out
            have hQ8 := HQ.out.kept HB7.out
            have HM8 := Lib.hid (HM.out.below HB7.out)
            have HC8 := Lib.hid (HC.out.trans (HB7.out.mono HC.out.size))
            have hD8 := Bk.new w7 74 #[.int .i64 b1, .int .u16 b2] (l := [.int .i64 b1, .int .u16 b2]) rfl
            clear k0 k1 l0 g0 g1 l1 q0 q1 f0 f1
            obtain ⟨l1, q0, q1, f0, f1⟩ := Bk.all2 hQ8
            have hgr := put2_grown (w7.alloc (.cells #[.int .i64 b1, .int .u16 b2] 74)) qb (.int .i64 b1) (.int .u16 b2)
            have HQ9 := Lib.hid (show Bk (put2 (w7.alloc (.cells #[.int .i64 b1, .int .u16 b2] 74)) qb (.int .i64 b1) (.int .u16 b2)) qb 74 [.int .i64 (tipF (0, y) (L.drop (j + 1))).1, .int .u16 (tipF (0, y) (L.drop (j + 1))).2] by rw [← Hb1.out, ← Hb2.out]; exact put2_bk _ _ hQ8)
            have HK9 := Lib.hid (hK8.grown hgr (fun e => Hne.out (Option.some.inj e)))
            have HM9 := Lib.hid (show Mtb (put2 (w7.alloc (.cells #[.int .i64 b1, .int .u16 b2] 74)) qb (.int .i64 b1) (.int .u16 b2)) w1.heap.size tb (BS (0, y) L) L.length by
              obtain ⟨A5, c5, h5⟩ := HM8.out
              refine ⟨A5, c5, h5.same fun b q => hgr.block b ?_ ?_⟩
              · rcases q with q | q <;> exact q.lt
              · intro e; cases e
                rcases q with q | q
                · exact q.ne (bk_tyb hQ8) (by decide) rfl
                · exact q.ne (bk_tyb hQ8) (by decide) rfl)
            have HC9 := Lib.hid (below_new HC8.out hgr Hpb.out)
            clear hgr hb7 hd hK8 hQ8 hD8
            go_wp2_with fail
            go_roundw
            case rel => exact ⟨j + 1, by omega, by go_num, HM9, HK9, HQ9, HC9⟩
            case measure => simp [intOf]; omega
          · have hjL : L.drop j = [] := List.drop_of_length_le (by have := HLm.out; omega)
            rw [hjL] at q0 q1
            have q0' : wr.cell? ⟨qb, 0, none⟩ = some (.int .i64 0) := q0
            have q1' : wr.cell? ⟨qb, 1, none⟩ = some (.int .u16 y) := q1
            have heq := fun W => eqPl 0 y 0 y W true (by simp)
            clear q0 q1 hjL
            go_wp2_with fail
            go_ret
            exact ⟨rfl, HB.out.trans (HC.out.mono HB.out.size)⟩
    · skip
      obtain ⟨l0, k0, k1, -, -⟩ := Bk.all2 HK.out
      obtain ⟨A3, c3, h3⟩ := HM.out
      have hs := seen_pl h3 0 y (bs_see (p := (0, y)) rfl L h3.fit)
      have HFit := Lib.hid h3.fit
      have H3 := Lib.hid h3
      obtain ⟨m, hm⟩ : ∃ m, m = L.length := ⟨_, rfl⟩
      have HLm := Lib.hid hm
      have hL15 : m ≤ 15 := by omega
      rw [← hm]
      clear h3 hm
      go_wp2_with fail
      refine hs.mono ?_
      rintro e w5 ⟨rfl, hb5⟩
      have HM5 := Lib.hid (show Mtb w5 w1.heap.size tb (BS (0, y) L) L.length from ⟨A3, c3, H3.out.below hb5⟩)
      have HK5 := Lib.hid (HK.out.kept hb5)
      have HC5 := Lib.hid (HC.out.trans (hb5.mono HC.out.size))
      clear hb5 hs k0 k1 l0
      obtain ⟨t1, ht1⟩ : ∃ t, t = (tipF (0, y) L).1 := ⟨_, rfl⟩
      obtain ⟨t2, ht2⟩ : ∃ t, t = (tipF (0, y) L).2 := ⟨_, rfl⟩
      have Ht1 := Lib.hid ht1
      have Ht2 := Lib.hid ht2
      rw [← ht1, ← ht2]
      clear ht1 ht2
      go_wp2_with fail
      have HN1 := Lib.hid (show Bk (w5.alloc (.cells #[.int .i64 t1, .int .u16 t2] 74)) w5.heap.size 74 [.int .i64 (tipF (0, y) (L.drop 0)).1, .int .u16 (tipF (0, y) (L.drop 0)).2] by rw [List.drop_zero, ← Ht1.out, ← Ht2.out]; exact Bk.new _ _ _ rfl)
      have HM6 := Lib.hid (HM5.out.below (oneb w5 (.cells #[.int .i64 t1, .int .u16 t2] 74)))
      have HK6 := Lib.hid (HK5.out.alloc (.cells #[.int .i64 t1, .int .u16 t2] 74))
      have HC6 := Lib.hid (HC5.out.trans ((oneb w5 (.cells #[.int .i64 t1, .int .u16 t2] 74)).mono HC5.out.size))
      have Hne := Lib.hid (show pb ≠ w5.heap.size from fun e => by have := HK5.out.lt; omega)
      have Hpb := Lib.hid (show w1.heap.size ≤ w5.heap.size from HC5.out.size)
      generalize w5.alloc (.cells #[.int .i64 t1, .int .u16 t2] 74) = w6 at HN1 HM6 HK6 HC6 ⊢
      generalize w5.heap.size = qb at HN1 Hne Hpb ⊢
      clear HM5 HK5 HC5
      go_loopw [78] (fun i wx => ∃ j : Nat, j ≤ m ∧ i = .int .i64 j ∧ Hid (Mtb wx w1.heap.size tb (BS (0, y) L) L.length) ∧ Hid (Bk wx pb 74 [.int .i64 0, .int .u16 y]) ∧ Hid (Bk wx qb 74 [.int .i64 (tipF (0, y) (L.drop j)).1, .int .u16 (tipF (0, y) (L.drop j)).2]) ∧ Hid (Below w1.heap.size w1 wx)) (fun i _ => m - (intOf i).toNat)
      case atStart => exact ⟨0, by omega, rfl, HM6.out, HK6.out, HN1.out, HC6.out⟩
      case round =>
        obtain ⟨j, hj, rfl, HM, HK, HQ, HC⟩ := hrel
        obtain ⟨l0, k0, k1, g0, g1⟩ := Bk.all2 HK.out
        obtain ⟨l1, q0, q1, f0, f1⟩ := Bk.all2 HQ.out
        by_cases hlt2 : j < m
        · obtain ⟨A4, c4, h4⟩ := HM.out
          have hdn := bs_down (p := (0, y)) rfl L (L.length - 1 - j) (by have := HLm.out; omega)
          have HLL := HLm.out
          rw [show L.length - (L.length - 1 - j + 1) = j by omega, show L.length - (L.length - 1 - j) = j + 1 by omega] at hdn
          have hd := down_pl h4 (tipF (0, y) (L.drop j)).1 (tipF (0, y) (L.drop j)).2 hdn
          have H4 := Lib.hid h4
          obtain ⟨a1, ha1⟩ : ∃ t, t = (tipF (0, y) (L.drop j)).1 := ⟨_, rfl⟩
          obtain ⟨a2, ha2⟩ : ∃ t, t = (tipF (0, y) (L.drop j)).2 := ⟨_, rfl⟩
          obtain ⟨b1, hb1⟩ : ∃ t, t = (tipF (0, y) (L.drop (j + 1))).1 := ⟨_, rfl⟩
          obtain ⟨b2, hb2⟩ : ∃ t, t = (tipF (0, y) (L.drop (j + 1))).2 := ⟨_, rfl⟩
          rw [← ha1, ← ha2] at hd HQ
          rw [← ha1] at q0
          rw [← ha2] at q1
          rw [← hb1, ← hb2] at hd
          have Hb1 := Lib.hid hb1
          have Hb2 := Lib.hid hb2
          clear hdn h4 ha1 ha2 hb1 hb2 HLL
          go_wp2_with fail
          refine hd.mono ?_
          rintro e w7 ⟨rfl, hb7⟩
          have HB7 := Lib.hid (hb7.trans ((oneb w7 (.cells #[.int .i64 b1, .int .u16 b2] 74)).mono hb7.size))
          have hK8 := HK.out.kept HB7.out
          have hQ8 := HQ.out.kept HB7.out
          have HM8 := Lib.hid (HM.out.below HB7.out)
          have HC8 := Lib.hid (HC.out.trans (HB7.out.mono HC.out.size))
          have hD8 := Bk.new w7 74 #[.int .i64 b1, .int .u16 b2] (l := [.int .i64 b1, .int .u16 b2]) rfl
          clear k0 k1 l0 g0 g1 l1 q0 q1 f0 f1
          obtain ⟨l1, q0, q1, f0, f1⟩ := Bk.all2 hQ8
          have hgr := put2_grown (w7.alloc (.cells #[.int .i64 b1, .int .u16 b2] 74)) qb (.int .i64 b1) (.int .u16 b2)
          have HQ9 := Lib.hid (show Bk (put2 (w7.alloc (.cells #[.int .i64 b1, .int .u16 b2] 74)) qb (.int .i64 b1) (.int .u16 b2)) qb 74 [.int .i64 (tipF (0, y) (L.drop (j + 1))).1, .int .u16 (tipF (0, y) (L.drop (j + 1))).2] by rw [← Hb1.out, ← Hb2.out]; exact put2_bk _ _ hQ8)
          have HK9 := Lib.hid (hK8.grown hgr (fun e => Hne.out (Option.some.inj e)))
          have HM9 := Lib.hid (show Mtb (put2 (w7.alloc (.cells #[.int .i64 b1, .int .u16 b2] 74)) qb (.int .i64 b1) (.int .u16 b2)) w1.heap.size tb (BS (0, y) L) L.length by
            obtain ⟨A5, c5, h5⟩ := HM8.out
            refine ⟨A5, c5, h5.same fun b q => hgr.block b ?_ ?_⟩
            · rcases q with q | q <;> exact q.lt
            · intro e; cases e
              rcases q with q | q
              · exact q.ne (bk_tyb hQ8) (by decide) rfl
              · exact q.ne (bk_tyb hQ8) (by decide) rfl)
          have HC9 := Lib.hid (below_new HC8.out hgr Hpb.out)
          clear hgr hb7 hd hK8 hQ8 hD8
          go_wp2_with fail
          go_roundw
          case rel => exact ⟨j + 1, by omega, by go_num, HM9, HK9, HQ9, HC9⟩
          case measure => simp [intOf]; omega
        · have hjL : L.drop j = [] := List.drop_of_length_le (by have := HLm.out; omega)
          rw [hjL] at q0 q1
          have q0' : wr.cell? ⟨qb, 0, none⟩ = some (.int .i64 0) := q0
          have q1' : wr.cell? ⟨qb, 1, none⟩ = some (.int .u16 y) := q1
          have heq := fun W => eqPl 0 y 0 y W true (by simp)
          clear q0 q1 hjL
          go_wp2_with fail
          go_ret
          exact ⟨rfl, HB.out.trans (HC.out.mono HB.out.size)⟩
end Go.Proofs.Ytmbgmbheonpamaa.Mt
