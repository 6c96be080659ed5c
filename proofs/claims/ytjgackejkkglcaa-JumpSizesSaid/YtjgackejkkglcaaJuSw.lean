/- JumpSizes: how much code there is, walked. -/
import Derived.Test.YtjgackejkkglcaaJuSr
import Derived.Test.YtjgackejkkglcaaJuPa
import Derived.Test.YtjgackejkkglcaaJuNa
import Derived.Test.YtjgackejkkglcaaJm
namespace Go.Proofs.Ytjgackejkkglcaa.Ju
open Go.RowKit Go.Maps Go.WideMaps Go.WideElems Go.ChangeMaps
theorem sz_ok {a b : Nat} : ∀ d i : Nat, i + d ≤ 700 → ∀ q ∈ szBody a b i d, Sml q
  | 0, _, _, q, h => by cases h
  | d + 1, i, hd, q, h => by
    have hz : Ins.ok ⟨6, 0, 0, i⟩ := sml_i (by omega) (by omega) (by omega) (by omega)
    rcases List.mem_append.1 (show q ∈ szOne a b i ++ szBody a b (i + 1) d from h) with h | h
    · unfold szOne at h
      rcases List.mem_append.1 h with h | h
      · split at h
        · rw [List.mem_singleton] at h; subst h; exact sml_mk (e := 0) (by omega) (by omega) (by omega) zI_ok
        · cases h
      · rcases List.mem_append.1 h with h | h
        · split at h
          · rw [List.mem_singleton] at h; subst h; exact sml_mk (e := 0) (by omega) (by omega) (by omega) zI_ok
          · cases h
        · rw [List.mem_singleton] at h; subst h; exact sml_mk (t := 0) (e := 0) (by omega) (by omega) (by omega) hz
    · exact sz_ok d (i + 1) (by omega) q h
theorem sz_len3 {a b : Nat} : ∀ d i : Nat, (szBody a b i d).length ≤ 3 * d
  | 0, _ => Nat.le_refl _
  | d + 1, i => by
    have := sz_len3 (a := a) (b := b) d (i + 1)
    rw [show szBody a b i (d + 1) = szOne a b i ++ szBody a b (i + 1) d from rfl, List.length_append]
    have h1 : (szOne a b i).length ≤ 3 := by
      unfold szOne
      split <;> split <;> simp
    omega
def recB (k : Nat) : List Nat := k :: List.replicate 63 0
theorem recB_ok {k : Nat} (h : k < 256) : Rec.IsRec (recB k) := ⟨by simp [recB], Rec.small8_of (fun x hx => by
  rcases List.mem_cons.1 hx with rfl | hx
  · exact h
  · rw [List.eq_of_mem_replicate hx]; omega)⟩
theorem rec_5 : (Rec.recL (recB 5)).toArray = #[.int .u32 5, .int .u32 0, .int .u64 0, .int .u64 0, .int .u64 0, .int .u64 0, .int .u64 0, .int .u64 0, .int .u64 0] := by kernel_rfl
theorem rec_0 : (Rec.recL (recB 0)).toArray = #[.int .u32 0, .int .u32 0, .int .u64 0, .int .u64 0, .int .u64 0, .int .u64 0, .int .u64 0, .int .u64 0, .int .u64 0] := by kernel_rfl
theorem word_5 : recW (recB 5) 0 = 5 := by rfl
theorem word_0 : recW (recB 0) 0 = 0 := by rfl
theorem sz_ins {c a b m : Nat} (hc : c = 21 ∨ c = 69) (ha : a < m) (hb : b < m) (hm : m ≤ 700) : ∀ i ∈ ldI :: szCode c a b m, i.ok := by
  have hI : ∀ {t f : Nat}, t < 256 → f < 256 → Ins.ok ⟨c, t, f, 5⟩ := fun h1 h2 => sml_i (by omega) h1 h2 (by omega)
  have hS : ∀ {k : Nat}, k ≤ 700 → (skipI k).ok := fun h => sml_i (by omega) (by omega) (by omega) (by omega)
  have hL : ldI.ok := sml_i (by omega) (by omega) (by omega) (by omega)
  have hR : ∀ (d i : Nat), i + d ≤ 700 → ∀ x ∈ rets i d, x.ok := by
    intro d
    induction d with
    | zero => intro i _ x hx; cases hx
    | succ d ih =>
      intro i h x hx
      rcases List.mem_cons.1 (show x ∈ retI i :: rets (i + 1) d from hx) with rfl | hx
      · exact sml_i (by omega) (by omega) (by omega) (by omega)
      · exact ih (i + 1) (by omega) x hx
  have h0 := hR m 0 (by omega)
  unfold szCode
  intro x hx
  rcases List.mem_cons.1 hx with rfl | hx
  · exact hL
  split at hx
  · split at hx
    · rcases List.mem_cons.1 hx with rfl | hx
      · exact hI (by omega) (by omega)
      · exact h0 x hx
    · rcases List.mem_cons.1 hx with rfl | hx
      · exact hI (by omega) (by omega)
      · rcases List.mem_cons.1 hx with rfl | hx
        · exact hS (by omega)
        · exact h0 x hx
  · split at hx
    · rcases List.mem_cons.1 hx with rfl | hx
      · exact hI (by omega) (by omega)
      · rcases List.mem_cons.1 hx with rfl | hx
        · exact hS (by omega)
        · exact h0 x hx
    · rcases List.mem_cons.1 hx with rfl | hx
      · exact hI (by omega) (by omega)
      · rcases List.mem_cons.1 hx with rfl | hx
        · exact hS (by omega)
        · rcases List.mem_cons.1 hx with rfl | hx
          · exact hS (by omega)
          · exact h0 x hx
set_option maxHeartbeats 16000000 in
set_option maxRecDepth 100000 in
theorem sizes_any (tt oo how : Nat) (w : World) (ht : tt < 65536) (ho : oo < 65536) (hh : how < 256) :
    Calls Try.prog 4 #[.int .u16 tt, .int .u16 oo, .int .u8 how] w (RetB true w) := by
  obtain ⟨a, ha⟩ : ∃ a, a = tt % 600 := ⟨_, rfl⟩
  have ea : (tt : Int) % 600 = a := by omega
  obtain ⟨b, hb⟩ : ∃ b, b = oo % 600 := ⟨_, rfl⟩
  have eb : (oo : Int) % 600 = b := by omega
  obtain ⟨h2, hh2⟩ : ∃ h2, h2 = how % 2 := ⟨_, rfl⟩
  have eh : (how : Int) % 2 = h2 := by omega
  have ha6 : a < 600 := by omega
  have hb6 : b < 600 := by omega
  have hh22 : h2 < 2 := by omega
  obtain ⟨cc, hcc⟩ : ∃ cc, cc = if h2 = 0 then 21 else 69 := ⟨_, rfl⟩
  have HC := Lib.hid (show cc = 21 ∨ cc = 69 by rw [hcc]; split; exact Or.inl rfl; exact Or.inr rfl)
  have HCE := Lib.hid hcc
  obtain ⟨mx, hmx⟩ : ∃ mx, mx = max a b := ⟨_, rfl⟩
  have HMI := Lib.hid (show (if a < b then (b : Int) else (a : Int)) = (mx : Int) by rw [hmx]; split <;> omega)
  have hmx6 : mx < 600 := by omega
  have ham : a ≤ mx := by omega
  have hbm : b ≤ mx := by omega
  obtain ⟨m, hm⟩ : ∃ m, m = mx + 1 := ⟨_, rfl⟩
  have em : (mx : Int) + 1 = m := by omega
  have hm7 : m ≤ 600 := by omega
  have ham2 : a < m := by omega
  have hbm2 : b < m := by omega
  have HMM := Lib.hid hm
  clear hm
  obtain ⟨fb, hfb⟩ : ∃ fb, fb = if 253 < b then 1 else 0 := ⟨_, rfl⟩
  have hfb1 : fb ≤ 1 := by rw [hfb]; split <;> omega
  obtain ⟨K, hK⟩ : ∃ K, K = (szCode cc a b m).length := ⟨_, rfl⟩
  have HKL := Lib.hid (show K = m + 1 + fb + (if 253 < a + fb then 1 else 0) by rw [hK, sz_len, hfb])
  have hK7 : K ≤ 610 := by rw [HKL.out]; split <;> omega
  have HK := Lib.hid hK
  have HFB := Lib.hid hfb
  clear ha hb hh2 hcc hmx hfb hK
  go_enter Try.func4, Try.ntmps4
  go_wp2_with fail
  refine (awake_any _).mono ?_
  rintro e w1 ⟨rfl, hb1⟩
  have HB := Lib.hid hb1
  clear hb1
  have HV0 := Lib.hid (show VR w1 w1 (.slice none 0 0) [] from ⟨Below.refl _ _, World.ownsRow_nil _ _ _ _⟩)
  go_upto_region 5 with fail
  go_cut [9] from 22 to 39 (fun lv wx => ∃ A c9, lv = .slice A 1 c9 ∧ Hid (VR w1 wx (.slice A 1 c9) [szHead cc]))
  case first =>
    by_cases h0 : h2 = 0
    · have HCC := Lib.hid (show cc = 21 by rw [HCE.out, if_pos h0])
      subst h0
      go_wp2_with fail
      refine (if_of 16 5 0 0 21 _ (by decide)).mono ?_
      rintro e w4 ⟨rfl, hb4⟩
      have HV := Lib.hid (HV0.out.kept ((oneb w1 _).trans (hb4.mono (oneb w1 _).size)))
      clear hb4
      go_wp2_with (at_builtin; refine VR.push rfl (.tmp 30) (.tmp 38) rfl (⟨3, 1, 2, ⟨21, 0, 0, 5⟩⟩) HV #[.int .u8 3, .int .i64 1, .int .i64 2, .int .u16 21, .int .u8 0, .int .u8 0, .int .u32 5] rfl rfl (by first | omega | simp) rfl ?_; clear HV; intro A7 c7 w5 HV)
      go_meet
      case rel => exact ⟨A7, c7, rfl, by rw [HCC.out]; exact HV⟩
    · have HCC := Lib.hid (show cc = 69 by rw [HCE.out, if_neg h0])
      obtain rfl : h2 = 1 := by omega
      go_wp2_with fail
      refine (if_of 64 5 0 0 69 _ (by decide)).mono ?_
      rintro e w4 ⟨rfl, hb4⟩
      have HV := Lib.hid (HV0.out.kept ((oneb w1 _).trans (hb4.mono (oneb w1 _).size)))
      clear hb4
      go_wp2_with (at_builtin; refine VR.push rfl (.tmp 30) (.tmp 38) rfl (⟨3, 1, 2, ⟨69, 0, 0, 5⟩⟩) HV #[.int .u8 3, .int .i64 1, .int .i64 2, .int .u16 69, .int .u8 0, .int .u8 0, .int .u32 5] rfl rfl (by first | omega | simp) rfl ?_; clear HV; intro A7 c7 w5 HV)
      go_meet
      case rel => exact ⟨A7, c7, rfl, by rw [HCC.out]; exact HV⟩
  case rest =>
    rename World => w3
    obtain ⟨A3, c3, rfl, HV⟩ := hcut
    clear HV0
    go_upto_region 7 with fail
    rw [HMI.out]
    go_wp2_with fail
    go_loopw [9, 45] (fun lv iv wz => ∃ (i : Nat) (s : List PtM) (B : Option Addr) (c9 : Nat), iv = .int .i64 i ∧ lv = .slice B s.length c9 ∧ i ≤ m ∧ s.length ≤ 1 + 3 * i ∧ Hid (VR w1 wz (.slice B s.length c9) s) ∧ Hid (s ++ szBody a b i (m - i) = szHead cc :: szBody a b 0 m)) (fun _ iv _ => m - (intOf iv).toNat)
    case atStart => exact ⟨0, [szHead cc], A3, c3, rfl, rfl, Nat.zero_le _, by simp, HV, Lib.hid rfl⟩
    case round =>
      clear HV
      rename World => wz
      obtain ⟨i, s, B, c9, rfl, rfl, hi, hsl, HA, HF⟩ := hrel
      by_cases hlt : i < m
      · have HF3 := Lib.hid (show s ++ ((if i = a then [hereP 1] else []) ++ ((if i = b then [hereP 2] else []) ++ ([retP i] ++ szBody a b (i + 1) (m - (i + 1))))) = szHead cc :: szBody a b 0 m by
          rw [← HF.out, show m - i = (m - (i + 1)) + 1 from by omega]
          show _ = s ++ (szOne a b i ++ szBody a b (i + 1) (m - (i + 1)))
          unfold szOne
          simp only [List.append_assoc])
        have i1 : (i : Int) < (m : Int) := by omega
        clear HF
        go_upto_if 50 with fail
        go_cut [9] from 48 to 54 (fun lv wx => ∃ (s2 : List PtM) (A : Option Addr) (c9 : Nat), lv = .slice A s2.length c9 ∧ s2.length ≤ s.length + 1 ∧ Hid (VR w1 wx (.slice A s2.length c9) s2) ∧ Hid (s2 = s ++ (if i = a then [hereP 1] else [])))
        case first =>
          by_cases hia : i = a
          · have e1 : ((i : Int) == (a : Int)) = true := by rw [hia]; simp
            have HE := Lib.hid hia
            clear hia
            go_wp2_with (at_builtin; refine VR.push rfl (.tmp 51) (.tmp 53) rfl (⟨1, 1, 0, ⟨0, 0, 0, 0⟩⟩) HA #[.int .u8 1, .int .i64 1, .int .i64 0, .int .u16 0, .int .u8 0, .int .u8 0, .int .u32 0] rfl rfl (by first | omega | simp) rfl ?_; clear HA; intro A7 c7 w6 HA)
            go_meet
            case rel => exact ⟨s ++ [⟨1, 1, 0, ⟨0, 0, 0, 0⟩⟩], A7, c7, by rw [List.length_append]; rfl, by rw [List.length_append]; exact Nat.le_refl _, by rw [List.length_append]; exact HA, Lib.hid (by rw [if_pos HE.out]; rfl)⟩
          · have e1 : ((i : Int) == (a : Int)) = false := by rw [beq_eq_false_iff_ne]; omega
            have HE := Lib.hid hia
            clear hia
            go_wp2_with fail
            go_meet
            case rel => exact ⟨s, B, c9, rfl, by omega, HA, Lib.hid (by rw [if_neg HE.out, List.append_nil])⟩
        case rest =>
          rename World => wa
          obtain ⟨s2, B2, c2, rfl, hs2, HA2, HE2⟩ := hcut
          clear HA
          have HF4 := Lib.hid (show s2 ++ ((if i = b then [hereP 2] else []) ++ ([retP i] ++ szBody a b (i + 1) (m - (i + 1)))) = szHead cc :: szBody a b 0 m by rw [← HF3.out, HE2.out, List.append_assoc])
          clear HF3 HE2
          go_upto_if 57 with fail
          go_cut [9] from 55 to 61 (fun lv wx => ∃ (s3 : List PtM) (A : Option Addr) (c9 : Nat), lv = .slice A s3.length c9 ∧ s3.length ≤ s2.length + 1 ∧ Hid (VR w1 wx (.slice A s3.length c9) s3) ∧ Hid (s3 = s2 ++ (if i = b then [hereP 2] else [])))
          case first =>
            by_cases hia : i = b
            · have e1 : ((i : Int) == (b : Int)) = true := by rw [hia]; simp
              have HE := Lib.hid hia
              clear hia
              go_wp2_with (at_builtin; refine VR.push rfl (.tmp 58) (.tmp 60) rfl (⟨1, 2, 0, ⟨0, 0, 0, 0⟩⟩) HA2 #[.int .u8 1, .int .i64 2, .int .i64 0, .int .u16 0, .int .u8 0, .int .u8 0, .int .u32 0] rfl rfl (by first | omega | simp) rfl ?_; clear HA2; intro A7 c7 w6 HA2)
              go_meet
              case rel => exact ⟨s2 ++ [⟨1, 2, 0, ⟨0, 0, 0, 0⟩⟩], A7, c7, by rw [List.length_append]; rfl, by rw [List.length_append]; exact Nat.le_refl _, by rw [List.length_append]; exact HA2, Lib.hid (by rw [if_pos HE.out]; rfl)⟩
            · have e1 : ((i : Int) == (b : Int)) = false := by rw [beq_eq_false_iff_ne]; omega
              have HE := Lib.hid hia
              clear hia
              go_wp2_with fail
              go_meet
              case rel => exact ⟨s2, B2, c2, rfl, by omega, HA2, Lib.hid (by rw [if_neg HE.out, List.append_nil])⟩
          case rest =>
            rename World => wb
            obtain ⟨s3, B3, c3', rfl, hs3, HA3, HE3⟩ := hcut
            clear HA2
            have HFn := Lib.hid (show (s3 ++ [⟨2, 0, 0, ⟨6, 0, 0, i⟩⟩]) ++ szBody a b (i + 1) (m - (i + 1)) = szHead cc :: szBody a b 0 m by rw [← HF4.out, HE3.out, List.append_assoc, List.append_assoc]; rfl)
            clear HF4 HE3
            go_wp2_with fail
            refine (return_of _ _).mono ?_
            rintro e w6 ⟨rfl, hb9⟩
            have HA3 := Lib.hid (HA3.out.kept hb9)
            clear hb9
            go_wp2_with (at_builtin; refine VR.push rfl (.tmp 62) (.tmp 67) rfl (⟨2, 0, 0, ⟨6, 0, 0, i⟩⟩) HA3 #[.int .u8 2, .int .i64 0, .int .i64 0, .int .u16 6, .int .u8 0, .int .u8 0, .int .u32 i] rfl rfl (by first | omega | simp) rfl ?_; clear HA3; intro A7 c7 w7 HA3)
            go_roundw
            case rel => exact ⟨i + 1, _, A7, c7, by go_num, by rw [List.length_append]; rfl, by omega, by rw [List.length_append]; simp only [List.length_cons, List.length_nil]; omega, by rw [List.length_append]; exact HA3, HFn⟩
            case measure => simp [intOf]; omega
      · have HFe := Lib.hid (show s = szHead cc :: szBody a b 0 m by rw [← HF.out, show m - i = 0 from by omega]; simp [szBody])
        have hMk := sz_make cc a b m HC.out ham2 hbm2 (by omega)
        rw [← HFe.out] at hMk
        have HMk := Lib.hid hMk
        have HMa := Lib.hid (make_any s s.length B c9 wz rfl (by omega) (fun q hq => by
          rw [HFe.out] at hq
          rcases List.mem_cons.1 hq with rfl | hq
          · have hcl : cc < 65536 := by rcases HC.out with h | h <;> omega
            exact (sml_mk (kd := 3) (t := 1) (e := 2) (by omega) (by omega) (by omega) (sml_i hcl (by omega) (by omega) (by omega))).ok
          · exact (sz_ok m 0 (by omega) q hq).ok) (own_rdP HA.out.row))
        have HB := Lib.hid (HB.out.trans (HA.out.bel.mono HB.out.size))
        clear HA HF hMk
        go_wp2_with fail
        refine HMa.out.mono ?_
        rintro e w8 ⟨hb8, hmk, _⟩
        obtain ⟨v, hr, rfl⟩ := hmk HMk.out.1
        rw [HMk.out.2, ← HK.out] at hr
        obtain ⟨Aa, ca, rfl, _⟩ := own_typed hr
        have HRa := Lib.hid (own_rdI hr)
        have HB := Lib.hid (HB.out.trans (hb8.mono HB.out.size))
        clear hmk hr hb8 HMa
        obtain ⟨k1, hk1⟩ : ∃ k1, k1 = m + 1 + fb := ⟨_, rfl⟩
        have HK1 := Lib.hid hk1
        clear hk1
        go_upto_if 78 with fail
        go_cut [14, 15] from 71 to 80 (fun wv fv wx => wv = .int .i64 k1 ∧ fv = .int .i64 fb ∧ wx = w8)
        case first =>
          by_cases h25 : 253 < b
          · have j1 : (253 : Int) < (b : Int) := by omega
            have HV := Lib.hid (show fb = 1 by rw [HFB.out, if_pos h25])
            clear h25
            go_wp2_with fail
            go_meet
            case rel => exact ⟨congrArg (Value.int .i64) (by have h1 := HK1.out; have h2 := HV.out; have h3 := HMM.out; omega), by rw [HV.out]; rfl, rfl⟩
          · have j1 : ¬ (253 : Int) < (b : Int) := by omega
            have HV := Lib.hid (show fb = 0 by rw [HFB.out, if_neg h25])
            clear h25
            go_wp2_with fail
            go_meet
            case rel => exact ⟨congrArg (Value.int .i64) (by have h1 := HK1.out; have h2 := HV.out; have h3 := HMM.out; omega), by rw [HV.out]; rfl, rfl⟩
        case rest =>
          obtain ⟨rfl, rfl, hwx⟩ := hcut
          rw [hwx]
          clear hwx
          have hk17 : k1 ≤ 610 := by rw [HK1.out]; omega
          go_upto_if 84 with fail
          go_cut [14] from 81 to 86 (fun wv wx => wv = .int .i64 K ∧ wx = w8)
          case first =>
            by_cases h25 : 253 < a + fb
            · have j1 : (253 : Int) < (a : Int) + (fb : Int) := by omega
              have HV := Lib.hid (show K = k1 + 1 by rw [HKL.out, if_pos h25, HK1.out])
              clear h25
              go_wp2_with fail
              go_meet
              case rel => exact ⟨congrArg (Value.int .i64) (by have h1 := HV.out; omega), rfl⟩
            · have j1 : ¬ (253 : Int) < (a : Int) + (fb : Int) := by omega
              have HV := Lib.hid (show K = k1 by rw [HKL.out, if_neg h25, HK1.out, Nat.add_zero])
              clear h25
              go_wp2_with fail
              go_meet
              case rel => exact ⟨congrArg (Value.int .i64) (by have h1 := HV.out; omega), rfl⟩
          case rest =>
            obtain ⟨rfl, hwx⟩ := hcut
            rw [hwx]
            clear hwx
            have ekk : ((K : Int) != (K : Int)) = false := by simp
            have hK1 : 1 ≤ K := by rw [HKL.out]; omega
            go_wp2_with fail
            refine (load_of 0 _).mono ?_
            rintro e w9 ⟨rfl, hb9⟩
            obtain ⟨b9, o9, rfl, hbl, hcl⟩ := (HRa.out.below hb9).pos (by omega)
            have HNw := Lib.hid (fun (o : Obj) j u (hu : ((szCode cc a b m).flatMap Ins.cells)[j]? = some u) => show (w9.alloc o).cell? ((⟨b9, o9, none⟩ : Addr).add j) = some u by
              rw [add_at]
              exact (oneb w9 o).cell (p := ⟨b9, o9 + j, none⟩) hbl |>.trans (hcl j u hu))
            have HB := Lib.hid (HB.out.trans (hb9.mono HB.out.size))
            obtain ⟨j0, hj, hy0, hy1, hy2⟩ := info_parts infoIn
            clear hbl hcl hb9
            go_wp2_with (at_builtin; refine wpList_append_own _ rfl (.tmp 97) (.tmp 98) 30 rfl w9.heap.size 53 j0 _ 4 8 Try.underlying30 hj hy0 hy1 hy2 rfl (by decide) _ 1 [.int .u16 32, .int .u8 0, .int .u8 0, .int .u32 0] rfl (World.ownsRow_lit (base := w9.heap.size) (e := 53) (size := 4) w9 #[.int .u16 32, .int .u8 0, .int .u8 0, .int .u32 0] 1 (Nat.le_refl _) (by unfold maxLen; omega) rfl) ⟨b9, o9, none⟩ K ca ((szCode cc a b m).flatMap Ins.cells) rfl (by rw [flatz_len Ins.cells 4 (fun _ => rfl), HK.out]) (HNw.out _) (fun u hu => by obtain ⟨x, _, hx⟩ := List.mem_flatMap.1 hu; exact cells_one x u hx) (by unfold maxLen; omega) (by omega) (by simp) ?_; intro v' w10 hown hgrow _; have HO := Lib.hid hown; have HG := Lib.hid hgrow; obtain ⟨A10, c10, e10, _⟩ := own_typed hown; subst e10; clear hown hgrow)
            have hrd := own_rdI HO.out
            have HL1 := Lib.hid (load_any (ldI :: szCode cc a b m) (1 + K) A10 c10 w10 (by rw [List.length_cons, ← HK.out]; omega) (sz_ins HC.out ham2 hbm2 (by omega)) hrd (by unfold maxLen; omega))
            have HB10 := Lib.hid (show Below w9.heap.size w9 w10 from (oneb w9 _).grown HG.out (oneb w9 _).size (fun r e => by cases e; exact Nat.le_refl _))
            have HB := Lib.hid (HB.out.trans (HB10.out.mono HB.out.size))
            clear hrd
            refine HL1.out.mono ?_
            rintro e w11 ⟨_, _, _, hb11, hgood | ⟨hbad, _⟩⟩
            rotate_left 1
            · exact absurd (sz_good HC.out ham2 hbm2 (by omega)) hbad
            obtain ⟨hg, rfl, rfl, p, fb0, fo, fc, hp, hpb, rfl, hF⟩ := hgood
            have HG1 := Lib.hid hg
            have HF := Lib.hid hF
            have HPw := Lib.hid (show w.heap.size ≤ p from Nat.le_trans HB.out.size hp)
            have HB := Lib.hid (HB.out.trans (hb11.mono HB.out.size))
            clear hg hF hp hpb hb11
            go_upto_region 27 with fail
            have hx := Bk.new w11 36 #[.int .i64 0, .int .i64 0] (l := [.int .i64 0, .int .i64 0]) rfl
            have hb12 := oneb w11 (.cells #[.int .i64 0, .int .i64 0] 36)
            generalize World.alloc w11 _ = w12 at hx hb12 ⊢
            have HF := Lib.hid (HF.out.below hb12)
            have HB := Lib.hid (HB.out.trans (hb12.mono HB.out.size))
            have HXP := Lib.hid (show w11.heap.size ≠ p by have := HF.out.lp; omega)
            generalize hxb : w11.heap.size = xb at hx ⊢
            have HX := Lib.hid hx
            have HXB := Lib.hid hxb
            clear hx hb12 hxb
            have hI := sz_ins (c := cc) (a := a) (b := b) (m := m) HC.out ham2 hbm2 (by omega)
            have HR5 := Lib.hid (run_any (recB 5) _ w11.heap.size p fb0 fo fc 0 0 w12 HF.out HG1.out hI (recB_ok (by omega)) (by unfold Small40; omega) (by unfold Small40; omega))
            have hy5 := sz_run (recW (recB 5)) HC.out ham2 hbm2
            rw [word_5, if_pos (sz_yes HC.out).1] at hy5
            have hy0 := sz_run (recW (recB 0)) HC.out ham2 hbm2
            rw [word_0, if_neg (by rw [(sz_yes HC.out).2]; decide)] at hy0
            have hn5 := run_len (recW (recB 5)) (ldI :: szCode cc a b m)
            rw [List.length_cons, ← HK.out] at hn5
            unfold RunTo at HR5
            rw [rec_5, hy5] at HR5
            obtain ⟨n5, hn5e⟩ : ∃ n5, n5 = (runN (recW (recB 5)) (ldI :: szCode cc a b m)).1.length := ⟨_, rfl⟩
            rw [← hn5e] at HR5 hn5
            have HR0 := Lib.hid (fun w' h => run_any (recB 0) (ldI :: szCode cc a b m) w11.heap.size p fb0 fo fc 1 (0 + n5) w' h HG1.out hI (recB_ok (by omega)) (by unfold Small40; omega) (by unfold Small40; omega))
            unfold RunTo at HR0
            rw [rec_0, hy0] at HR0
            obtain ⟨n0, hn0e⟩ : ∃ n0, n0 = (runN (recW (recB 0)) (ldI :: szCode cc a b m)).1.length := ⟨_, rfl⟩
            rw [← hn0e] at HR0
            clear hy5 hy0 hn5 hn5e hn0e hI
            go_wp2_with fail
            refine HR5.out.mono ?_
            rintro e w13 ⟨rfl, hF, hg⟩
            have HF := Lib.hid hF
            have HX := Lib.hid (HX.out.grown hg (fun e => by injection e with e; exact HXP.out (HXB.out.trans e)))
            have HB := Lib.hid (HB.out.grown hg HB.out.size (fun r e => by injection e with e; rw [← e]; exact HPw.out))
            clear hF hg
            go_wp2_with fail
            refine (HR0.out _ HF.out).mono ?_
            rintro e w14 ⟨rfl, _, hg⟩
            have hx := HX.out.grown hg (fun e => by injection e with e; exact HXP.out (HXB.out.trans e))
            have HB := Lib.hid (HB.out.grown hg HB.out.size (fun r e => by injection e with e; rw [← e]; exact HPw.out))
            have y0 := hx.cell 0 rfl
            have y1 := hx.cell 1 rfl
            have yl := hx.lt
            have hQ : ∀ W : World, (binOp .eql 36 (.agg #[.int .i64 0, .int .i64 0]) (.agg #[.int .i64 0, .int .i64 0])).run Try.prog W = .ok (.bool true) W := fun W => by kernel_rfl
            have eaa : ((a : Int) == (a : Int)) = true := by simp
            have ebb : ((b : Int) == (b : Int)) = true := by simp
            clear hx hg
            go_wp2_with fail
            go_ret
            exact ⟨rfl, HB.out⟩
end Go.Proofs.Ytjgackejkkglcaa.Ju
