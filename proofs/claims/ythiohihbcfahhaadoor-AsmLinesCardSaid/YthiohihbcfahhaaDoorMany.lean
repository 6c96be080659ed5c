/- AsmMany: the walk. -/
import Derived.Test.YthiohihbcfahhaaDoorAwake
import Derived.Deep.RegionWith
import Derived.Test.YthiohihbcfahhaaDoorOpen5
namespace Go.Proofs.YthiohihbcfahhaaDoor
open Go.RowKit Go.ChangeShapes Go.WideShapes Go.ChangeAt Go.WideElems
def tI : Ins := ⟨7, 0, 0, 0⟩
theorem told_tax : told tI = [116, 97, 120] := by kernel_rfl
theorem tI_ok : tI.ok := ⟨by decide, by decide, by decide, by decide⟩
theorem rep_ok (n : Nat) : ∀ i ∈ List.replicate n tI, i.ok := by
  intro i hi
  rw [List.eq_of_mem_replicate hi]
  exact tI_ok
theorem text_rep (n : Nat) : (text (List.replicate n tI)).length = n * 4 := by
  induction n with
  | zero => rfl
  | succ n ih =>
    rw [List.replicate_succ]
    have e : text (tI :: List.replicate n tI) = (told tI ++ [10]) ++ text (List.replicate n tI) := by simp [text]
    rw [e, told_tax, List.length_append, ih]
    simp
    omega
theorem flat_len (L : List Ins) : (L.flatMap Ins.cells).length = L.length * 4 := by
  induction L with
  | nil => rfl
  | cons x L ih => simp only [List.flatMap_cons, List.length_append, List.length_cons, ih, Ins.cells]; simp; omega
theorem parse_long (s : ByteArray) (w : World) (h : 65536 < s.size) : Calls Tryd.prog 14 #[.string s] w fun e w' => e = .returned (.tuple #[.slice none 0 0, .int .i64 0, .int .i64 36]) ∧ w = w' := by
  have h1 : decide ((65536 : Int) < (s.size : Int)) = true := decide_eq_true (by omega)
  clear h
  go_enter Tryd.func14, Tryd.ntmps14
  go_wp2
  go_ret3
  exact ⟨rfl, rfl⟩
/-- A row of the call's own whose first k are tax. -/
structure Rets (w wr : World) (g n k : Nat) (R : List Value) : Prop where
  own : wr.ownsRow w.heap.size 38 4 (.slice (some ⟨g, 0, none⟩) n n) n ((List.replicate k tI).flatMap Ins.cells ++ R)
  bel : Below w.heap.size w wr
theorem Rets.len {w wr : World} {g n k : Nat} {R : List Value} (h : Rets w wr g n k R) : k * 4 + R.length = n * 4 := by
  have := h.own.1
  rw [List.length_append, flat_len, List.length_replicate] at this
  exact this
theorem Rets.step {w wr : World} {g n k : Nat} {R : List Value} (h : Rets w wr g n k R) (hk : k < n) : ∃ v0 v1 v2 v3 R', (wr.cell? ⟨g, k * 4, none⟩ = some v0 ∧ wr.cell? ⟨g, k * 4 + 1, none⟩ = some v1 ∧ wr.cell? ⟨g, k * 4 + 2, none⟩ = some v2 ∧ wr.cell? ⟨g, k * 4 + 3, none⟩ = some v3) ∧
    Rets w ((((wr.setCell ⟨g, k * 4, none⟩ (.int .u16 7)).setCell ⟨g, k * 4 + 1, none⟩ (.int .u8 0)).setCell ⟨g, k * 4 + 2, none⟩ (.int .u8 0)).setCell ⟨g, k * 4 + 3, none⟩ (.int .u32 0)) g n (k + 1) R' := by
  have hl := h.len
  obtain ⟨v0, v1, v2, v3, R', rfl⟩ : ∃ v0 v1 v2 v3 R', R = v0 :: v1 :: v2 :: v3 :: R' := by
    match R, hl with
    | [], hl => simp at hl; omega
    | [_], hl => simp at hl; omega
    | [_, _], hl => simp at hl; omega
    | [_, _, _], hl => simp at hl; omega
    | v0 :: v1 :: v2 :: v3 :: R', _ => exact ⟨v0, v1, v2, v3, R', rfl⟩
  have hcl : ((List.replicate k tI).flatMap Ins.cells).length = k * 4 := by rw [flat_len, List.length_replicate]
  have hat : ∀ j v, (v0 :: v1 :: v2 :: v3 :: R')[j]? = some v → wr.cell? ⟨g, k * 4 + j, none⟩ = some v := fun j v hv => by
    rw [h.own.cellAt _ (by have := (List.getElem?_eq_some_iff.1 hv).1; simp at this hl; omega), List.getElem?_append_right (by omega), hcl, Nat.add_sub_cancel_left]; exact hv
  refine ⟨v0, v1, v2, v3, R', ⟨hat 0 v0 rfl, hat 1 v1 rfl, hat 2 v2 rfl, hat 3 v3 rfl⟩, ?_⟩
  have s1 := h.own.stored (k * 4) (.int .u16 7)
  have s2 := s1.1.stored (k * 4 + 1) (.int .u8 0)
  have s3 := s2.1.stored (k * 4 + 2) (.int .u8 0)
  have s4 := s3.1.stored (k * 4 + 3) (.int .u32 0)
  have hg := (h.own.lt g rfl).1
  refine ⟨?_, only_below h.bel (only_trans (only_trans (only_trans s1.2 s2.2) s3.2) s4.2) h.bel.size hg⟩
  have e : (((((List.replicate k tI).flatMap Ins.cells ++ v0 :: v1 :: v2 :: v3 :: R').set (k * 4) (.int .u16 7)).set (k * 4 + 1) (.int .u8 0)).set (k * 4 + 2) (.int .u8 0)).set (k * 4 + 3) (.int .u32 0) = (List.replicate (k + 1) tI).flatMap Ins.cells ++ R' := by
    rw [List.set_append_right _ _ (by omega), List.set_append_right _ _ (by omega), List.set_append_right _ _ (by omega), List.set_append_right _ _ (by omega), hcl, List.replicate_succ', List.flatMap_append]
    simp [Ins.cells, tI]
  have s := s4.1
  rw [← e]; exact s
theorem infoU8 : (Tryd.prog.info? 5).map (fun i => (i.zero, i.size, i.bytes)) = some (some (.int .u8 0), 1, 1) := by kernel_rfl
theorem zeros_conv {w : World} {base g N : Nat} (hown : w.ownsRow base 5 1 (.slice (some ⟨g, 0, none⟩) N N) N (madeCells (Value.int .u8 0).cells (N * 1)).toList) :
    (convert 40 9 (.slice (some ⟨g, 0, none⟩) N N)).run Tryd.prog w = .ok (.string ⟨(List.replicate N (0 : UInt8)).toArray⟩) w := by
  have h := run_convert_bytes_back (P := Tryd.prog) w 40 9 5 ⟨g, 0, none⟩ N (List.replicate N (0 : UInt8)) Tryd.underlying40 Tryd.underlying5 Tryd.underlying9 (fun j hj => by
    rw [List.length_replicate] at hj
    refine hown.cells (g := g) rfl j _ ?_
    rw [Nat.mul_one, show (Value.int .u8 0).cells = #[.int .u8 0] from rfl, toList_madeCells_one, List.getElem?_replicate, if_pos hj, List.getElem_replicate]
    rfl)
  rw [List.length_replicate] at h
  exact h
theorem zeros_size (N : Nat) : (⟨(List.replicate N (0 : UInt8)).toArray⟩ : ByteArray).size = N := by rw [Lib.size_eq]; show (List.replicate N (0 : UInt8)).toArray.toList.length = N; rw [List.toList_toArray, List.length_replicate]
set_option maxRecDepth 100000 in
set_option maxHeartbeats 4000000 in
theorem walk_many (n0 : Nat) (w : World) (hn0 : n0 < 256) (hE : Env w) : Calls Tryd.prog 6 #[.int .u8 n0] w (Yes w) := by
  obtain ⟨i0, hi, hz0, hz1, hz2⟩ := info_parts infoIns4
  have HE := Lib.hid hE
  obtain ⟨z, hz⟩ : ∃ z, z = n0 % 12 := ⟨_, rfl⟩
  obtain ⟨n, hn⟩ : ∃ n, n = 4090 + z := ⟨_, rfl⟩
  have ez : (n0 : Int) % 12 = z := by omega
  have en : (4090 : Int) + (z : Int) = n := by omega
  have hz12 : z < 12 := by omega
  have hnl : 4090 ≤ n ∧ n < 4102 := by omega
  have HA := Lib.hid (And.intro hz hn)
  clear hz hn hE
  go_enter Tryd.func6, Tryd.ntmps6
  go_wp2_with fail
  refine (awake_any _ HE.out).mono ?_
  rintro e w1 ⟨rfl, hb1⟩
  have Hb1 := Lib.hid hb1
  clear hb1
  go_wp2_with (at_make; refine wpList_make_full _ rfl _ _ 28 rfl w.heap.size 38 i0 _ 4 Tryd.underlying28 hi hz0 hz1 .i64 .i64 _ _ n rfl rfl (by omega) (by omega) (by rw [hz2]; omega) (by unfold maxLen; omega) Hb1.out.size ?_; intro w2 hown2 hg2; have HR := Lib.hid (show Rets w w2 w1.heap.size n 0 _ from ⟨hown2, Hb1.out.grown hg2 Hb1.out.size (fun k hk => by cases hk)⟩); clear hown2 hg2)
  obtain ⟨R0, HR0⟩ : ∃ R, Hid (Rets w w2 w1.heap.size n 0 R) := ⟨_, HR⟩
  clear HR
  generalize w1.heap.size = g at *
  go_loopw [22] (fun i wr => ∃ q R, q ≤ n ∧ i = .int .i64 (q : Nat) ∧ Hid (Rets w wr g n q R)) (fun i _ => n - (intOf i).toNat)
  case atStart => exact ⟨0, R0, by omega, rfl, HR0⟩
  case round =>
    obtain ⟨q, R, hq, rfl, HR⟩ := hrel
    by_cases hlt : q < n
    · obtain ⟨v0, v1, v2, v3, R', ⟨c0, c1, c2, c3⟩, hnext⟩ := HR.out.step hlt
      have f0 := HR.out.own.frozenAt (q * 4)
      have f1 := HR.out.own.frozenAt (q * 4 + 1)
      have f2 := HR.out.own.frozenAt (q * 4 + 2)
      have f3 := HR.out.own.frozenAt (q * 4 + 3)
      have HN := Lib.hid hnext
      clear hnext HR
      go_wp2_with fail
      go_roundw
      case rel => exact ⟨q + 1, R', by omega, by go_num, HN⟩
      case measure => simp [intOf]; omega
    · obtain rfl : q = n := by omega
      have hown := HR.out.own
      obtain rfl : R = [] := List.eq_nil_of_length_eq_zero (by have := HR.out.len; omega)
      rw [List.append_nil] at hown
      obtain ⟨A9, c9, he9, _, hs9⟩ := own_seg hown
      simp only [Value.slice.injEq, true_and] at he9
      obtain ⟨rfl, rfl⟩ := he9
      obtain ⟨L, hL⟩ : ∃ L, L = List.replicate q tI := ⟨_, rfl⟩
      have hLl : L.length = q := by rw [hL, List.length_replicate]
      have hLt : (text L).length = q * 4 := by rw [hL]; exact text_rep q
      have hLok : ∀ i ∈ L, i.ok := by rw [hL]; exact rep_ok q
      rw [← hL] at hs9
      have HB := Lib.hid HR.out.bel
      have htx := text_any L (some ⟨g, 0, none⟩) q wr hLok (by omega) (by rw [hLl]; exact hs9.rd) (HE.out.below HB.out)
      rw [hLl] at htx
      have Htx := Lib.hid htx
      have Hpp : Hid (∀ W, Env W → Calls Tryd.prog 14 #[.string ⟨(text L).toArray⟩] W (ParsePost (text L) W)) := Lib.hid (fun W E => parse_any ⟨(text L).toArray⟩ W (by rw [Lib.size_eq]; show (text L).toArray.toList.length ≤ _; rw [List.toList_toArray]; omega) (text_ascii L) E)
      clear hown hs9 htx HR hL
      by_cases hm : 4096 < q
      · have t1 : (4096 : Int) < (q : Int) := by omega
        have hpb := parseB_more L hLok (by omega)
        have Hpb := Lib.hid hpb
        clear hpb hm
        go_wp2_with fail
        refine Htx.out.mono ?_
        rintro e w3 ⟨rfl, hb3⟩
        have HB3 := Lib.hid (HB.out.trans (hb3.mono HB.out.size))
        clear hb3
        go_wp2_with fail
        refine (Hpp.out _ (HE.out.below HB3.out)).mono ?_
        unfold ParsePost
        rw [Hpb.out]
        rintro e w4 ⟨A, c, rfl, hc, _, hb4⟩
        have HB4 := Lib.hid (HB3.out.trans (hb4.mono HB3.out.size))
        clear hb4 hc
        go_wp2_with fail
        go_ret
        exact ⟨rfl, HB4.out⟩
      · have t1 : ¬ (4096 : Int) < (q : Int) := by omega
        have hpb := parseB_text L hLok (by omega)
        have Hpb := Lib.hid hpb
        clear hpb hm
        go_wp2_with fail
        refine Htx.out.mono ?_
        rintro e w3 ⟨rfl, hb3⟩
        have HB3 := Lib.hid (HB.out.trans (hb3.mono HB.out.size))
        clear hb3
        go_wp2_with fail
        refine (Hpp.out _ (HE.out.below HB3.out)).mono ?_
        unfold ParsePost
        rw [Hpb.out]
        rintro e w4 ⟨A, c, rfl, hc, _, hb4⟩
        have HB4 := Lib.hid (HB3.out.trans (hb4.mono HB3.out.size))
        clear hb4 hc
        simp only [hLl]
        obtain ⟨b0, hb, hy0, hy1, hy2⟩ := info_parts infoU8
        obtain ⟨N, hN1, hN2⟩ : ∃ N : Nat, 65537 ≤ N ∧ N ≤ 65537 := ⟨65537, by omega, by omega⟩
        go_wp2_with (at_make; refine wpList_make_full _ rfl _ _ 40 rfl w.heap.size 5 b0 (.int .u8 0) 1 Tryd.underlying40 hb hy0 hy1 .i64 .i64 _ _ N rfl rfl (by omega) (by omega) (by rw [hy2]; omega) (by unfold maxLen; omega) HB4.out.size ?_; intro w5 hown5 hg5; have hcv := zeros_conv hown5; have HB5 := Lib.hid (HB4.out.grown hg5 HB4.out.size (fun k hk => by cases hk)); clear hown5 hg5)
        refine (parse_long ⟨(List.replicate N (0 : UInt8)).toArray⟩ _ (by rw [zeros_size]; omega)).mono ?_
        rintro e w6 ⟨rfl, rfl⟩
        clear hcv
        go_wp2_with fail
        go_ret
        exact ⟨rfl, HB5.out⟩
theorem walk_asmMany (n : Int) (w : World) (h0 : (Lit.int .u8 n).wf = true) (hE : Env w) : Calls Tryd.prog 6 #[.int .u8 n] w (Yes w) := by
  obtain ⟨l0, u0⟩ := bounds_u8 h0
  obtain ⟨n0, rfl⟩ := Int.eq_ofNat_of_zero_le l0
  exact walk_many n0 w (by omega) hE
end Go.Proofs.YthiohihbcfahhaaDoor
