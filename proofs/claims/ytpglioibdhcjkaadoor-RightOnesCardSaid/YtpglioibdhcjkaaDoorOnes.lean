/- Any name, any sets: bits one by one. -/
import Derived.Test.YtpglioibdhcjkaaDoorAlg
import Derived.Deep.CutRange
namespace Go.Proofs.YtpglioibdhcjkaaDoor
open Go.RowKit

def valP (a k : Nat) : Bool := (List.range k).all fun i => !a.testBit i || decide (i ∈ nbits)
def hasP (a b k : Nat) : Bool := (List.range k).all fun i => !b.testBit i || a.testBit i
theorem valP_succ (a k : Nat) : valP a (k + 1) = (valP a k && (!a.testBit k || decide (k ∈ nbits))) := by
  unfold valP; rw [List.range_succ, List.all_append]; simp
theorem hasP_succ (a b k : Nat) : hasP a b (k + 1) = (hasP a b k && (!b.testBit k || a.testBit k)) := by
  unfold hasP; rw [List.range_succ, List.all_append]; simp
theorem high_bit (a k : Nat) (ha : a < 65536) (h : 16 ≤ k) : a.testBit k = false :=
  Nat.testBit_lt_two_pow (Nat.lt_of_lt_of_le ha (Nat.pow_le_pow_right (by omega) h : 2 ^ 16 ≤ 2 ^ k))
theorem mask_none : ∀ k, k < 16 → Nat.testBit 14336 k = !decide (k ∈ nbits) := by decide
theorem valid_all (a : Nat) (ha : a < 65536) : decide (a &&& 14336 = 0) = valP a 16 := by
  rw [Bool.eq_iff_iff, decide_eq_true_iff, valP, List.all_eq_true]
  constructor
  · intro h i hi
    have hi' : i < 16 := by simpa using hi
    have := congrArg (·.testBit i) h
    simp only [Nat.testBit_and, Nat.zero_testBit, mask_none i hi'] at this
    cases e : a.testBit i
    · simp
    · rw [e] at this; simpa using this
  · intro h
    apply Nat.eq_of_testBit_eq
    intro i
    rw [Nat.testBit_and, Nat.zero_testBit]
    by_cases hi : i < 16
    · have := h i (by simpa using hi)
      rw [mask_none i hi]
      cases e : a.testBit i
      · rfl
      · rw [e] at this; simp at this; simp [this]
    · rw [high_bit a i ha (by omega)]; rfl
theorem has_all (a b : Nat) (hb : b < 65536) : hasB a b = hasP a b 16 := by
  rw [Bool.eq_iff_iff, has_iff, hasP, List.all_eq_true]
  constructor
  · intro h i _
    cases e : b.testBit i
    · simp
    · simp [h i e]
  · intro h i hbi
    by_cases hi : i < 16
    · have := h i (by simpa using hi)
      rw [hbi] at this; simpa using this
    · rw [high_bit b i hb (by omega)] at hbi; cases hbi
theorem fold_all (a : Nat) (ha : a < 65536) : (Eb a 16).foldl (fun b i => b ||| 2 ^ i) 0 = a := by
  apply Nat.eq_of_testBit_eq
  intro k
  rw [foldl_bits, Nat.zero_testBit, Bool.false_or, Bool.eq_iff_iff]
  simp only [Eb, decide_eq_true_eq, List.mem_filter, List.mem_range]
  constructor
  · exact fun h => h.2
  · intro h
    refine ⟨?_, h⟩
    rcases Nat.lt_or_ge k 16 with g | g
    · exact g
    · rw [high_bit a k ha g] at h; cases h
theorem cnt_one : ∀ i, i < 16 → cnt (2 ^ i) = 1 := by decide
theorem Eb_pair (a i j : Nat) (h : i < j) (hj : j < (Eb a 16).length) : (Eb a 16)[i] < (Eb a 16)[j] := by
  have hp : (Eb a 16).Pairwise (· < ·) := List.Pairwise.filter _ List.pairwise_lt_range
  exact List.pairwise_iff_getElem.1 hp i j (by omega) hj h
theorem Eb_pair2 (a : Nat) : ∀ (i j x y : Nat), i < j → (Eb a 16)[i]? = some x → (Eb a 16)[j]? = some y → x < y := by
  intro i j x y h hx hy
  obtain ⟨h1, rfl⟩ := List.getElem?_eq_some_iff.1 hx
  obtain ⟨h2, rfl⟩ := List.getElem?_eq_some_iff.1 hy
  exact Eb_pair a i j h h2
theorem Eb_mem (a i : Nat) (h : i ∈ Eb a 16) : i < 16 := by simpa using (List.mem_filter.1 h).1
theorem fold_take (L : List Nat) (k : Nat) (h : k < L.length) : (L.take (k + 1)).foldl (fun b i => b ||| 2 ^ i) 0 = (L.take k).foldl (fun b i => b ||| 2 ^ i) 0 ||| 2 ^ L[k] := by
  rw [List.take_succ_eq_append_getElem h, List.foldl_append]; rfl
theorem fold_lt : ∀ (L : List Nat) (a : Nat), a < 65536 → (∀ i ∈ L, i < 16) → L.foldl (fun b i => b ||| 2 ^ i) a < 65536
  | [], a, h, _ => h
  | i :: r, a, h, g => fold_lt r _ (bit_or_lt a i h (g i (by simp))) (fun j hj => g j (by simp [hj]))
theorem ref_cells {w wr : World} (h : Below (w.alloc (.cells refTable 40)).heap.size (w.alloc (.cells refTable 40)) wr) (k : Nat) (hk : k < 13) :
    wr.cell? ⟨w.heap.size, k * 2, none⟩ = some (.int .i64 (bt k : Nat)) ∧ wr.cell? ⟨w.heap.size, k * 2 + 1, none⟩ = some (.string (ns (bt k))) := by
  have hz : w.heap.size < (w.alloc (.cells refTable 40)).heap.size := by simp
  have hb : (w.alloc (.cells refTable 40)).heap[w.heap.size]? = some (.cells refTable 40 (0, 0)) := (heap_alloc_new w _)
  refine ⟨(h.cell (p := ⟨w.heap.size, k * 2, none⟩) hz).trans ?_, (h.cell (p := ⟨w.heap.size, k * 2 + 1, none⟩) hz).trans ?_⟩
  · simp only [World.cell?, hb]; exact ref_at0 k hk
  · simp only [World.cell?, hb]; exact ref_at1 k hk

set_option maxRecDepth 100000 in
set_option maxHeartbeats 4000000 in
theorem ones_nat (s : ByteArray) (a b : Nat) (w : World) (hs : s.size ≤ maxLen) (ha : a < 65536) (hb : b < 65536) (h : NamesAt w) :
    Calls Tryd.prog 4 #[.string s, .int .u16 a, .int .u16 b] w fun e w' => e = .returned (.bool true) ∧ Below w.heap.size w w' := by
  have H := Lib.hid h
  clear h
  go_enter Tryd.func4, Tryd.ntmps4
  go_wp2_with fail
  refine (awake_any _ H.out).mono ?_
  rintro e w1 ⟨rfl, hb1⟩
  have Hb1 := Lib.hid hb1
  have HN1 := Lib.hid (H.out.below hb1)
  clear hb1
  go_wp2_with fail
  refine (new_any _).mono ?_
  rintro e w2 ⟨rfl, hb2⟩
  have Hb2 := Lib.hid (Hb1.out.trans (hb2.mono Hb1.out.size))
  have HN2 := Lib.hid (HN1.out.below hb2)
  clear hb2
  have hone := one_any s w2 HN2.out ⟨w1.heap.size, 0, none⟩
  obtain ⟨ov, hov⟩ : ∃ ov, ov = oneV s.data.toList := ⟨_, rfl⟩
  obtain ⟨ob, hob⟩ : ∃ ob, ob = (idx s.data.toList).isSome := ⟨_, rfl⟩
  rw [← hov, ← hob] at hone
  have Hov := Lib.hid hov
  have Hob := Lib.hid hob
  clear hov hob
  go_wp2_with fail
  refine hone.mono ?_
  clear hone
  rintro e w' ⟨rfl, rfl⟩
  go_wp2_with fail
  refine (ref_rights _).mono ?_
  rintro e w3 ⟨rfl, rfl⟩
  go_wp2_with fail
  go_loopw [10, 38] (fun bv kv wr => ∃ (k : Nat) (v : Int), k ≤ 13 ∧ kv = .int .i64 k ∧ bv = .int .i64 v ∧ Hid (Fd s.data.toList k v) ∧ Hid (Below (w2.alloc (.cells refTable 40)).heap.size (w2.alloc (.cells refTable 40)) wr)) (fun _ kv _ => 13 - (intOf kv).toNat)
  case atStart => exact ⟨0, -1, by omega, rfl, rfl, .inl ⟨fun j hj => absurd hj (by omega), rfl⟩, Below.refl _ _⟩
  case round =>
    obtain ⟨k, v, hk, rfl, rfl, Hf, Hbr⟩ := hrel
    by_cases hkl : k < 13
    · obtain ⟨s0, s1⟩ := ref_cells Hbr.out k hkl
      by_cases heq : nm (bt k) = s.data.toList
      · have Hf2 := Lib.hid (Fd_hit _ k heq)
        obtain ⟨b, hbe⟩ : ∃ b, b = bt k := ⟨_, rfl⟩
        rw [← hbe] at s0 s1 heq Hf2
        have hb2 : ((ns b).toList == s.toList) = true := by rw [toList_data, toList_data, ← heq]; simp [ns]
        have hb3 : (nm b == s.toList) = true := by rw [toList_data, ← heq]; simp
        clear hbe heq
        go_wp2_with fail
        go_roundw
        case rel => exact ⟨k + 1, b, by omega, by go_num, rfl, Hf2, Hbr.out.alloc Hbr.out.size _⟩
        case measure => simp [intOf]; omega
      · have Hf2 := Lib.hid (Fd_miss _ k v heq Hf.out)
        obtain ⟨b, hbe⟩ : ∃ b, b = bt k := ⟨_, rfl⟩
        rw [← hbe] at s0 s1 heq
        have hb2 : ((ns b).toList == s.toList) = false := by rw [toList_data, toList_data]; simpa [ns] using heq
        have hb3 : (nm b == s.toList) = false := by rw [toList_data]; simpa using heq
        have Hq := Lib.hid heq
        clear hbe heq
        go_wp2_with fail
        go_roundw
        case rel => exact ⟨k + 1, v, by omega, by go_num, rfl, Hf2, Hbr.out.alloc Hbr.out.size _⟩
        case measure => simp [intOf]; omega
    · obtain rfl : k = 13 := by omega
      have Hb3 : Hid (Below w.heap.size w wr) := (Hb2.out.alloc Hb2.out.size _).trans (Hbr.out.mono (by have := Hb2.out.size; simp; omega))
      have HN3 := Lib.hid (H.out.below Hb3.out)
      go_upto_region 12 with fail
      go_cut [69] from 49 (fun s69 wx => s69 = .bool false ∧ wx = wr)
      case first =>
        rcases Fd_end _ _ Hf.out with ⟨hix, rfl⟩ | ⟨ib, hix, hib, rfl⟩
        · obtain rfl : ob = false := by rw [Hob.out, hix]; rfl
          obtain rfl : ov = 0 := by rw [Hov.out, oneV, hix]
          clear hix Hf Hbr
          go_wp2_with fail
          go_meet
          case rel => exact ⟨rfl, rfl⟩
        · obtain rfl : ob = true := by rw [Hob.out, hix]; rfl
          have hq : ov = 2 ^ ib := by rw [Hov.out, oneV, hix]
          have hpw := pow_lt ib hib
          rw [← hq] at hpw
          have hw : IntKind.u16.wrap (2 ^ ib) = (ov : Int) := by
            have e : ((2 : Int) ^ ib) = ((2 ^ ib : Nat) : Int) := by rw [Int.natCast_pow]; rfl
            rw [IntKind.wrap_u16, e, ← hq]; omega
          clear hix Hf Hbr hq
          go_wp2_with fail
          go_meet
          case rel => exact ⟨rfl, rfl⟩
      case rest =>
        obtain ⟨rfl, rfl⟩ := hcut
        clear Hf Hbr
        go_wp2_with fail
        go_loopw [16, 17, 18, 72] (fun mv hv vv iv wr => ∃ k : Nat, k ≤ 16 ∧ iv = .int .i64 k ∧ mv = .int .i64 (Eb a k).length ∧ hv = .bool (hasP a b k) ∧ vv = .bool (valP a k) ∧ Hid (Below w.heap.size w wr)) (fun _ _ _ iv _ => 16 - (intOf iv).toNat)
        case atStart => exact ⟨0, by omega, rfl, rfl, rfl, rfl, Hb3⟩
        case round =>
          obtain ⟨k, hk, rfl, rfl, rfl, rfl, Hbk⟩ := hrel
          rename World => wk
          have hmle := Eb_le a k
          by_cases hlt : k < 16
          · have hk15 : k ≤ 15 := by omega
            have Hvs := Lib.hid (valP_succ a k)
            have Hhs := Lib.hid (hasP_succ a b k)
            have Hm0 := Lib.hid (Eb_miss a k)
            have Hm1 := Lib.hid (Eb_hit a k)
            go_wp2_with fail
            refine (ref_rights _).mono ?_
            rintro e w4 ⟨rfl, rfl⟩
            go_wp2_with fail
            go_loopw [20, 77] (fun nv jv wq => ∃ j : Nat, j ≤ 13 ∧ jv = .int .i64 j ∧ nv = .bool (decide (k ∈ nbits.take j)) ∧ Hid (Below (wk.alloc (.cells refTable 40)).heap.size (wk.alloc (.cells refTable 40)) wq)) (fun _ jv _ => 13 - (intOf jv).toNat)
            case atStart => exact ⟨0, by omega, rfl, rfl, Below.refl _ _⟩
            case round =>
              obtain ⟨j, hj, rfl, rfl, Hbq⟩ := hrel
              by_cases hjl : j < 13
              · obtain ⟨s0, s1⟩ := ref_cells Hbq.out j hjl
                have Htk := Lib.hid (take_bt j hjl)
                obtain ⟨N, hN⟩ : ∃ N, N = decide (k ∈ nbits.take j) := ⟨_, rfl⟩
                rw [← hN]
                have HN := Lib.hid hN
                clear hN
                obtain ⟨bb, hbb⟩ : ∃ bb, bb = bt j := ⟨_, rfl⟩
                rw [← hbb] at s0 s1
                have Hbb := Lib.hid hbb
                clear hbb
                by_cases he : bb = k
                · have he1 : ((bb : Int) == (k : Int)) = true := by simp; omega
                  have Hx := Lib.hid (show true = decide (k ∈ nbits.take (j + 1)) by rw [Htk.out, ← Hbb.out, he]; simp)
                  clear he
                  cases N
                  all_goals
                    go_wp2_with fail
                    go_roundw
                    case rel => exact ⟨j + 1, by omega, by go_num, by rw [← Hx.out], Hbq.out.alloc Hbq.out.size _⟩
                    case measure => simp [intOf]; omega
                · have he1 : ((bb : Int) == (k : Int)) = false := by simp; omega
                  have Hx := Lib.hid (show N = decide (k ∈ nbits.take (j + 1)) by
                    rw [HN.out, Htk.out, ← Hbb.out]; simp [show ¬ k = bb from fun e => he e.symm])
                  clear he
                  cases N
                  all_goals
                    go_wp2_with fail
                    go_roundw
                    case rel => exact ⟨j + 1, by omega, by go_num, by rw [← Hx.out], Hbq.out.alloc Hbq.out.size _⟩
                    case measure => simp [intOf]; omega
              · obtain rfl : j = 13 := by omega
                have Hbz : Hid (Below w.heap.size w wr) := (Hbk.out.alloc Hbk.out.size _).trans (Hbq.out.mono (by have := Hbk.out.size; simp; omega))
                have hac := fun w => refHas_any a k w ha hk15
                have hbc := fun w => refHas_any b k w hb hk15
                rw [show decide (k ∈ nbits.take 13) = decide (k ∈ nbits) from rfl]
                obtain ⟨N, hN⟩ : ∃ N, N = decide (k ∈ nbits) := ⟨_, rfl⟩
                obtain ⟨A, hA⟩ : ∃ A, A = a.testBit k := ⟨_, rfl⟩
                obtain ⟨B, hB⟩ : ∃ B, B = b.testBit k := ⟨_, rfl⟩
                obtain ⟨V, hV⟩ : ∃ V, V = valP a k := ⟨_, rfl⟩
                obtain ⟨P, hP⟩ : ∃ P, P = hasP a b k := ⟨_, rfl⟩
                rw [← hN, ← hV, ← hP]
                rw [← hA] at hac
                rw [← hB] at hbc
                have hV2 : Hid (valP a (k + 1) = (V && (!A || N))) := by rw [Hvs.out, ← hV, ← hA, ← hN]; rfl
                have hP2 : Hid (hasP a b (k + 1) = (P && (!B || A))) := by rw [Hhs.out, ← hP, ← hA, ← hB]; rfl
                have hM2 : Hid ((Eb a (k + 1)).length = (Eb a k).length + if A then 1 else 0) := by
                  cases A
                  · rw [Hm0.out hA.symm]; rfl
                  · rw [Hm1.out hA.symm, List.length_append]; rfl
                have Hac := Lib.hid hac
                have Hbc := Lib.hid hbc
                clear hN hA hB hV hP hac hbc Hbq Hbk
                cases A
                all_goals
                  go_wp2_with fail
                  refine (Hac.out _).mono ?_
                  rintro e w5 ⟨rfl, rfl⟩
                  go_wp2_with (go_at_call 16; refine (Hbc.out _).mono ?_; rintro e w6 ⟨rfl, rfl⟩)
                all_goals
                  go_roundw
                  case rel =>
                    repeat apply Exists.intro
                    exact ⟨⟨k + 1, by omega, by go_num, by rw [hM2.out]; go_num, by rw [hP2.out]; first | rfl | simp [*], by rw [hV2.out]; first | rfl | simp [*], Hbz⟩, rfl⟩
                  case measure => simp [intOf]; omega
          · obtain rfl : k = 16 := by omega
            have hLm : ∀ i ∈ Eb a 16, i < 16 := Eb_mem a
            have hfa := fold_all a ha
            have hpair := Eb_pair2 a
            have hval := fun w => valid_any a w ha
            rw [valid_all a ha] at hval
            have hhas := fun w => has_any a b w ha hb
            rw [has_all a b hb] at hhas
            have hcnt := fun w => count_any a w ha
            rw [show cnt a = (Eb a 16).length from rfl] at hcnt
            have heach := each_any a wk ha
            unfold EachPost at heach
            obtain ⟨L, hL⟩ : ∃ L, L = Eb a 16 := ⟨_, rfl⟩
            obtain ⟨V, hV⟩ : ∃ V, V = valP a 16 := ⟨_, rfl⟩
            obtain ⟨P, hP⟩ : ∃ P, P = hasP a b 16 := ⟨_, rfl⟩
            rw [← hL] at hLm hfa hcnt heach hmle hpair ⊢
            rw [← hV] at hval ⊢
            rw [← hP] at hhas ⊢
            have HLm := Lib.hid hLm
            have Hfa := Lib.hid hfa
            have Hpair := Lib.hid hpair
            have Hval := Lib.hid hval
            have Hhas := Lib.hid hhas
            have Hcnt := Lib.hid hcnt
            clear hL hV hP hLm hfa hpair hval hhas hcnt
            go_wp2_with fail
            refine heach.mono ?_
            clear heach
            rintro e w3 ⟨v, rfl, hown, hb3⟩
            have Hb4 := Lib.hid (Hbk.out.trans (hb3.mono Hbk.out.size))
            clear hb3
            rcases hown.2 with ⟨rfl, hz⟩ | ⟨g, cap, cur, rfl, hbase, hg, hcap, hmax, hsz, htake⟩
            · have hnil : L = [] := List.eq_nil_of_length_eq_zero hz
              subst hnil
              have ha0 : a = 0 := Hfa.out.symm
              subst ha0
              clear hown
              go_wp2_with fail
              go_loop [15, 120] (fun sv iv => sv = .int .u16 0 ∧ iv = .int .i64 0) (fun _ _ => 0)
              case atStart => exact ⟨rfl, rfl⟩
              case round =>
                obtain ⟨rfl, rfl⟩ := hrel
                go_wp2_with (first | (go_at_call 18; refine (Hcnt.out _).mono ?_; rintro e w4 ⟨rfl, nn, rfl⟩) | (go_at_call 19; refine (Hval.out _).mono ?_; rintro e w4 ⟨rfl, rfl⟩) | (go_at_call 20; refine (Hhas.out _).mono ?_; rintro e w4 ⟨rfl, rfl⟩))
                go_ret
                exact ⟨rfl, Hb4.out.trans (below_drewN (Below.refl _ _) _)⟩
            · have hgl : g < w3.heap.size := (Array.getElem?_eq_some_iff.1 hg).1
              rw [Nat.mul_one] at htake
              have hcell : ∀ (j : Nat) (hj : j < L.length), w3.cell? ⟨g, j, none⟩ = some (.int .u16 ((2 ^ L[j] : Nat) : Int)) := fun j hj =>
                row_cell hg htake j hj _ (by rw [List.getElem?_map, List.getElem?_eq_getElem hj]; rfl)
              have Hcell := Lib.hid hcell
              clear hcell hown hg htake hsz hmax hcap
              go_wp2_with fail
              go_loopw [15, 120] (fun sv iv wr => ∃ (k A : Nat), k ≤ L.length ∧ iv = .int .i64 k ∧ sv = .int .u16 A ∧ A < 65536 ∧ Hid (A = (L.take k).foldl (fun b i => b ||| 2 ^ i) 0) ∧ Hid (Below w3.heap.size w3 wr)) (fun _ iv _ => L.length - (intOf iv).toNat)
              case atStart => exact ⟨0, 0, by omega, rfl, rfl, by omega, rfl, Below.refl _ _⟩
              case round =>
                obtain ⟨k, A, hk, rfl, rfl, hA, HA, Hbr⟩ := hrel
                by_cases hlt : k < L.length
                · have hc := (Hbr.out.cell (p := ⟨g, k, none⟩) hgl).trans (Hcell.out k hlt)
                  have hm := HLm.out _ (List.getElem_mem hlt)
                  have hft := fold_take L k hlt
                  rw [← HA.out] at hft
                  have hco := fun w => count_any (2 ^ L[k]) w (pow_lt _ hm)
                  rw [cnt_one _ hm] at hco
                  have hpw := pow_lt _ hm
                  have hor := u16_or_nat A (2 ^ L[k]) hA hpw
                  have hol := bit_or_lt A _ hA hm
                  have hprev : ∀ j, j + 1 = k → ∃ q1 : Nat, wr.cell? ⟨g, j, none⟩ = some (.int .u16 (q1 : Int)) ∧ q1 < 2 ^ L[k] := fun j hj => by
                    subst hj
                    exact ⟨2 ^ L[j], (Hbr.out.cell (p := ⟨g, j, none⟩) hgl).trans (Hcell.out j (by omega)), Nat.pow_lt_pow_right (by omega) (Hpair.out j (j + 1) _ _ (by omega) (List.getElem?_eq_getElem (by omega)) (List.getElem?_eq_getElem hlt))⟩
                  obtain ⟨q, hq⟩ : ∃ q, q = 2 ^ L[k] := ⟨_, rfl⟩
                  rw [← hq] at hc hco hpw hor hol hft hprev
                  have Hft := Lib.hid hft
                  have Hco := Lib.hid hco
                  have Hq := Lib.hid hq
                  clear hq hft hco hm
                  cases k with
                  | zero =>
                    clear hprev
                    go_wp2_with (first | (go_at_call 18; refine (Hco.out _).mono ?_; rintro e w4 ⟨rfl, nn, rfl⟩))
                    go_roundw
                    case rel => exact ⟨1, A ||| q, by omega, by go_num, rfl, hol, Hft.out.symm, (below_drewN Hbr.out _)⟩
                    case measure => simp [intOf]; omega
                  | succ j =>
                    obtain ⟨q1, hc1, hlt1⟩ := hprev j rfl
                    have hnge : ¬ (q : Int) ≤ (q1 : Int) := by omega
                    clear hprev
                    go_wp2_with (first | (go_at_call 18; refine (Hco.out _).mono ?_; rintro e w4 ⟨rfl, nn, rfl⟩))
                    go_roundw
                    case rel => exact ⟨j + 1 + 1, A ||| q, by omega, by go_num, rfl, hol, Hft.out.symm, (below_drewN Hbr.out _)⟩
                    case measure => simp [intOf]; omega
                · obtain rfl : k = L.length := by omega
                  obtain rfl : A = a := by rw [HA.out, List.take_length]; exact Hfa.out
                  go_wp2_with (first | (go_at_call 18; refine (Hcnt.out _).mono ?_; rintro e w4 ⟨rfl, nn, rfl⟩) | (go_at_call 19; refine (Hval.out _).mono ?_; rintro e w4 ⟨rfl, rfl⟩) | (go_at_call 20; refine (Hhas.out _).mono ?_; rintro e w4 ⟨rfl, rfl⟩))
                  go_ret
                  exact ⟨by simp, below_drewN (Hb4.out.trans (Hbr.out.mono Hb4.out.size)) _⟩
theorem walk_rightOnes (s : ByteArray) (a b : Int) (w : World) (hs : s.size ≤ maxLen) (ha : (Lit.int .u16 a).wf = true) (hb : (Lit.int .u16 b).wf = true) (h : NamesAt w) :
    Calls Tryd.prog 4 #[.string s, .int .u16 a, .int .u16 b] w fun e w' => e = .returned (.bool true) ∧ Below w.heap.size w w' := by
  obtain ⟨h0, h1⟩ := bounds_u16 ha
  obtain ⟨n, rfl⟩ := Int.eq_ofNat_of_zero_le h0
  obtain ⟨h2, h3⟩ := bounds_u16 hb
  obtain ⟨m, rfl⟩ := Int.eq_ofNat_of_zero_le h2
  exact ones_nat s n m w hs (by omega) (by omega) h
end Go.Proofs.YtpglioibdhcjkaaDoor
