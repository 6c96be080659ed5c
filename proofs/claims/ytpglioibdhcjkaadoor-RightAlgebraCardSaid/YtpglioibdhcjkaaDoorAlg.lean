/- Any three sets: what both have, either has; counts; texts of one are those of its parts. -/
import Derived.Test.YtpglioibdhcjkaaDoorFitsW
namespace Go.Proofs.YtpglioibdhcjkaaDoor
open Go.RowKit

theorem has_iff (a b : Nat) : hasB a b = true ↔ ∀ k, b.testBit k = true → a.testBit k = true := by
  rw [hasB, decide_eq_true_iff]
  constructor
  · intro h k hk
    have := congrArg (·.testBit k) h
    simp only [Nat.testBit_and, hk, Bool.and_true] at this
    exact this
  · intro h
    apply Nat.eq_of_testBit_eq
    intro k
    rw [Nat.testBit_and]
    cases e : b.testBit k
    · simp
    · rw [h k e]; rfl
theorem has_and_l (x y : Nat) : hasB x (x &&& y) = true := (has_iff _ _).2 fun k h => by rw [Nat.testBit_and, Bool.and_eq_true] at h; exact h.1
theorem has_and_r (x y : Nat) : hasB y (x &&& y) = true := (has_iff _ _).2 fun k h => by rw [Nat.testBit_and, Bool.and_eq_true] at h; exact h.2
theorem has_or_l (x y : Nat) : hasB (x ||| y) x = true := (has_iff _ _).2 fun k h => by rw [Nat.testBit_or, h]; rfl
theorem has_or_r (x y : Nat) : hasB (x ||| y) y = true := (has_iff _ _).2 fun k h => by rw [Nat.testBit_or, h, Bool.or_true]
theorem has_trans (x y z : Nat) (h : hasB x y = true) (g : hasB y z = true) : hasB x z = true :=
  (has_iff _ _).2 fun k hk => (has_iff _ _).1 h k ((has_iff _ _).1 g k hk)
theorem len_filter_add {α : Type} (p q : α → Bool) : ∀ l : List α, (l.filter p).length + (l.filter q).length = (l.filter fun a => p a && q a).length + (l.filter fun a => p a || q a).length
  | [] => rfl
  | a :: l => by
    have := len_filter_add p q l
    cases hp : p a <;> cases hq : q a <;> simp [hp, hq] <;> omega
theorem cnt_add (x y : Nat) : cnt x + cnt y = cnt (x &&& y) + cnt (x ||| y) := by
  unfold cnt
  rw [len_filter_add]
  congr 2 <;> congr 1 <;> funext k
  · rw [Nat.testBit_and]
  · rw [Nat.testBit_or]
/-- The bits of what has a name. -/
theorem Eb_named (x : Nat) : Eb (x &&& 51199) 16 = named x := by
  rw [← Kb_all, Eb, Kb]
  apply List.filter_congr
  intro i hi
  have hi' : i < 16 := by simpa using hi
  rw [Nat.testBit_and, mask_bits i hi', Bool.and_comm]
  congr 1
  have := nbits_mem i hi'
  rw [Bool.eq_iff_iff]; simp [this]
theorem text_bit : ∀ i ∈ nbits, textL (2 ^ i) = nm i := by decide

theorem text_of_bit (b : Nat) (hb : b ∈ nbits) (w : World) (h : NamesAt w) : Calls Tryd.prog 12 #[.int .u16 ((2 ^ b : Nat) : Int)] w fun e w' =>
    e = .returned (.string (ns b)) ∧ Below w.heap.size w w' := by
  have := text_any (2 ^ b) w (pow_lt b (nbits_lt b hb)) h
  rw [text_bit b hb] at this
  exact this
theorem row_cell {w : World} {g n : Nat} {cur : Array Value} {t : TypeId} {xs : List Value} (hg : w.heap[g]? = some (.cells cur t (0, 0))) (htake : cur.toList.take n = xs) (j : Nat) (hj : j < n) (x : Value) (hx : xs[j]? = some x) :
    w.cell? ⟨g, j, none⟩ = some x := by
  rw [← htake, List.getElem?_take_of_lt hj] at hx
  simp only [World.cell?, hg, Option.isSome_none, Bool.false_eq_true, if_false]
  rw [← Array.getElem?_toList]; exact hx
theorem text_nil (x : Nat) (h : named x = []) : textL x = [45] := by rw [textL, if_pos h]
theorem text_txt (x : Nat) (h : named x ≠ []) : textL x = txt (named x) := by rw [textL, if_neg h]; rfl
theorem txt_take (L : List Nat) (k : Nat) (h : k < L.length) : L.take (k + 1) = L.take k ++ [L[k]] := by
  rw [List.take_succ_eq_append_getElem h]
theorem txt_take_size (L : List Nat) (h : ∀ i ∈ L, i ∈ nbits) (h2 : L.length ≤ 16) (k : Nat) : (txt (L.take k)).length ≤ 144 :=
  join_nm _ (fun i hi => nbits_lt i (h i (List.mem_of_mem_take hi))) (Nat.le_trans (List.length_take_le' k L) h2)

set_option maxRecDepth 100000 in
set_option maxHeartbeats 2000000 in
theorem alg_nat (x y z : Nat) (w : World) (hx : x < 65536) (hy : y < 65536) (hz : z < 65536) (h : NamesAt w) :
    Calls Tryd.prog 7 #[.int .u16 x, .int .u16 y, .int .u16 z] w fun e w' => e = .returned (.bool true) ∧ Below w.heap.size w w' := by
  have H := Lib.hid h
  clear h
  have hand : bits .and .u16 (x : Int) (y : Int) = ((x &&& y : Nat) : Int) := u16_and_nat x y hx hy
  have hor : bits .or .u16 (x : Int) (y : Int) = ((x ||| y : Nat) : Int) := u16_or_nat x y hx hy
  have hk : bits .and .u16 (x : Int) 51199 = ((x &&& 51199 : Nat) : Int) := u16_and_nat x 51199 hx (by omega)
  have hB : x &&& y < 65536 := Nat.lt_of_le_of_lt Nat.and_le_left hx
  have hE : x ||| y < 65536 := Nat.or_lt_two_pow (n := 16) hx hy
  have hK : x &&& 51199 < 65536 := Nat.lt_of_le_of_lt Nat.and_le_left hx
  have t1 := has_and_l x y
  have t2 := has_and_r x y
  have t3 := has_or_l x y
  have t4 := has_or_r x y
  have hc := cnt_add x y
  have hEb := Eb_named x
  obtain ⟨B, eB⟩ : ∃ B, B = x &&& y := ⟨_, rfl⟩
  obtain ⟨E, eE⟩ : ∃ E, E = x ||| y := ⟨_, rfl⟩
  obtain ⟨K, eK⟩ : ∃ K, K = x &&& 51199 := ⟨_, rfl⟩
  rw [← eB] at hand hB t1 t2 hc
  rw [← eE] at hor hE t3 t4 hc
  rw [← eK] at hk hK hEb
  have HEb := Lib.hid hEb
  have hxyz : hasB x y = true → hasB y z = true → hasB x z = true := has_trans x y z
  clear eB eE eK hEb
  have l1 := cnt_le x
  have l2 := cnt_le y
  have l3 := cnt_le B
  have l4 := cnt_le E
  have hc2 : (cnt x : Int) + (cnt y : Int) = (cnt B : Int) + (cnt E : Int) := by omega
  have Hxyz := Lib.hid hxyz
  have Hc := Lib.hid hc
  clear hxyz hc
  go_enter Tryd.func7, Tryd.ntmps7
  go_wp2_with fail
  refine (awake_any _ H.out).mono ?_
  rintro e w1 ⟨rfl, hb1⟩
  have Hb1 := Lib.hid hb1
  have HN1 := Lib.hid (H.out.below hb1)
  clear hb1
  have hgo : (hasB x y = true ∧ hasB y z = true ∧ hasB x z = true) ∨ (hasB x y = true ∧ hasB y z = false) ∨ hasB x y = false := by
    cases h1 : hasB x y
    · exact .inr (.inr rfl)
    · cases h2 : hasB y z
      · exact .inr (.inl ⟨rfl, rfl⟩)
      · exact .inl ⟨rfl, rfl, Hxyz.out h1 h2⟩
  rcases hgo with ⟨g1, g2, g3⟩ | ⟨g1, g2⟩ | g1
  all_goals
    go_wp2_with (first | (go_at_call 20; refine (has_any _ _ _ (by first | exact hx | exact hy | exact hz | exact hB | exact hE) (by first | exact hx | exact hy | exact hz | exact hB | exact hE)).mono ?_; rintro e w' ⟨rfl, rfl⟩) | (go_at_call 18; refine (count_any _ _ (by first | exact hx | exact hy | exact hz | exact hB | exact hE)).mono ?_; rintro e w' ⟨rfl, nn, rfl⟩))
    refine (each_any K _ hK).mono ?_
    rintro e w3 ⟨v, rfl, hown, hb3⟩
    have Hb3 := Lib.hid ((below_drewN Hb1.out _).trans (hb3.mono Hb1.out.size))
    have HN3 := Lib.hid (H.out.below Hb3.out)
    rw [HEb.out] at hown
    have hLs : ∀ i ∈ named x, i ∈ nbits := fun i hi => (List.mem_filter.1 hi).1
    have hL16 : (named x).length ≤ 16 := by rw [← Kb_all]; exact Kb_le x 16
    have htx := fun w hN => text_any x w hx hN
    have hnil0 := text_nil x
    have htxt0 := text_txt x
    obtain ⟨L, hL⟩ : ∃ L, L = named x := ⟨_, rfl⟩
    rw [← hL] at hown hLs hL16 hnil0 htxt0
    have Htx := Lib.hid htx
    have Hnil0 := Lib.hid hnil0
    have Htxt0 := Lib.hid htxt0
    have HLs := Lib.hid hLs
    clear hL hb3 htx hnil0 htxt0 hLs
    rcases hown.2 with ⟨rfl, hz⟩ | ⟨g, cap, cur, rfl, hbase, hg, hcap, hmax, hsz, htake⟩
    · have ht := Htx.out
      rw [Hnil0.out (List.eq_nil_of_length_eq_zero hz)] at ht
      have Ht := Lib.hid ht
      clear ht hown
      go_wp2_with fail
      go_loop [12, 81] (fun sv iv => sv = .string ByteArray.empty ∧ iv = .int .i64 0) (fun _ _ => 0)
      case atStart => exact ⟨rfl, rfl⟩
      case round =>
        obtain ⟨rfl, rfl⟩ := hrel
        go_wp2_with (go_at_call 12; refine (Ht.out _ HN3.out).mono ?_; rintro e w4 ⟨rfl, hb4⟩)
        go_ret
        exact ⟨rfl, Hb3.out.trans (hb4.mono Hb3.out.size)⟩
    · have hgl : g < w3.heap.size := (Array.getElem?_eq_some_iff.1 hg).1
      rw [Nat.mul_one] at htake
      have hcell : ∀ (j : Nat) (hj : j < L.length), w3.cell? ⟨g, j, none⟩ = some (.int .u16 ((2 ^ L[j] : Nat) : Int)) := fun j hj =>
        row_cell hg htake j hj _ (by rw [List.getElem?_map, List.getElem?_eq_getElem hj]; rfl)
      have Hcell := Lib.hid hcell
      clear hcell hown hg htake hsz hmax hcap
      go_wp2_with fail
      go_loopw [12, 81] (fun sv iv wr => ∃ (k : Nat) (t : ByteArray), k ≤ L.length ∧ iv = .int .i64 k ∧ sv = .string t ∧ Hid (t.data.toList = txt (L.take k)) ∧ Hid (Below w3.heap.size w3 wr)) (fun _ iv _ => L.length - (intOf iv).toNat)
      case atStart => exact ⟨0, ByteArray.empty, by omega, rfl, rfl, rfl, Below.refl _ _⟩
      case round =>
        obtain ⟨k, t, hk, rfl, rfl, Ht, Hbr⟩ := hrel
        have hts : t.size ≤ 144 := by rw [Lib.size_eq, Ht.out]; exact txt_take_size L HLs.out hL16 k
        by_cases hlt : k < L.length
        · have hc := (Hbr.out.cell (p := ⟨g, k, none⟩) hgl).trans (Hcell.out k hlt)
          have hm := HLs.out _ (List.getElem_mem hlt)
          have htk := txt_take L k hlt
          obtain ⟨b, hb⟩ : ∃ b, b = L[k] := ⟨_, rfl⟩
          rw [← hb] at hc hm htk
          have hpw := pow_lt b (nbits_lt b hm)
          have hns : (ns b).size ≤ 8 := by rw [Lib.size_eq]; exact nm_len _ (nbits_lt b hm)
          have hcall := fun w hN => text_of_bit b hm w hN
          obtain ⟨q, hq⟩ : ∃ q, q = 2 ^ b := ⟨_, rfl⟩
          rw [← hq] at hc hpw hcall
          have Hcall := Lib.hid hcall
          have HNr := Lib.hid (HN3.out.below Hbr.out)
          have Htk := Lib.hid htk
          have Hq := Lib.hid hq
          have Hbb := Lib.hid hb
          clear hcall hm hq hb htk
          by_cases hk0 : k = 0
          · obtain rfl : t = ByteArray.empty := ByteArray.size_eq_zero_iff.1 (by rw [Lib.size_eq, Ht.out, hk0]; rfl)
            have Hs := Lib.hid (show (ns b).data.toList = txt (L.take (k + 1)) by rw [Htk.out, hk0]; exact (txt_one b).symm)
            have Hk0 := Lib.hid hk0
            clear hk0
            go_wp2_with (go_at_call 12; refine (Hcall.out _ HNr.out).mono ?_; rintro e w4 ⟨rfl, hb4⟩)
            go_roundw
            case rel => exact ⟨k + 1, ns b, by omega, by go_num, rfl, Hs.out, Hbr.out.trans (hb4.mono Hbr.out.size)⟩
            case measure => simp [intOf]; omega
          · have hne : L.take k ≠ [] := by
              intro e
              have := congrArg List.length e
              rw [List.length_take, List.length_nil] at this
              omega
            obtain ⟨hE, hE2⟩ := isEmpty_of_ne (s := t) (by rw [Ht.out]; exact txt_ne _ hne (fun i hi => HLs.out i (List.mem_of_mem_take hi)))
            have Hs := Lib.hid (show txt (L.take (k + 1)) = t.data.toList ++ [44] ++ nm b by rw [Htk.out, txt_snoc _ _ hne, Ht.out])
            clear hne
            go_wp2_with (go_at_call 12; refine (Hcall.out _ HNr.out).mono ?_; rintro e w4 ⟨rfl, hb4⟩)
            go_roundw
            case rel => exact ⟨k + 1, t ++ ⟨#[44]⟩ ++ ns b, by omega, by go_num, rfl, by show (t ++ ⟨#[44]⟩ ++ ns b).data.toList = _; rw [Hs.out]; simp [ns], Hbr.out.trans (hb4.mono Hbr.out.size)⟩
            case measure => simp [intOf]; omega
        · obtain rfl : k = L.length := by omega
          have HNr := Lib.hid (HN3.out.below Hbr.out)
          have Hbw := Lib.hid (Hb3.out.trans (Hbr.out.mono Hb3.out.size))
          have htl : t.data.toList = txt L := by rw [Ht.out, List.take_length]
          by_cases hnil : L = []
          · have ht := Htx.out
            rw [Hnil0.out hnil] at ht
            obtain rfl : t = ByteArray.empty := ByteArray.size_eq_zero_iff.1 (by rw [Lib.size_eq, htl, hnil]; rfl)
            have Htt := Lib.hid ht
            clear ht htl hnil
            go_wp2_with (go_at_call 12; refine (Htt.out _ HNr.out).mono ?_; rintro e w4 ⟨rfl, hb4⟩)
            go_ret
            exact ⟨rfl, Hbw.out.trans (hb4.mono Hbw.out.size)⟩
          · obtain ⟨hE, hE2⟩ := isEmpty_of_ne (s := t) (by rw [htl]; exact txt_ne _ hnil HLs.out)
            have ht := Htx.out
            rw [Htxt0.out hnil, ← htl, Lib.mk_data] at ht
            have Htt := Lib.hid ht
            clear ht htl hnil
            go_wp2_with (go_at_call 12; refine (Htt.out _ HNr.out).mono ?_; rintro e w4 ⟨rfl, hb4⟩)
            go_ret
            exact ⟨by simp, Hbw.out.trans (hb4.mono Hbw.out.size)⟩
theorem walk_rightAlgebra (a b c : Int) (w : World) (ha : (Lit.int .u16 a).wf = true) (hb : (Lit.int .u16 b).wf = true) (hc : (Lit.int .u16 c).wf = true) (h : NamesAt w) :
    Calls Tryd.prog 7 #[.int .u16 a, .int .u16 b, .int .u16 c] w fun e w' => e = .returned (.bool true) ∧ Below w.heap.size w w' := by
  obtain ⟨h0, h1⟩ := bounds_u16 ha
  obtain ⟨n, rfl⟩ := Int.eq_ofNat_of_zero_le h0
  obtain ⟨h2, h3⟩ := bounds_u16 hb
  obtain ⟨m, rfl⟩ := Int.eq_ofNat_of_zero_le h2
  obtain ⟨h4, h5⟩ := bounds_u16 hc
  obtain ⟨k, rfl⟩ := Int.eq_ofNat_of_zero_le h4
  exact alg_nat n m k w (by omega) (by omega) (by omega) h
end Go.Proofs.YtpglioibdhcjkaaDoor
