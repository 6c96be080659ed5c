/- Whereto a jump goes, as a listing has it. -/
import Derived.Test.YthiohihbcfahhaaDoorTold
import Derived.Test.YthiohihbcfahhaaDoorSmall
import Derived.Deep.RegionHeld3
import Derived.Deep.QuietTactic
import Derived.BigQuiet
import Derived.Outline
namespace Go.Proofs.YthiohihbcfahhaaDoor
open Go.RowKit
def goesB (i : Ins) (at' : Nat) : Bs :=
  if i.c = 5 then [32, 45, 62, 32] ++ Lib.decDigits (at' + 1 + i.k)
  else if i.c % 8 = 5 ∧ knownB i.c = true then [32, 45, 62, 32] ++ Lib.decDigits (at' + 1 + i.t) ++ [44, 32] ++ Lib.decDigits (at' + 1 + i.f) else []
theorem dec_len20' {u : Nat} (h : u < 18446744073709551616) : (Lib.decDigits u).length ≤ 20 := by
  rw [Lib.decDigits_length]
  by_cases h0 : u = 0
  · subst h0; rw [Lib.nDigits_small (by omega)]; omega
  · have := Lib.numDigits_eq u (by omega) h
    split at this <;> omega
theorem goes_len (i : Ins) (at' : Nat) (hi : i.ok) (h : at' < 10000) : (goesB i at').length ≤ 46 := by
  obtain ⟨h1, h2, h3, h4⟩ := hi
  unfold goesB
  have a1 := dec_len20' (u := at' + 1 + i.k) (by omega)
  have a2 := dec_len20' (u := at' + 1 + i.t) (by omega)
  have a3 := dec_len20' (u := at' + 1 + i.f) (by omega)
  split
  · simp; omega
  · split
    · simp; omega
    · simp
theorem to_any (far at' g : Nat) (w : World) (hf : far < 4294967296) (hat : at' < 10000) (hc : Bk w g 3 [.int .i64 at']) (hE : Env w) : Calls Tryd.prog 50 #[.int .u64 far, .pointer (some ⟨g, 0, none⟩)] w fun e w' => e = .returned (.string ⟨(Lib.decDigits (at' + 1 + far)).toArray⟩) ∧ Below w.heap.size w w' := by
  have HE := Lib.hid hE
  have c0 := hc.cell 0 rfl
  have Hp := Lib.hid (fun W (h : PowAt W) => printed_any (at' + 1 + far) (by omega) W h)
  obtain ⟨q, hq⟩ : ∃ q : Nat, q = at' + 1 + far := ⟨_, rfl⟩
  have eq1 : (at' : Int) + 1 + (far : Int) = (q : Int) := by omega
  rw [← hq] at Hp ⊢
  clear hc hE hq
  go_enter Tryd.func50, Tryd.ntmps50
  go_wp2_with fail
  refine (Hp.out _ HE.out.pow).mono ?_
  rintro e w1 ⟨rfl, hb⟩
  have HB := Lib.hid hb
  clear hb
  go_wp2_with fail
  go_ret
  exact ⟨rfl, HB.out⟩
theorem boxS {w w' : World} {at' : Nat} {i : Ins} (h1 : Bk w' w.heap.size 38 i.cells) (h2 : Bk w' (w.heap.size + 1) 3 [.int .i64 at']) (h3 : Below w.heap.size w w') :
    (fun w' => (w'.cell? ⟨w.heap.size, 0, none⟩ = some (.int .u16 i.c) ∧ w'.cell? ⟨w.heap.size, 1, none⟩ = some (.int .u8 i.t) ∧ w'.cell? ⟨w.heap.size, 2, none⟩ = some (.int .u8 i.f) ∧ w'.cell? ⟨w.heap.size, 3, none⟩ = some (.int .u32 i.k)) ∧ Hid (Bk w' w.heap.size 38 i.cells ∧ Bk w' (w.heap.size + 1) 3 [.int .i64 at'] ∧ Below w.heap.size w w')) w' := ⟨⟨h1.cell 0 rfl, h1.cell 1 rfl, h1.cell 2 rfl, h1.cell 3 rfl⟩, h1, h2, h3⟩
theorem str_eq {a : ByteArray} {l : Bs} (h : a.data.toList = l) : Value.string a = .string ⟨l.toArray⟩ := by
  subst h
  rfl
set_option maxRecDepth 100000 in
set_option maxHeartbeats 2000000 in
theorem goes_any (i : Ins) (at' : Nat) (w : World) (hi : i.ok) (hat : at' < 10000) (hE : Env w) : Calls Tryd.prog 30 #[.agg #[.int .u16 i.c, .int .u8 i.t, .int .u8 i.f, .int .u32 i.k], .int .i64 at'] w fun e w' => e = .returned (.string ⟨(goesB i at').toArray⟩) ∧ Below w.heap.size w w' := by
  have HE := Lib.hid hE
  obtain ⟨h1, h2, h3, h4⟩ := hi
  have HA := Lib.hid ((Bk.new w 38 #[.int .u16 i.c, .int .u8 i.t, .int .u8 i.f, .int .u32 i.k] (l := i.cells) rfl).alloc (.cells #[.int .i64 at'] 3))
  have HT := Lib.hid (show Bk ((w.alloc (.cells #[.int .u16 i.c, .int .u8 i.t, .int .u8 i.f, .int .u32 i.k] 38)).alloc (.cells #[.int .i64 at'] 3)) (w.heap.size + 1) 3 [.int .i64 at'] from bk_new_at _ _ _ rfl (by simp))
  have HB := Lib.hid (two_below w (.cells #[.int .u16 i.c, .int .u8 i.t, .int .u8 i.f, .int .u32 i.k] 38) (.cells #[.int .i64 at'] 3))
  clear hE
  by_cases h5 : i.c = 5
  · have e5 : ((i.c : Int) == 5) = true := by rw [h5]; rfl
    have HG := Lib.hid (show goesB i at' = [32, 45, 62, 32] ++ Lib.decDigits (at' + 1 + i.k) by unfold goesB; rw [if_pos h5])
    have hdl := dec_len20' (u := at' + 1 + i.k) (by omega)
    clear h5
    go_enter Tryd.func30, Tryd.ntmps30
    go_wp2_with fail
    refine (to_any i.k at' (w.heap.size + 1) _ h4 hat HT.out (HE.out.below HB.out)).mono ?_
    rintro e w1 ⟨rfl, hb⟩
    have HB1 := Lib.hid (HB.out.trans (hb.mono HB.out.size))
    clear hb
    go_wp2_with fail
    go_ret
    exact ⟨by rw [HG.out]; rfl, HB1.out⟩
  · have e5 : ((i.c : Int) == 5) = false := by rw [beq_eq_false_iff_ne]; omega
    by_cases h8 : i.c % 8 = 5 ∧ knownB i.c = true
    · obtain ⟨h8a, hk⟩ := h8
      have HG := Lib.hid (show goesB i at' = [32, 45, 62, 32] ++ Lib.decDigits (at' + 1 + i.t) ++ [44, 32] ++ Lib.decDigits (at' + 1 + i.f) by unfold goesB; rw [if_neg h5, if_pos ⟨h8a, hk⟩])
      have hd1 := dec_len20' (u := at' + 1 + i.t) (by omega)
      have hd2 := dec_len20' (u := at' + 1 + i.f) (by omega)
      obtain ⟨r, hr⟩ : ∃ r, r = i.c % 8 := ⟨_, rfl⟩
      have er : ((r : Int) == 5) = true := by rw [hr, h8a]; rfl
      have Hcl := Lib.hid (fun W => class_any i.c W h1)
      have Hkn := Lib.hid (fun W => known_any i.c W h1)
      rw [← hr] at Hcl
      rw [hk] at Hkn
      clear h5 h8a hk hr
      go_enter Tryd.func30, Tryd.ntmps30
      go_wp2_with fail
      refine (Hcl.out _).mono ?_
      rintro e w1 ⟨rfl, rfl⟩
      go_wp2_with fail
      refine (Hkn.out _).mono ?_
      rintro e w1 ⟨rfl, rfl⟩
      go_wp2_with fail
      revert HA HT HB
      generalize (w.alloc (.cells #[.int .u16 i.c, .int .u8 i.t, .int .u8 i.f, .int .u32 i.k] 38)).alloc (.cells #[.int .i64 at'] 3) = wx
      intro HA HT HB
      have s1 : ¬ 9223372036854775807 < 4 + (Lib.decDigits (at' + 1 + i.t)).length := by omega
      have s2 : ¬ 9223372036854775807 < 4 + (Lib.decDigits (at' + 1 + i.t)).length + 2 := by omega
      have s3 : ¬ 9223372036854775807 < 4 + (Lib.decDigits (at' + 1 + i.t)).length + 2 + (Lib.decDigits (at' + 1 + i.f)).length := by omega
      have wt : IntKind.u64.wrap (i.t : Int) = (i.t : Int) := by rw [IntKind.wrap_u64]; omega
      have wf : IntKind.u64.wrap (i.f : Int) = (i.f : Int) := by rw [IntKind.wrap_u64]; omega
      refine wp_region_held_drew (S := (fun w' => (w'.cell? ⟨w.heap.size, 0, none⟩ = some (.int .u16 i.c) ∧ w'.cell? ⟨w.heap.size, 1, none⟩ = some (.int .u8 i.t) ∧ w'.cell? ⟨w.heap.size, 2, none⟩ = some (.int .u8 i.f) ∧ w'.cell? ⟨w.heap.size, 3, none⟩ = some (.int .u32 i.k)) ∧ Hid (Bk w' w.heap.size 38 i.cells ∧ Bk w' (w.heap.size + 1) 3 [.int .i64 at'] ∧ Below w.heap.size w w'))) (by kernel_rfl) ?_ (fun hHeld0 => ?_)
      · exact boxS (w := w) HA.out.drew HT.out.drew HB.out.drew
      refine wpAnyH_take (i := 0) (v := ?_) (by first | (simp only [List.getElem?_toArray, List.getElem?_cons_zero] <;> rfl) | rfl) (by kernel_rfl) (by kernel_rfl) (by kernel_rfl) (by exact fun _ _ _ h => h) (Or.inl ⟨by rfl, ?_⟩) hHeld0 ?_
      rotate_left 1
      · intro w hSw
        try dsimp only at hSw
        (go_simp) <;> (with_reducible rfl)
      try simp only [Act.put, List.setIfInBounds_toArray, List.set_cons_zero, List.set_cons_succ]
      refine wpAnyH_take (i := 1) (v := ?_) (by first | (simp only [List.getElem?_toArray, List.getElem?_cons_succ, List.getElem?_cons_zero] <;> rfl) | rfl) (by kernel_rfl) (by kernel_rfl) (by kernel_rfl) (by exact fun _ _ _ h => h) (Or.inl ⟨by rfl, ?_⟩) hHeld0 ?_
      rotate_left 1
      · intro w hSw
        try dsimp only at hSw
        (go_simp) <;> (with_reducible rfl)
      try simp only [Act.put, List.setIfInBounds_toArray, List.set_cons_zero, List.set_cons_succ]
      refine wpAnyH_take (i := 2) (v := ?_) (by first | (simp only [List.getElem?_toArray, List.getElem?_cons_succ, List.getElem?_cons_zero] <;> rfl) | rfl) (by kernel_rfl) (by kernel_rfl) (by kernel_rfl) (by exact fun _ _ _ h => h) (Or.inl ⟨by rfl, ?_⟩) hHeld0 ?_
      rotate_left 1
      · intro w hSw
        try dsimp only at hSw
        (go_simp) <;> (with_reducible rfl)
      try simp only [Act.put, List.setIfInBounds_toArray, List.set_cons_zero, List.set_cons_succ]
      refine wpAnyH_take (i := 3) (v := ?_) (by first | (simp only [List.getElem?_toArray, List.getElem?_cons_succ, List.getElem?_cons_zero] <;> rfl) | rfl) (by kernel_rfl) (by kernel_rfl) (by kernel_rfl) (by exact fun _ _ _ h => h) (Or.inl ⟨by rfl, ?_⟩) hHeld0 ?_
      rotate_left 1
      · intro w hSw
        try dsimp only at hSw
        (go_simp) <;> (with_reducible rfl)
      try simp only [Act.put, List.setIfInBounds_toArray, List.set_cons_zero, List.set_cons_succ]
      refine wpAnyH_take (i := 7) (v := ?_) (by first | (simp only [List.getElem?_toArray, List.getElem?_cons_succ, List.getElem?_cons_zero] <;> rfl) | rfl) (by kernel_rfl) (by kernel_rfl) (by kernel_rfl) (by exact fun _ _ _ h => h) (Or.inl ⟨by rfl, ?_⟩) hHeld0 ?_
      rotate_left 1
      · intro w hSw
        try dsimp only at hSw
        (go_simp) <;> (with_reducible rfl)
      try simp only [Act.put, List.setIfInBounds_toArray, List.set_cons_zero, List.set_cons_succ]
      refine wpAnyH_take (i := 8) (v := ?_) (by first | (simp only [List.getElem?_toArray, List.getElem?_cons_succ, List.getElem?_cons_zero] <;> rfl) | rfl) (by kernel_rfl) (by kernel_rfl) (by kernel_rfl) (by exact fun _ _ _ h => h) (Or.inl ⟨by rfl, ?_⟩) hHeld0 ?_
      rotate_left 1
      · intro w hSw
        try dsimp only at hSw
        (go_simp) <;> (with_reducible rfl)
      try simp only [Act.put, List.setIfInBounds_toArray, List.set_cons_zero, List.set_cons_succ]
      refine wpAnyH_take (i := 9) (v := ?_) (by first | (simp only [List.getElem?_toArray, List.getElem?_cons_succ, List.getElem?_cons_zero] <;> rfl) | rfl) (by kernel_rfl) (by kernel_rfl) (by kernel_rfl) (by exact fun _ _ _ h => h) (Or.inl ⟨by rfl, ?_⟩) hHeld0 ?_
      rotate_left 1
      · intro w hSw
        try dsimp only at hSw
        (go_simp) <;> (with_reducible rfl)
      try simp only [Act.put, List.setIfInBounds_toArray, List.set_cons_zero, List.set_cons_succ]
      refine wpAnyH_take (i := 10) (v := ?_) (by first | (simp only [List.getElem?_toArray, List.getElem?_cons_succ, List.getElem?_cons_zero] <;> rfl) | rfl) (by kernel_rfl) (by kernel_rfl) (by kernel_rfl) (by exact fun _ _ _ h => h) (Or.inl ⟨by rfl, ?_⟩) hHeld0 ?_
      rotate_left 1
      · intro w hSw
        try dsimp only at hSw
        (go_simp) <;> (with_reducible rfl)
      try simp only [Act.put, List.setIfInBounds_toArray, List.set_cons_zero, List.set_cons_succ]
      refine wpAnyH_ready (rs := [4]) (by kernel_rfl) (by simp) ?_
      refine AllReadyH.cons (by first | (simp only [List.getElem?_toArray, List.getElem?_cons_succ, List.getElem?_cons_zero] <;> rfl) | rfl) (fun K hK => ?_) AllReadyH.nil
      go_simp
      refine (to_any i.t at' (w.heap.size + 1) _ (by omega) hat hHeld0.2.out.2.1 (HE.out.below hHeld0.2.out.2.2)).mono ?_; rintro e wa ⟨rfl, hba⟩
      go_wp2_with fail
      refine hK.out _ _ ?_ (fun hHeld1 => ?_)
      · (try dsimp only)
        exact boxS (hHeld0.2.out.1.kept hba) (hHeld0.2.out.2.1.kept hba) (hHeld0.2.out.2.2.trans (hba.mono hHeld0.2.out.2.2.size))
      clear hK K hHeld0
      try simp only [Act.put, List.setIfInBounds_toArray, List.set_cons_zero, List.set_cons_succ]
      refine wpAnyH_take (i := 5) (v := ?_) (by first | (simp only [List.getElem?_toArray, List.getElem?_cons_succ, List.getElem?_cons_zero] <;> rfl) | rfl) (by kernel_rfl) (by kernel_rfl) (by kernel_rfl) (by exact fun _ _ _ h => h) (Or.inl ⟨by rfl, ?_⟩) hHeld1 ?_
      rotate_left 1
      · intro w hSw
        try dsimp only at hSw
        (go_simp) <;> (with_reducible rfl)
      try simp only [Act.put, List.setIfInBounds_toArray, List.set_cons_zero, List.set_cons_succ]
      refine wpAnyH_take (i := 6) (v := ?_) (by first | (simp only [List.getElem?_toArray, List.getElem?_cons_succ, List.getElem?_cons_zero] <;> rfl) | rfl) (by kernel_rfl) (by kernel_rfl) (by kernel_rfl) (by exact fun _ _ _ h => h) (Or.inl ⟨by rfl, ?_⟩) hHeld1 ?_
      rotate_left 1
      · intro w hSw
        try dsimp only at hSw
        (go_simp) <;> (with_reducible rfl)
      try simp only [Act.put, List.setIfInBounds_toArray, List.set_cons_zero, List.set_cons_succ]
      refine wpAnyH_ready (rs := [11]) (by kernel_rfl) (by simp) ?_
      refine AllReadyH.cons (by first | (simp only [List.getElem?_toArray, List.getElem?_cons_succ, List.getElem?_cons_zero] <;> rfl) | rfl) (fun K hK => ?_) AllReadyH.nil
      go_simp
      refine (to_any i.f at' (w.heap.size + 1) _ (by omega) hat hHeld1.2.out.2.1 (HE.out.below hHeld1.2.out.2.2)).mono ?_; rintro e wb ⟨rfl, hbb⟩
      go_wp2_with fail
      refine hK.out _ _ ?_ (fun hHeld2 => ?_)
      · (try dsimp only)
        exact boxS (hHeld1.2.out.1.kept hbb) (hHeld1.2.out.2.1.kept hbb) (hHeld1.2.out.2.2.trans (hbb.mono hHeld1.2.out.2.2.size))
      clear hK K hHeld1
      try simp only [Act.put, List.setIfInBounds_toArray, List.set_cons_zero, List.set_cons_succ]
      refine wpAnyH_take (i := 12) (v := ?_) (by first | (simp only [List.getElem?_toArray, List.getElem?_cons_succ, List.getElem?_cons_zero] <;> rfl) | rfl) (by kernel_rfl) (by kernel_rfl) (by kernel_rfl) (by exact fun _ _ _ h => h) (Or.inl ⟨by rfl, ?_⟩) hHeld2 ?_
      rotate_left 1
      · intro w hSw
        try dsimp only at hSw
        (go_simp) <;> (with_reducible rfl)
      try simp only [Act.put, List.setIfInBounds_toArray, List.set_cons_zero, List.set_cons_succ]
      refine wpAnyH_take (i := 13) (v := ?_) (by first | (simp only [List.getElem?_toArray, List.getElem?_cons_succ, List.getElem?_cons_zero] <;> rfl) | rfl) (by kernel_rfl) (by kernel_rfl) (by kernel_rfl) (by exact fun _ _ _ h => h) (Or.inl ⟨by rfl, ?_⟩) hHeld2 ?_
      rotate_left 1
      · intro w hSw
        try dsimp only at hSw
        (go_simp) <;> (with_reducible rfl)
      try simp only [Act.put, List.setIfInBounds_toArray, List.set_cons_zero, List.set_cons_succ]
      refine wpAnyH_done (by kernel_rfl) ?_ _
      clear wt wf s1 s2 s3
      have HBr := Lib.hid (hHeld2).2.out.2.2
      clear hHeld2
      go_wp2_with fail
      go_ret
      exact ⟨by rw [HG.out]; rfl, HBr.out⟩
    · have HG := Lib.hid (show goesB i at' = [] by unfold goesB; rw [if_neg h5, if_neg h8])
      have Hcl := Lib.hid (fun W => class_any i.c W h1)
      have Hkn := Lib.hid (fun W => known_any i.c W h1)
      obtain ⟨r, hr⟩ : ∃ r, r = i.c % 8 := ⟨_, rfl⟩
      obtain ⟨kb, hkb⟩ : ∃ kb, kb = knownB i.c := ⟨_, rfl⟩
      rw [← hr] at Hcl h8
      rw [← hkb] at Hkn h8
      clear hr hkb h5
      by_cases hr5 : r = 5
      · have er : ((r : Int) == 5) = true := by rw [hr5]; rfl
        obtain rfl : kb = false := by
          cases kb with
          | false => rfl
          | true => exact absurd ⟨hr5, rfl⟩ h8
        clear h8 hr5
        go_enter Tryd.func30, Tryd.ntmps30
        go_wp2_with fail
        refine (Hcl.out _).mono ?_
        rintro e w1 ⟨rfl, rfl⟩
        go_wp2_with fail
        refine (Hkn.out _).mono ?_
        rintro e w1 ⟨rfl, rfl⟩
        go_wp2_with fail
        go_ret
        exact ⟨by rw [HG.out]; rfl, HB.out⟩
      · have er : ((r : Int) == 5) = false := by rw [beq_eq_false_iff_ne]; omega
        clear h8 hr5
        go_enter Tryd.func30, Tryd.ntmps30
        go_wp2_with fail
        refine (Hcl.out _).mono ?_
        rintro e w1 ⟨rfl, rfl⟩
        go_wp2_with fail
        go_ret
        exact ⟨by rw [HG.out]; rfl, HB.out⟩
end Go.Proofs.YthiohihbcfahhaaDoor
