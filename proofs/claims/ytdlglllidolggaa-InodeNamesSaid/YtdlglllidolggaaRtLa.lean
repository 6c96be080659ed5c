/- The document's Make: kind 1. -/
import Derived.Test.YtdlglllidolggaaRtL
namespace Go.Proofs.Ytdlglllidolggaa.In
open Go.RowKit Go.Maps Go.WideElems
section
variable {w w' : World} {B tb A k c g : Nat} {T : TrM} {mv nx : Value} {df lf : Nat → Value}
set_option maxRecDepth 100000 in
set_option maxHeartbeats 8000000 in
theorem rmake_ok1 (h : RtR w B tb T A k c mv nx df lf) {i n : Nat} (hi : i ≤ 65535) (s text : ByteArray) (hs : s.size ≤ maxLen) (ht : text.size ≤ maxLen) (hr : roomE T i s.data.toList = 0) (hch : T.ch < 1000000000) (hf : freeF T = some n) :
    Calls Try.prog 13 #[tP tb, .int .i64 i, .string s, .int .i64 1, .string text] w (RMakeP w B tb (n, 0, madeT T i s.data.toList 1 text n)) := by
  have HRoom := rroom_any h hi s hs
  rw [hr] at HRoom
  have HRoom := Lib.hid HRoom
  have H := Lib.hid h
  have HRm := Lib.hid (room_zero hr)
  have hlim := h.lim
  have hk := h.kk
  have hcl := cnt_le T k
  have hfull : ¬ T.lim ≤ cntN T k := fun q => by rw [h.cnt.1 q] at hf; cases hf
  have HFr := Lib.hid (fun (j : Nat) (h1 : 1 ≤ j ∧ j ≤ k) (h2 : ∀ m, 1 ≤ m → m < j → (T.nd m).kd ≠ 0) (h3 : j = k ∨ (T.nd j).kd = 0) => (show j = n ∧ j ≤ T.lim from ⟨by have := (h.freeAt h1 h2 h3 hfull).1; rw [hf] at this; exact (Option.some.inj this).symm, (h.freeAt h1 h2 h3 hfull).2⟩))
  obtain ⟨m, hm2⟩ : ∃ m, m = cntN T k := ⟨_, rfl⟩
  rw [← hm2] at hfull hcl
  have HM := Lib.hid hm2
  obtain ⟨dp, hdp2⟩ : ∃ m, m = deepR T 20 i := ⟨_, rfl⟩
  have HDp := Lib.hid hdp2
  have hfi : decide (T.lim ≤ m) = false := decide_eq_false hfull
  have Hch := Lib.hid hch
  have HLx := Lib.hid (fresh_loose (kd := 1) (text := text) (by decide) hi ht)
  unfold maxLen at ht
  clear h hr hm2 hdp2 hf hfull hch
  go_enter Try.func13, Try.ntmps13
  go_wp2_with fail
  refine HRoom.out.mono ?_
  rintro e w1 ⟨rfl, hb⟩
  have Hb := Lib.hid hb
  have H1 := Lib.hid (H.out.below hb)
  clear hb HRoom
  go_wp2_with fail
  have HmkS := Lib.hid (fun (W : World) (hb : Below w1.heap.size w1 W) => (H1.out.below hb).c1)
  have HBv := Lib.hid (Below.refl w1.heap.size w1).drew
  refine wp_region_held_drew (S := (fun W => W.cell? ⟨tb, 1, none⟩ = some (.int .i64 T.lim))) (by kernel_rfl) ?_ (fun hHeld0 => ?_)
  · exact HmkS.out _ (Below.refl _ _).drew
  generalize World.drew w1 = w3 at hHeld0 HBv ⊢
  refine wpAnyH_take (i := 0) (v := ?_) (by first | (simp only [List.getElem?_toArray, List.getElem?_cons_zero] <;> rfl) | rfl) (by kernel_rfl) (by kernel_rfl) (by kernel_rfl) (by exact fun _ _ _ h => h) (Or.inl ⟨by rfl, ?_⟩) hHeld0 ?_
  rotate_left 1
  · intro w hSw
    try dsimp only at hSw
    (go_simp) <;> (with_reducible rfl)
  try simp only [Act.put, List.setIfInBounds_toArray, List.set_cons_zero, List.set_cons_succ]
  refine wpAnyH_take (i := 2) (v := ?_) (by first | (simp only [List.getElem?_toArray, List.getElem?_cons_succ, List.getElem?_cons_zero] <;> rfl) | rfl) (by kernel_rfl) (by kernel_rfl) (by kernel_rfl) (by exact fun _ _ _ h => h) (Or.inl ⟨by rfl, ?_⟩) hHeld0 ?_
  rotate_left 1
  · intro w hSw
    try dsimp only at hSw
    (go_simp) <;> (with_reducible rfl)
  try simp only [Act.put, List.setIfInBounds_toArray, List.set_cons_zero, List.set_cons_succ]
  refine wpAnyH_take (i := 3) (v := ?_) (by first | (simp only [List.getElem?_toArray, List.getElem?_cons_succ, List.getElem?_cons_zero] <;> rfl) | rfl) (by kernel_rfl) (by kernel_rfl) (by kernel_rfl) (by exact fun _ _ _ h => h) (Or.inl ⟨by rfl, ?_⟩) hHeld0 ?_
  rotate_left 1
  · intro w hSw
    try dsimp only at hSw
    (go_simp) <;> (with_reducible rfl)
  try simp only [Act.put, List.setIfInBounds_toArray, List.set_cons_zero, List.set_cons_succ]
  refine wpAnyH_take (i := 4) (v := ?_) (by first | (simp only [List.getElem?_toArray, List.getElem?_cons_succ, List.getElem?_cons_zero] <;> rfl) | rfl) (by kernel_rfl) (by kernel_rfl) (by kernel_rfl) (by exact fun _ _ _ h => h) (Or.inl ⟨by rfl, ?_⟩) hHeld0 ?_
  rotate_left 1
  · intro w hSw
    try dsimp only at hSw
    (go_simp) <;> (with_reducible rfl)
  try simp only [Act.put, List.setIfInBounds_toArray, List.set_cons_zero, List.set_cons_succ]
  refine wpAnyH_take (i := 5) (v := ?_) (by first | (simp only [List.getElem?_toArray, List.getElem?_cons_succ, List.getElem?_cons_zero] <;> rfl) | rfl) (by kernel_rfl) (by kernel_rfl) (by kernel_rfl) (by exact fun _ _ _ h => h) (Or.inl ⟨by rfl, ?_⟩) hHeld0 ?_
  rotate_left 1
  · intro w hSw
    try dsimp only at hSw
    (go_simp) <;> (with_reducible rfl)
  try simp only [Act.put, List.setIfInBounds_toArray, List.set_cons_zero, List.set_cons_succ]
  refine wpAnyH_ready (rs := [1]) (by kernel_rfl) (by simp) ?_
  refine AllReadyH.cons (by first | (simp only [List.getElem?_toArray, List.getElem?_cons_succ, List.getElem?_cons_zero] <;> rfl) | rfl) (fun K hK => ?_) ?_
  · go_simp
    refine (rlen_any (H1.out.below HBv.out)).mono ?_
    rintro e vh1 ⟨rfl, hvw⟩
    rw [← hvw]
    rw [← HM.out]
    refine hK.out _ _ (HmkS.out _ HBv.out) (fun hHeld1 => ?_)
    clear hK K hvw vh1 hHeld0
    try simp only [Act.put, List.setIfInBounds_toArray, List.set_cons_zero, List.set_cons_succ]
    refine wpAnyH_take (i := 6) (v := ?_) (by first | (simp only [List.getElem?_toArray, List.getElem?_cons_succ, List.getElem?_cons_zero] <;> rfl) | rfl) (by kernel_rfl) (by kernel_rfl) (by kernel_rfl) (by exact fun _ _ _ h => h) (Or.inl ⟨by rfl, ?_⟩) hHeld1 ?_
    rotate_left 1
    · intro w hSw
      try dsimp only at hSw
      (go_simp) <;> (with_reducible rfl)
    try simp only [Act.put, List.setIfInBounds_toArray, List.set_cons_zero, List.set_cons_succ]
    refine wpAnyH_take (i := 7) (v := ?_) (by first | (simp only [List.getElem?_toArray, List.getElem?_cons_succ, List.getElem?_cons_zero] <;> rfl) | rfl) (by kernel_rfl) (by kernel_rfl) (by kernel_rfl) (by exact fun _ _ _ h => h) (Or.inl ⟨by rfl, ?_⟩) hHeld1 ?_
    rotate_left 1
    · intro w hSw
      try dsimp only at hSw
      (go_simp) <;> (with_reducible rfl)
    try simp only [Act.put, List.setIfInBounds_toArray, List.set_cons_zero, List.set_cons_succ]
    refine wpAnyH_take (i := 8) (v := ?_) (by first | (simp only [List.getElem?_toArray, List.getElem?_cons_succ, List.getElem?_cons_zero] <;> rfl) | rfl) (by kernel_rfl) (by kernel_rfl) (by kernel_rfl) (by exact fun _ _ _ h => h) (Or.inl ⟨by rfl, ?_⟩) hHeld1 ?_
    rotate_left 1
    · intro w hSw
      try dsimp only at hSw
      (go_simp) <;> (with_reducible rfl)
    try simp only [Act.put, List.setIfInBounds_toArray, List.set_cons_zero, List.set_cons_succ]
    refine wpAnyH_take (i := 9) (v := ?_) (by first | (simp only [List.getElem?_toArray, List.getElem?_cons_succ, List.getElem?_cons_zero] <;> rfl) | rfl) (by kernel_rfl) (by kernel_rfl) (by kernel_rfl) (by exact fun _ _ _ h => h) (Or.inl ⟨by rfl, ?_⟩) hHeld1 ?_
    rotate_left 1
    · intro w hSw
      try dsimp only at hSw
      (go_simp) <;> (with_reducible rfl)
    try simp only [Act.put, List.setIfInBounds_toArray, List.set_cons_zero, List.set_cons_succ]
    refine wpAnyH_take (i := 10) (v := ?_) (by first | (simp only [List.getElem?_toArray, List.getElem?_cons_succ, List.getElem?_cons_zero] <;> rfl) | rfl) (by kernel_rfl) (by kernel_rfl) (by kernel_rfl) (by exact fun _ _ _ h => h) (Or.inl ⟨by rfl, ?_⟩) hHeld1 ?_
    rotate_left 1
    · intro w hSw
      try dsimp only at hSw
      (go_simp) <;> (with_reducible rfl)
    try simp only [Act.put, List.setIfInBounds_toArray, List.set_cons_zero, List.set_cons_succ]
    refine wpAnyH_take (i := 11) (v := undef) (by first | (simp only [List.getElem?_toArray, List.getElem?_cons_succ, List.getElem?_cons_zero] <;> rfl) | rfl) (by kernel_rfl) (by kernel_rfl) (by kernel_rfl) (by exact fun _ _ _ h => h) (Or.inr ⟨by rfl, rfl⟩) hHeld1 ?_
    try simp only [Act.put, List.setIfInBounds_toArray, List.set_cons_zero, List.set_cons_succ]
    refine wpAnyH_take (i := 12) (v := undef) (by first | (simp only [List.getElem?_toArray, List.getElem?_cons_succ, List.getElem?_cons_zero] <;> rfl) | rfl) (by kernel_rfl) (by kernel_rfl) (by kernel_rfl) (by exact fun _ _ _ h => h) (Or.inr ⟨by rfl, rfl⟩) hHeld1 ?_
    try simp only [Act.put, List.setIfInBounds_toArray, List.set_cons_zero, List.set_cons_succ]
    refine wpAnyH_take (i := 13) (v := undef) (by first | (simp only [List.getElem?_toArray, List.getElem?_cons_succ, List.getElem?_cons_zero] <;> rfl) | rfl) (by kernel_rfl) (by kernel_rfl) (by kernel_rfl) (by exact fun _ _ _ h => h) (Or.inr ⟨by rfl, rfl⟩) hHeld1 ?_
    try simp only [Act.put, List.setIfInBounds_toArray, List.set_cons_zero, List.set_cons_succ]
    refine wpAnyH_take (i := 14) (v := undef) (by first | (simp only [List.getElem?_toArray, List.getElem?_cons_succ, List.getElem?_cons_zero] <;> rfl) | rfl) (by kernel_rfl) (by kernel_rfl) (by kernel_rfl) (by exact fun _ _ _ h => h) (Or.inr ⟨by rfl, rfl⟩) hHeld1 ?_
    try simp only [Act.put, List.setIfInBounds_toArray, List.set_cons_zero, List.set_cons_succ]
    refine wpAnyH_take (i := 15) (v := ?_) (by first | (simp only [List.getElem?_toArray, List.getElem?_cons_succ, List.getElem?_cons_zero] <;> rfl) | rfl) (by kernel_rfl) (by kernel_rfl) (by kernel_rfl) (by exact fun _ _ _ h => h) (Or.inl ⟨by rfl, ?_⟩) hHeld1 ?_
    rotate_left 1
    · intro w hSw
      try dsimp only at hSw
      (go_simp) <;> (with_reducible rfl)
    try simp only [Act.put, List.setIfInBounds_toArray, List.set_cons_zero, List.set_cons_succ]
    refine wpAnyH_take (i := 16) (v := ?_) (by first | (simp only [List.getElem?_toArray, List.getElem?_cons_succ, List.getElem?_cons_zero] <;> rfl) | rfl) (by kernel_rfl) (by kernel_rfl) (by kernel_rfl) (by exact fun _ _ _ h => h) (Or.inl ⟨by rfl, ?_⟩) hHeld1 ?_
    rotate_left 1
    · intro w hSw
      try dsimp only at hSw
      (go_simp) <;> (with_reducible rfl)
    try simp only [Act.put, List.setIfInBounds_toArray, List.set_cons_zero, List.set_cons_succ]
    refine wpAnyH_done (by kernel_rfl) ?_ _
    rename World => w3
    clear hHeld1
    go_wp2
    have H3 := Lib.hid (H1.out.below HBv.out)
    have HF3 := Lib.hid (show FrR B w w3 from Fr.ofBelow (Hb.out.trans (HBv.out.mono Hb.out.size)))
    clear HBv H1 Hb HmkS H
    have c0 := H3.out.c0
    go_loop [13] (fun v => ∃ j : Nat, 1 ≤ j ∧ j ≤ k ∧ v = .int .i64 j ∧ Hid (∀ q, 1 ≤ q → q < j → (T.nd q).kd ≠ 0)) (fun v => k - (intOf v).toNat)
    case atStart => exact ⟨1, by omega, by omega, rfl, fun q h1 h2 => absurd h1 (by omega)⟩
    case round =>
      obtain ⟨j, hj1, hj2, rfl, Hg⟩ := hrel
      by_cases hlt : j < k
      · have a0 := (H3.out.cells7 hlt).1
        have hkd : (T.nd j).kd ≤ 3 := (H3.out.ls j).kd
        obtain ⟨q, hq⟩ : ∃ q, q = (T.nd j).kd := ⟨_, rfl⟩
        rw [← hq] at a0 hkd
        have HQ := Lib.hid hq
        clear hq
        have hne : ((j : Int) == k) = false := by simp; omega
        by_cases q0 : q = 0
        · have z : ¬ (0 : Int) < (q : Int) := by omega
          have z2 : q = 0 := q0
          have HN := Lib.hid (HFr.out j ⟨hj1, hj2⟩ Hg.out (.inr (by rw [← HQ.out]; exact q0)))
          clear q0 Hg
          go_wp2
          have Hij := Lib.hid (show i ≠ j from fun e => by have h2 := HRm.out.1; rw [e, ← HQ.out, z2] at h2; cases h2)
          have HI0 := Lib.hid (show i ≠ 0 from fun e => by have h2 := HRm.out.1; rw [e, H3.out.out 0 (.inl rfl)] at h2; cases h2)
          have hik0 : i < k := by rcases Nat.lt_or_ge i k with q | q; exact q; exact absurd HRm.out.1 (by rw [H3.out.out i (.inr q)]; decide)
          clear HQ
          have hB14 : Bk (World.alloc w3 (.cells #[.int .i64 1, NIL, NIL, .int .i64 0, .string ⟨#[]⟩, .int .i64 1, .int .i64 0] 41)) w3.heap.size 41 (rnCells (freshN 1 i text) NIL NIL) := (Bk.new w3 41 #[.int .i64 1, NIL, NIL, .int .i64 0, .string ⟨#[]⟩, .int .i64 1, .int .i64 0] (l := [.int .i64 1, NIL, NIL, .int .i64 0, .string ⟨#[]⟩, .int .i64 1, .int .i64 0]) rfl)
          have hb14 : Below w3.heap.size w3 (World.alloc w3 (.cells #[.int .i64 1, NIL, NIL, .int .i64 0, .string ⟨#[]⟩, .int .i64 1, .int .i64 0] 41)) := oneb w3 (.cells #[.int .i64 1, NIL, NIL, .int .i64 0, .string ⟨#[]⟩, .int .i64 1, .int .i64 0] 41)
          generalize (World.alloc w3 (.cells #[.int .i64 1, NIL, NIL, .int .i64 0, .string ⟨#[]⟩, .int .i64 1, .int .i64 0] 41)) = w18 at hB14 hb14 ⊢
          have HR18 := Lib.hid (H3.out.below hb14)
          have HF18 := Lib.hid (HF3.out.trans (Fr.ofBelow hb14))
          have HNe := Lib.hid (show (some w3.heap.size : Option Nat) ≠ some A from fun e => by have h1 := H3.out.tyA.lt; have h2 := Option.some.inj e; omega)
          have HG := Lib.hid hB14
          clear hB14 hb14
          have HmkS := Lib.hid (fun (W : World) (hb : Below w18.heap.size w18 W) => (⟨(HR18.out.below hb).c0, (HG.out.kept hb).cell 0 rfl, (HG.out.kept hb).cell 1 rfl, (HG.out.kept hb).cell 2 rfl, (HG.out.kept hb).cell 3 rfl, (HG.out.kept hb).cell 4 rfl, (HG.out.kept hb).cell 5 rfl, (HG.out.kept hb).cell 6 rfl⟩ : W.cell? ⟨tb, 0, none⟩ = some (.slice (some ⟨A, 0, none⟩) (k) c) ∧ W.cell? ⟨w3.heap.size, 0, none⟩ = some (.int .i64 (1 : Nat)) ∧ W.cell? ⟨w3.heap.size, 1, none⟩ = some (NIL) ∧ W.cell? ⟨w3.heap.size, 2, none⟩ = some (NIL) ∧ W.cell? ⟨w3.heap.size, 3, none⟩ = some (.int .i64 (0 : Nat)) ∧ W.cell? ⟨w3.heap.size, 4, none⟩ = some (.string ⟨#[]⟩) ∧ W.cell? ⟨w3.heap.size, 5, none⟩ = some (.int .i64 (1 : Nat)) ∧ W.cell? ⟨w3.heap.size, 6, none⟩ = some (.int .i64 (0 : Nat))))
          have HBv := Lib.hid (Below.refl w18.heap.size w18).drew
          have hjk : j < k := by omega
          have hik : i < k := by omega
          have hjk1 : (j : Int) < (j : Int) + 1 := by omega
          skip
          refine wp_region_held_drew (S := (fun W => W.cell? ⟨tb, 0, none⟩ = some (.slice (some ⟨A, 0, none⟩) (k) c) ∧ W.cell? ⟨w3.heap.size, 0, none⟩ = some (.int .i64 (1 : Nat)) ∧ W.cell? ⟨w3.heap.size, 1, none⟩ = some (NIL) ∧ W.cell? ⟨w3.heap.size, 2, none⟩ = some (NIL) ∧ W.cell? ⟨w3.heap.size, 3, none⟩ = some (.int .i64 (0 : Nat)) ∧ W.cell? ⟨w3.heap.size, 4, none⟩ = some (.string ⟨#[]⟩) ∧ W.cell? ⟨w3.heap.size, 5, none⟩ = some (.int .i64 (1 : Nat)) ∧ W.cell? ⟨w3.heap.size, 6, none⟩ = some (.int .i64 (0 : Nat)))) (by kernel_rfl) ?_ (fun hHeld0 => ?_)
          · exact HmkS.out _ (Below.refl _ _).drew
          generalize World.drew w18 = vh0 at hHeld0 HBv ⊢
          refine wpAnyH_take (i := 0) (v := ?_) (by first | (simp only [List.getElem?_toArray, List.getElem?_cons_zero] <;> rfl) | rfl) (by kernel_rfl) (by kernel_rfl) (by kernel_rfl) (by exact fun _ _ _ h => h) (Or.inl ⟨by rfl, ?_⟩) hHeld0 ?_
          rotate_left 1
          · intro w hSw
            try dsimp only at hSw
            (go_simp) <;> (with_reducible rfl)
          try simp only [Act.put, List.setIfInBounds_toArray, List.set_cons_zero, List.set_cons_succ]
          refine wpAnyH_take (i := 1) (v := ?_) (by first | (simp only [List.getElem?_toArray, List.getElem?_cons_succ, List.getElem?_cons_zero] <;> rfl) | rfl) (by kernel_rfl) (by kernel_rfl) (by kernel_rfl) (by exact fun _ _ _ h => h) (Or.inl ⟨by rfl, ?_⟩) hHeld0 ?_
          rotate_left 1
          · intro w hSw
            try dsimp only at hSw
            (go_simp) <;> (with_reducible rfl)
          try simp only [Act.put, List.setIfInBounds_toArray, List.set_cons_zero, List.set_cons_succ]
          refine wpAnyH_take (i := 2) (v := ?_) (by first | (simp only [List.getElem?_toArray, List.getElem?_cons_succ, List.getElem?_cons_zero] <;> rfl) | rfl) (by kernel_rfl) (by kernel_rfl) (by kernel_rfl) (by exact fun _ _ _ h => h) (Or.inl ⟨by rfl, ?_⟩) hHeld0 ?_
          rotate_left 1
          · intro w hSw
            try dsimp only at hSw
            (go_simp) <;> (with_reducible rfl)
          try simp only [Act.put, List.setIfInBounds_toArray, List.set_cons_zero, List.set_cons_succ]
          refine wpAnyH_take (i := 3) (v := ?_) (by first | (simp only [List.getElem?_toArray, List.getElem?_cons_succ, List.getElem?_cons_zero] <;> rfl) | rfl) (by kernel_rfl) (by kernel_rfl) (by kernel_rfl) (by exact fun _ _ _ h => h) (Or.inl ⟨by rfl, ?_⟩) hHeld0 ?_
          rotate_left 1
          · intro w hSw
            try dsimp only at hSw
            (go_simp) <;> (with_reducible rfl)
          try simp only [Act.put, List.setIfInBounds_toArray, List.set_cons_zero, List.set_cons_succ]
          refine wpAnyH_take (i := 4) (v := ?_) (by first | (simp only [List.getElem?_toArray, List.getElem?_cons_succ, List.getElem?_cons_zero] <;> rfl) | rfl) (by kernel_rfl) (by kernel_rfl) (by kernel_rfl) (by exact fun _ _ _ h => h) (Or.inl ⟨by rfl, ?_⟩) hHeld0 ?_
          rotate_left 1
          · intro w hSw
            try dsimp only at hSw
            (go_simp) <;> (with_reducible rfl)
          try simp only [Act.put, List.setIfInBounds_toArray, List.set_cons_zero, List.set_cons_succ]
          refine wpAnyH_take (i := 5) (v := ?_) (by first | (simp only [List.getElem?_toArray, List.getElem?_cons_succ, List.getElem?_cons_zero] <;> rfl) | rfl) (by kernel_rfl) (by kernel_rfl) (by kernel_rfl) (by exact fun _ _ _ h => h) (Or.inl ⟨by rfl, ?_⟩) hHeld0 ?_
          rotate_left 1
          · intro w hSw
            try dsimp only at hSw
            (go_simp) <;> (with_reducible rfl)
          try simp only [Act.put, List.setIfInBounds_toArray, List.set_cons_zero, List.set_cons_succ]
          refine wpAnyH_take (i := 6) (v := ?_) (by first | (simp only [List.getElem?_toArray, List.getElem?_cons_succ, List.getElem?_cons_zero] <;> rfl) | rfl) (by kernel_rfl) (by kernel_rfl) (by kernel_rfl) (by exact fun _ _ _ h => h) (Or.inl ⟨by rfl, ?_⟩) hHeld0 ?_
          rotate_left 1
          · intro w hSw
            try dsimp only at hSw
            (go_simp) <;> (with_reducible rfl)
          try simp only [Act.put, List.setIfInBounds_toArray, List.set_cons_zero, List.set_cons_succ]
          refine wpAnyH_ready (rs := [7]) (by kernel_rfl) (by simp) ?_
          refine AllReadyH.cons (by first | (simp only [List.getElem?_toArray, List.getElem?_cons_succ, List.getElem?_cons_zero] <;> rfl) | rfl) (fun K hK => ?_) ?_
          · skip
            have hR := HR18.out.below HBv.out
            have hG := HG.out.kept HBv.out
            have hP := hR.put (n := j) hjk (by omega) (freshN 1 i text) HLx.out rfl rfl
            have hG2 := hG.grown (setCells_heap A (rnCells (freshN 1 i text) NIL NIL) (j * 7) vh0) HNe.out
            have hFp := HF18.out.trans ((Fr.ofBelow HBv.out).trans (FrR.put hR (j * 7) (rnCells (freshN 1 i text) NIL NIL)))
            refine wp_store_mid 41 (.tmp 112) (.tmp 111) rfl A (j * 7) _ rfl rfl (hR.there hjk) (by kernel_rfl) (by kernel_rfl) ?_
            show K _ (World.setCells vh0 A (j * 7) (rnCells (freshN 1 i text) NIL NIL))
            refine hK.out _ _ ⟨hP.c0, hG2.cell 0 rfl, hG2.cell 1 rfl, hG2.cell 2 rfl, hG2.cell 3 rfl, hG2.cell 4 rfl, hG2.cell 5 rfl, hG2.cell 6 rfl⟩ (fun hHeld1 => ?_)
            clear hK K hHeld0 HmkS
            generalize World.setCells vh0 A (j * 7) _ = vh1 at hP hFp hHeld1 ⊢
            have HR20 := Lib.hid hP
            have HF20 := Lib.hid hFp
            clear hR hG hP hG2 hFp HBv HR18 HF18
            try simp only [Act.put, List.setIfInBounds_toArray, List.set_cons_zero, List.set_cons_succ]
            refine wpAnyH_done (by kernel_rfl) ?_ _
            rename World => w20
            clear hHeld1
            go_wp2_with fail
            have HmkT := Lib.hid (fun (W : World) (hb : Below w20.heap.size w20 W) => (HR20.out.below hb).c0)
            have HBv := Lib.hid (Below.refl w20.heap.size w20).drew
            have HIL := Lib.hid (show (if i = j then NIL else (lf) i) = (lf) i from if_neg Hij.out)
            have HE20 := Lib.hid (show ERd w20 ((lf) i) (T.nd i).L by have h := HR20.out.list i hik; dsimp only at h; rwa [if_neg Hij.out, upd_other _ _ Hij.out] at h)
            refine wp_region_held_drew (S := (fun W => W.cell? ⟨tb, 0, none⟩ = some (.slice (some ⟨A, 0, none⟩) (k) c))) (by kernel_rfl) ?_ (fun hHeld0 => ?_)
            · exact HmkT.out _ (Below.refl _ _).drew
            generalize World.drew w20 = vh0 at hHeld0 HBv ⊢
            refine wpAnyH_take (i := 0) (v := ?_) (by first | (simp only [List.getElem?_toArray, List.getElem?_cons_zero] <;> rfl) | rfl) (by kernel_rfl) (by kernel_rfl) (by kernel_rfl) (by exact fun _ _ _ h => h) (Or.inl ⟨by rfl, ?_⟩) hHeld0 ?_
            rotate_left 1
            · intro w hSw
              try dsimp only at hSw
              (go_simp) <;> (with_reducible rfl)
            try simp only [Act.put, List.setIfInBounds_toArray, List.set_cons_zero, List.set_cons_succ]
            refine wpAnyH_take (i := 1) (v := ?_) (by first | (simp only [List.getElem?_toArray, List.getElem?_cons_succ, List.getElem?_cons_zero] <;> rfl) | rfl) (by kernel_rfl) (by kernel_rfl) (by kernel_rfl) (by exact fun _ _ _ h => h) (Or.inl ⟨by rfl, ?_⟩) hHeld0 ?_
            rotate_left 1
            · intro w hSw
              try dsimp only at hSw
              (go_simp) <;> (with_reducible rfl)
            try simp only [Act.put, List.setIfInBounds_toArray, List.set_cons_zero, List.set_cons_succ]
            refine wpAnyH_take (i := 2) (v := ?_) (by first | (simp only [List.getElem?_toArray, List.getElem?_cons_succ, List.getElem?_cons_zero] <;> rfl) | rfl) (by kernel_rfl) (by kernel_rfl) (by kernel_rfl) (by exact fun _ _ _ h => h) (Or.inl ⟨by rfl, ?_⟩) hHeld0 ?_
            rotate_left 1
            · intro w hSw
              try dsimp only at hSw
              (go_simp) <;> (with_reducible rfl)
            try simp only [Act.put, List.setIfInBounds_toArray, List.set_cons_zero, List.set_cons_succ]
            refine wpAnyH_take (i := 3) (v := ?_) (by first | (simp only [List.getElem?_toArray, List.getElem?_cons_succ, List.getElem?_cons_zero] <;> rfl) | rfl) (by kernel_rfl) (by kernel_rfl) (by kernel_rfl) (by exact fun _ _ _ h => h) (Or.inl ⟨by rfl, ?_⟩) hHeld0 ?_
            rotate_left 1
            · intro w hSw
              try dsimp only at hSw
              (go_simp) <;> (with_reducible rfl)
            try simp only [Act.put, List.setIfInBounds_toArray, List.set_cons_zero, List.set_cons_succ]
            refine wpAnyH_take (i := 4) (v := ?_) (by first | (simp only [List.getElem?_toArray, List.getElem?_cons_succ, List.getElem?_cons_zero] <;> rfl) | rfl) (by kernel_rfl) (by kernel_rfl) (by kernel_rfl) (by exact fun _ _ _ h => h) (Or.inl ⟨by rfl, ?_⟩) hHeld0 ?_
            rotate_left 1
            · intro w hSw
              try dsimp only at hSw
              (go_simp) <;> (with_reducible rfl)
            try simp only [Act.put, List.setIfInBounds_toArray, List.set_cons_zero, List.set_cons_succ]
            refine wpAnyH_take (i := 5) (v := ?_) (by first | (simp only [List.getElem?_toArray, List.getElem?_cons_succ, List.getElem?_cons_zero] <;> rfl) | rfl) (by kernel_rfl) (by kernel_rfl) (by kernel_rfl) (by exact fun _ _ _ h => h) (Or.inl ⟨by rfl, ?_⟩) hHeld0 ?_
            rotate_left 1
            · intro w hSw
              try dsimp only at hSw
              (go_simp) <;> (with_reducible rfl)
            try simp only [Act.put, List.setIfInBounds_toArray, List.set_cons_zero, List.set_cons_succ]
            refine wpAnyH_take (i := 6) (v := ?_) (by first | (simp only [List.getElem?_toArray, List.getElem?_cons_succ, List.getElem?_cons_zero] <;> rfl) | rfl) (by kernel_rfl) (by kernel_rfl) (by kernel_rfl) (by exact fun _ _ _ h => h) (Or.inl ⟨by rfl, ?_⟩) hHeld0 ?_
            rotate_left 1
            · intro w hSw
              try dsimp only at hSw
              (go_simp) <;> (with_reducible rfl)
            try simp only [Act.put, List.setIfInBounds_toArray, List.set_cons_zero, List.set_cons_succ]
            refine wpAnyH_take (i := 7) (v := ?_) (by first | (simp only [List.getElem?_toArray, List.getElem?_cons_succ, List.getElem?_cons_zero] <;> rfl) | rfl) (by kernel_rfl) (by kernel_rfl) (by kernel_rfl) (by exact fun _ _ _ h => h) (Or.inl ⟨by rfl, ?_⟩) hHeld0 ?_
            rotate_left 1
            · intro w hSw
              try dsimp only at hSw
              (go_simp) <;> (with_reducible rfl)
            try simp only [Act.put, List.setIfInBounds_toArray, List.set_cons_zero, List.set_cons_succ]
            refine wpAnyH_take (i := 8) (v := ?_) (by first | (simp only [List.getElem?_toArray, List.getElem?_cons_succ, List.getElem?_cons_zero] <;> rfl) | rfl) (by kernel_rfl) (by kernel_rfl) (by kernel_rfl) (by exact fun _ _ _ h => h) (Or.inl ⟨by rfl, ?_⟩) hHeld0 ?_
            rotate_left 1
            · intro w hSw
              try dsimp only at hSw
              (go_simp) <;> (with_reducible rfl)
            try simp only [Act.put, List.setIfInBounds_toArray, List.set_cons_zero, List.set_cons_succ]
            refine wpAnyH_take (i := 9) (v := ?_) (by first | (simp only [List.getElem?_toArray, List.getElem?_cons_succ, List.getElem?_cons_zero] <;> rfl) | rfl) (by kernel_rfl) (by kernel_rfl) (by kernel_rfl) (by exact fun _ _ _ h => h) (Or.inl ⟨by rfl, ?_⟩) hHeld0 ?_
            rotate_left 1
            · intro w hSw
              try dsimp only at hSw
              (go_simp) <;> (with_reducible rfl)
            try simp only [Act.put, List.setIfInBounds_toArray, List.set_cons_zero, List.set_cons_succ]
            refine wpAnyH_take (i := 10) (v := ?_) (by first | (simp only [List.getElem?_toArray, List.getElem?_cons_succ, List.getElem?_cons_zero] <;> rfl) | rfl) (by kernel_rfl) (by kernel_rfl) (by kernel_rfl) (by exact fun _ _ _ h => h) (Or.inl ⟨by rfl, ?_⟩) hHeld0 ?_
            rotate_left 1
            · intro w hSw
              try dsimp only at hSw
              (go_simp) <;> (with_reducible rfl)
            try simp only [Act.put, List.setIfInBounds_toArray, List.set_cons_zero, List.set_cons_succ]
            refine wpAnyH_take (i := 11) (v := ?_) (by first | (simp only [List.getElem?_toArray, List.getElem?_cons_succ, List.getElem?_cons_zero] <;> rfl) | rfl) (by kernel_rfl) (by kernel_rfl) (by kernel_rfl) (by exact fun _ _ _ h => h) (Or.inl ⟨by rfl, ?_⟩) hHeld0 ?_
            rotate_left 1
            · intro w hSw
              try dsimp only at hSw
              (go_simp) <;> (with_reducible rfl)
            try simp only [Act.put, List.setIfInBounds_toArray, List.set_cons_zero, List.set_cons_succ]
            refine wpAnyH_take (i := 13) (v := ?_) (by first | (simp only [List.getElem?_toArray, List.getElem?_cons_succ, List.getElem?_cons_zero] <;> rfl) | rfl) (by kernel_rfl) (by kernel_rfl) (by kernel_rfl) (by exact fun _ _ _ h => h) (Or.inl ⟨by rfl, ?_⟩) hHeld0 ?_
            rotate_left 1
            · intro w hSw
              try dsimp only at hSw
              (go_simp) <;> (with_reducible rfl)
            try simp only [Act.put, List.setIfInBounds_toArray, List.set_cons_zero, List.set_cons_succ]
            refine wpAnyH_take (i := 14) (v := ?_) (by first | (simp only [List.getElem?_toArray, List.getElem?_cons_succ, List.getElem?_cons_zero] <;> rfl) | rfl) (by kernel_rfl) (by kernel_rfl) (by kernel_rfl) (by exact fun _ _ _ h => h) (Or.inl ⟨by rfl, ?_⟩) hHeld0 ?_
            rotate_left 1
            · intro w hSw
              try dsimp only at hSw
              (go_simp) <;> (with_reducible rfl)
            try simp only [Act.put, List.setIfInBounds_toArray, List.set_cons_zero, List.set_cons_succ]
            refine wpAnyH_take (i := 15) (v := ?_) (by first | (simp only [List.getElem?_toArray, List.getElem?_cons_succ, List.getElem?_cons_zero] <;> rfl) | rfl) (by kernel_rfl) (by kernel_rfl) (by kernel_rfl) (by exact fun _ _ _ h => h) (Or.inl ⟨by rfl, ?_⟩) hHeld0 ?_
            rotate_left 1
            · intro w hSw
              try dsimp only at hSw
              (go_simp) <;> (with_reducible rfl)
            try simp only [Act.put, List.setIfInBounds_toArray, List.set_cons_zero, List.set_cons_succ]
            refine wpAnyH_ready (rs := [12]) (by kernel_rfl) (by simp) ?_
            refine AllReadyH.cons (by first | (simp only [List.getElem?_toArray, List.getElem?_cons_succ, List.getElem?_cons_zero] <;> rfl) | rfl) (fun K hK => ?_) ?_
            · skip
              have hc2 := ((HR20.out.below HBv.out).cells7 hik).2.2.1
              rw [HIL.out] at hc2
              go_simp
              refine hK.out _ _ hHeld0 (fun hHeld1 => ?_)
              clear hK K hc2 hHeld0
              try simp only [Act.put, List.setIfInBounds_toArray, List.set_cons_zero, List.set_cons_succ]
              refine wpAnyH_ready (rs := [16]) (by kernel_rfl) (by simp) ?_
              refine AllReadyH.cons (by first | (simp only [List.getElem?_toArray, List.getElem?_cons_succ, List.getElem?_cons_zero] <;> rfl) | rfl) (fun K hK => ?_) ?_
              · go_simp
                refine (insert_any (HE20.out.below HBv.out) (by have := HRm.out.2.2; omega) s j HRm.out.2.1).mono ?_
                rintro e vh2 ⟨v5, rfl, hown, hbb⟩
                have HBn := Lib.hid (HBv.out.trans (hbb.mono HBv.out.size))
                obtain ⟨A5, c5, rfl, o1, o2, _, o3⟩ := own_typed hown
                have HE5 := Lib.hid (show ERd vh2 (.slice A5 (insE (s.data.toList, j) (T.nd i).L).length c5) (insE (s.data.toList, j) (T.nd i).L) from ⟨A5, c5, rfl, o1, o3, o2⟩)
                refine hK.out _ _ (HmkT.out _ HBn.out) (fun hHeld2 => ?_)
                clear hK K
                have HBv := HBn
                clear hown hbb HBn o1 o2 o3 hHeld1
                try simp only [Act.put, List.setIfInBounds_toArray, List.set_cons_zero, List.set_cons_succ]
                refine wpAnyH_take (i := 17) (v := ?_) (by first | (simp only [List.getElem?_toArray, List.getElem?_cons_succ, List.getElem?_cons_zero] <;> rfl) | rfl) (by kernel_rfl) (by kernel_rfl) (by kernel_rfl) (by exact fun _ _ _ h => h) (Or.inl ⟨by rfl, ?_⟩) hHeld2 ?_
                rotate_left 1
                · intro w hSw
                  try dsimp only at hSw
                  (go_simp) <;> (with_reducible rfl)
                try simp only [Act.put, List.setIfInBounds_toArray, List.set_cons_zero, List.set_cons_succ]
                refine wpAnyH_take (i := 18) (v := ?_) (by first | (simp only [List.getElem?_toArray, List.getElem?_cons_succ, List.getElem?_cons_zero] <;> rfl) | rfl) (by kernel_rfl) (by kernel_rfl) (by kernel_rfl) (by exact fun _ _ _ h => h) (Or.inl ⟨by rfl, ?_⟩) hHeld2 ?_
                rotate_left 1
                · intro w hSw
                  try dsimp only at hSw
                  (go_simp) <;> (with_reducible rfl)
                try simp only [Act.put, List.setIfInBounds_toArray, List.set_cons_zero, List.set_cons_succ]
                refine wpAnyH_ready (rs := [19]) (by kernel_rfl) (by simp) ?_
                refine AllReadyH.cons (by first | (simp only [List.getElem?_toArray, List.getElem?_cons_succ, List.getElem?_cons_zero] <;> rfl) | rfl) (fun K hK => ?_) ?_
                · skip
                  have hR := HR20.out.below HBv.out
                  have hq := hR.fzA (i * 7 + 2)
                  have hc2 := (hR.cells7 hik).2.2.1
                  have hset := hR.setL hik HI0.out (insE (s.data.toList, j) (T.nd i).L) (by rw [insE_len]; have := HRm.out.2.2; omega) HE5.out
                  have hFp := HF20.out.trans ((Fr.ofBelow HBv.out).trans (FrR.row hR (i * 7 + 2) (.slice A5 (insE (s.data.toList, j) (T.nd i).L).length c5)))
                  generalize (insE (s.data.toList, j) (T.nd i).L).length = len5 at hset hFp HE5 ⊢
                  go_simp
                  refine hK.out _ _ hset.c0 (fun hHeld3 => ?_)
                  clear hK K hc2 hq HmkT
                  generalize World.setCell vh2 _ _ = vh3 at hset hFp ⊢
                  have HR30 := Lib.hid hset
                  have HF30 := Lib.hid hFp
                  clear hset hFp hR HBv HE5 HR20 HF20 hHeld2
                  try simp only [Act.put, List.setIfInBounds_toArray, List.set_cons_zero, List.set_cons_succ]
                  refine wpAnyH_done (by kernel_rfl) ?_ _
                  rename World => w19
                  clear hHeld3
                  have hq := HR30.out.fzT 4
                  have hch := Hch.out
                  obtain ⟨cc, hcc⟩ : ∃ q, q = T.ch := ⟨_, rfl⟩
                  have HCc := Lib.hid hcc
                  have ho : w19.cell? ⟨tb, 4, none⟩ = some (.int .i64 cc) := by rw [hcc]; exact HR30.out.c4
                  rw [← hcc] at hch
                  clear hcc
                  go_wp2_with fail
                  go_ret2
                  have hfin := HR30.out.setCh (cc + 1) (by omega)
                  have hfr := FrR.tab HR30.out 4 (.int .i64 ((cc + 1 : Nat) : Int))
                  obtain ⟨hjn, _⟩ := HN.out
                  subst hjn
                  exact ⟨rfl, made_rt HCc.out Hij.out hfin, HF30.out.trans hfr⟩
                exact AllReadyH.nil
              exact AllReadyH.nil
            exact AllReadyH.nil
          exact AllReadyH.nil
        · have z : (0 : Int) < (q : Int) := by omega
          have z2 : 0 < q := by omega
          have Hn := Lib.hid (show ∀ m, 1 ≤ m → m < j + 1 → (T.nd m).kd ≠ 0 from fun m h1 h2 => by
            by_cases e : m = j
            · subst e; rw [← HQ.out]; exact q0
            · exact Hg.out m h1 (by omega))
          clear q0
          go_wp2
          go_round
          case rel => exact ⟨j + 1, by omega, by omega, by go_num, Hn⟩
          case measure => simp [intOf]; omega
      · obtain rfl : j = k := by omega
        have HN := Lib.hid (HFr.out j ⟨hj1, hj2⟩ Hg.out (.inl rfl))
        have fzT := H3.out.fzT 0
        clear hlt hj2 Hg
        go_wp2_with (at_builtin; refine append_one rfl (.tmp 90) (.tmp 92) 42 41 rfl _ 7 96 infoNd Try.underlying42 rfl (by decide) (by decide) B _ j (rcL T j df lf) rfl (H3.out.row.alloc _) w3.heap.size [.int .i64 0, NIL, NIL, .int .i64 0, .string ⟨#[]⟩, .int .i64 0, .int .i64 0] rfl rfl (Bk.new w3 _ _ rfl) (by intro u hu; simp at hu; rcases hu with rfl | rfl | rfl | rfl | rfl | rfl | rfl <;> rfl) (by omega) (Nat.le_trans (Nat.le_of_lt H3.out.lt) (by simp)) ?_; intro v4 w4 hown4 hg4 _; obtain ⟨A4, c4, hv4, hP4, hF4, p0, f0⟩ := (H3.out.below (oneb w3 (.cells #[.int .i64 0, NIL, NIL, .int .i64 0, .string ⟨#[]⟩, .int .i64 0, .int .i64 0] 41))).push2 HN.out.2 hown4 hg4; subst hv4; have HP4 := Lib.hid hP4; have HF4 := Lib.hid hF4; clear hown4 hg4 hP4 hF4 c0)
        have hsz : (w4.setCell ⟨tb, 0, none⟩ (.slice (some ⟨A4, 0, none⟩) (j + 1) c4)).heap.size = w4.heap.size := by simp
        try rw [← hsz]
        clear hsz p0 f0
        generalize hw5 : w4.setCell ⟨tb, 0, none⟩ (.slice (some ⟨A4, 0, none⟩) (j + 1) c4) = w5 at HP4 HF4 ⊢
        clear hw5
        have HF5 := Lib.hid ((HF3.out.trans (Fr.ofBelow (oneb w3 (.cells #[.int .i64 0, NIL, NIL, .int .i64 0, .string ⟨#[]⟩, .int .i64 0, .int .i64 0] 41)))).trans HF4.out)
        clear HF4
        have Hij := Lib.hid (show i ≠ j from fun e => by have h2 := HRm.out.1; rw [e, H3.out.out j (.inr (Nat.le_refl _))] at h2; cases h2)
        have HI0 := Lib.hid (show i ≠ 0 from fun e => by have h2 := HRm.out.1; rw [e, H3.out.out 0 (.inl rfl)] at h2; cases h2)
        have hik0 : i < j := by rcases Nat.lt_or_ge i j with q | q; exact q; exact absurd HRm.out.1 (by rw [H3.out.out i (.inr q)]; decide)
        have hB14 : Bk (World.alloc w5 (.cells #[.int .i64 1, NIL, NIL, .int .i64 0, .string ⟨#[]⟩, .int .i64 1, .int .i64 0] 41)) w5.heap.size 41 (rnCells (freshN 1 i text) NIL NIL) := (Bk.new w5 41 #[.int .i64 1, NIL, NIL, .int .i64 0, .string ⟨#[]⟩, .int .i64 1, .int .i64 0] (l := [.int .i64 1, NIL, NIL, .int .i64 0, .string ⟨#[]⟩, .int .i64 1, .int .i64 0]) rfl)
        have hb14 : Below w5.heap.size w5 (World.alloc w5 (.cells #[.int .i64 1, NIL, NIL, .int .i64 0, .string ⟨#[]⟩, .int .i64 1, .int .i64 0] 41)) := oneb w5 (.cells #[.int .i64 1, NIL, NIL, .int .i64 0, .string ⟨#[]⟩, .int .i64 1, .int .i64 0] 41)
        generalize (World.alloc w5 (.cells #[.int .i64 1, NIL, NIL, .int .i64 0, .string ⟨#[]⟩, .int .i64 1, .int .i64 0] 41)) = w18 at hB14 hb14 ⊢
        have HR18 := Lib.hid (HP4.out.below hb14)
        have HF18 := Lib.hid (HF5.out.trans (Fr.ofBelow hb14))
        have HNe := Lib.hid (show (some w5.heap.size : Option Nat) ≠ some A4 from fun e => by have h1 := HP4.out.tyA.lt; have h2 := Option.some.inj e; omega)
        have HG := Lib.hid hB14
        clear hB14 hb14
        have HmkS := Lib.hid (fun (W : World) (hb : Below w18.heap.size w18 W) => (⟨(HR18.out.below hb).c0, (HG.out.kept hb).cell 0 rfl, (HG.out.kept hb).cell 1 rfl, (HG.out.kept hb).cell 2 rfl, (HG.out.kept hb).cell 3 rfl, (HG.out.kept hb).cell 4 rfl, (HG.out.kept hb).cell 5 rfl, (HG.out.kept hb).cell 6 rfl⟩ : W.cell? ⟨tb, 0, none⟩ = some (.slice (some ⟨A4, 0, none⟩) ((j + 1)) c4) ∧ W.cell? ⟨w5.heap.size, 0, none⟩ = some (.int .i64 (1 : Nat)) ∧ W.cell? ⟨w5.heap.size, 1, none⟩ = some (NIL) ∧ W.cell? ⟨w5.heap.size, 2, none⟩ = some (NIL) ∧ W.cell? ⟨w5.heap.size, 3, none⟩ = some (.int .i64 (0 : Nat)) ∧ W.cell? ⟨w5.heap.size, 4, none⟩ = some (.string ⟨#[]⟩) ∧ W.cell? ⟨w5.heap.size, 5, none⟩ = some (.int .i64 (1 : Nat)) ∧ W.cell? ⟨w5.heap.size, 6, none⟩ = some (.int .i64 (0 : Nat))))
        have HBv := Lib.hid (Below.refl w18.heap.size w18).drew
        have hjk : j < (j + 1) := by omega
        have hik : i < (j + 1) := by omega
        have hjk1 : (j : Int) < (j : Int) + 1 := by omega
        skip
        have hik3 : (i : Int) < (j : Int) + 1 := by omega
        refine wp_region_held_drew (S := (fun W => W.cell? ⟨tb, 0, none⟩ = some (.slice (some ⟨A4, 0, none⟩) ((j + 1)) c4) ∧ W.cell? ⟨w5.heap.size, 0, none⟩ = some (.int .i64 (1 : Nat)) ∧ W.cell? ⟨w5.heap.size, 1, none⟩ = some (NIL) ∧ W.cell? ⟨w5.heap.size, 2, none⟩ = some (NIL) ∧ W.cell? ⟨w5.heap.size, 3, none⟩ = some (.int .i64 (0 : Nat)) ∧ W.cell? ⟨w5.heap.size, 4, none⟩ = some (.string ⟨#[]⟩) ∧ W.cell? ⟨w5.heap.size, 5, none⟩ = some (.int .i64 (1 : Nat)) ∧ W.cell? ⟨w5.heap.size, 6, none⟩ = some (.int .i64 (0 : Nat)))) (by kernel_rfl) ?_ (fun hHeld0 => ?_)
        · exact HmkS.out _ (Below.refl _ _).drew
        generalize World.drew w18 = vh0 at hHeld0 HBv ⊢
        refine wpAnyH_take (i := 0) (v := ?_) (by first | (simp only [List.getElem?_toArray, List.getElem?_cons_zero] <;> rfl) | rfl) (by kernel_rfl) (by kernel_rfl) (by kernel_rfl) (by exact fun _ _ _ h => h) (Or.inl ⟨by rfl, ?_⟩) hHeld0 ?_
        rotate_left 1
        · intro w hSw
          try dsimp only at hSw
          (go_simp) <;> (with_reducible rfl)
        try simp only [Act.put, List.setIfInBounds_toArray, List.set_cons_zero, List.set_cons_succ]
        refine wpAnyH_take (i := 1) (v := ?_) (by first | (simp only [List.getElem?_toArray, List.getElem?_cons_succ, List.getElem?_cons_zero] <;> rfl) | rfl) (by kernel_rfl) (by kernel_rfl) (by kernel_rfl) (by exact fun _ _ _ h => h) (Or.inl ⟨by rfl, ?_⟩) hHeld0 ?_
        rotate_left 1
        · intro w hSw
          try dsimp only at hSw
          (go_simp) <;> (with_reducible rfl)
        try simp only [Act.put, List.setIfInBounds_toArray, List.set_cons_zero, List.set_cons_succ]
        refine wpAnyH_take (i := 2) (v := ?_) (by first | (simp only [List.getElem?_toArray, List.getElem?_cons_succ, List.getElem?_cons_zero] <;> rfl) | rfl) (by kernel_rfl) (by kernel_rfl) (by kernel_rfl) (by exact fun _ _ _ h => h) (Or.inl ⟨by rfl, ?_⟩) hHeld0 ?_
        rotate_left 1
        · intro w hSw
          try dsimp only at hSw
          (go_simp) <;> (with_reducible rfl)
        try simp only [Act.put, List.setIfInBounds_toArray, List.set_cons_zero, List.set_cons_succ]
        refine wpAnyH_take (i := 3) (v := ?_) (by first | (simp only [List.getElem?_toArray, List.getElem?_cons_succ, List.getElem?_cons_zero] <;> rfl) | rfl) (by kernel_rfl) (by kernel_rfl) (by kernel_rfl) (by exact fun _ _ _ h => h) (Or.inl ⟨by rfl, ?_⟩) hHeld0 ?_
        rotate_left 1
        · intro w hSw
          try dsimp only at hSw
          (go_simp) <;> (with_reducible rfl)
        try simp only [Act.put, List.setIfInBounds_toArray, List.set_cons_zero, List.set_cons_succ]
        refine wpAnyH_take (i := 4) (v := ?_) (by first | (simp only [List.getElem?_toArray, List.getElem?_cons_succ, List.getElem?_cons_zero] <;> rfl) | rfl) (by kernel_rfl) (by kernel_rfl) (by kernel_rfl) (by exact fun _ _ _ h => h) (Or.inl ⟨by rfl, ?_⟩) hHeld0 ?_
        rotate_left 1
        · intro w hSw
          try dsimp only at hSw
          (go_simp) <;> (with_reducible rfl)
        try simp only [Act.put, List.setIfInBounds_toArray, List.set_cons_zero, List.set_cons_succ]
        refine wpAnyH_take (i := 5) (v := ?_) (by first | (simp only [List.getElem?_toArray, List.getElem?_cons_succ, List.getElem?_cons_zero] <;> rfl) | rfl) (by kernel_rfl) (by kernel_rfl) (by kernel_rfl) (by exact fun _ _ _ h => h) (Or.inl ⟨by rfl, ?_⟩) hHeld0 ?_
        rotate_left 1
        · intro w hSw
          try dsimp only at hSw
          (go_simp) <;> (with_reducible rfl)
        try simp only [Act.put, List.setIfInBounds_toArray, List.set_cons_zero, List.set_cons_succ]
        refine wpAnyH_take (i := 6) (v := ?_) (by first | (simp only [List.getElem?_toArray, List.getElem?_cons_succ, List.getElem?_cons_zero] <;> rfl) | rfl) (by kernel_rfl) (by kernel_rfl) (by kernel_rfl) (by exact fun _ _ _ h => h) (Or.inl ⟨by rfl, ?_⟩) hHeld0 ?_
        rotate_left 1
        · intro w hSw
          try dsimp only at hSw
          (go_simp) <;> (with_reducible rfl)
        try simp only [Act.put, List.setIfInBounds_toArray, List.set_cons_zero, List.set_cons_succ]
        refine wpAnyH_ready (rs := [7]) (by kernel_rfl) (by simp) ?_
        refine AllReadyH.cons (by first | (simp only [List.getElem?_toArray, List.getElem?_cons_succ, List.getElem?_cons_zero] <;> rfl) | rfl) (fun K hK => ?_) ?_
        · skip
          have hR := HR18.out.below HBv.out
          have hG := HG.out.kept HBv.out
          have hP := hR.put (n := j) hjk (by omega) (freshN 1 i text) HLx.out rfl rfl
          have hG2 := hG.grown (setCells_heap A4 (rnCells (freshN 1 i text) NIL NIL) (j * 7) vh0) HNe.out
          have hFp := HF18.out.trans ((Fr.ofBelow HBv.out).trans (FrR.put hR (j * 7) (rnCells (freshN 1 i text) NIL NIL)))
          refine wp_store_mid 41 (.tmp 112) (.tmp 111) rfl A4 (j * 7) _ rfl rfl (hR.there hjk) (by kernel_rfl) (by kernel_rfl) ?_
          show K _ (World.setCells vh0 A4 (j * 7) (rnCells (freshN 1 i text) NIL NIL))
          refine hK.out _ _ ⟨hP.c0, hG2.cell 0 rfl, hG2.cell 1 rfl, hG2.cell 2 rfl, hG2.cell 3 rfl, hG2.cell 4 rfl, hG2.cell 5 rfl, hG2.cell 6 rfl⟩ (fun hHeld1 => ?_)
          clear hK K hHeld0 HmkS
          generalize World.setCells vh0 A4 (j * 7) _ = vh1 at hP hFp hHeld1 ⊢
          have HR20 := Lib.hid hP
          have HF20 := Lib.hid hFp
          clear hR hG hP hG2 hFp HBv HR18 HF18
          try simp only [Act.put, List.setIfInBounds_toArray, List.set_cons_zero, List.set_cons_succ]
          refine wpAnyH_done (by kernel_rfl) ?_ _
          rename World => w20
          clear hHeld1
          go_wp2_with fail
          have HmkT := Lib.hid (fun (W : World) (hb : Below w20.heap.size w20 W) => (HR20.out.below hb).c0)
          have HBv := Lib.hid (Below.refl w20.heap.size w20).drew
          have HIL := Lib.hid (show (if i = j then NIL else ((fun q => if q = j then NIL else lf q)) i) = ((fun q => if q = j then NIL else lf q)) i from if_neg Hij.out)
          have HE20 := Lib.hid (show ERd w20 (((fun q => if q = j then NIL else lf q)) i) (T.nd i).L by have h := HR20.out.list i hik; dsimp only at h; rwa [if_neg Hij.out, upd_other _ _ Hij.out] at h)
          refine wp_region_held_drew (S := (fun W => W.cell? ⟨tb, 0, none⟩ = some (.slice (some ⟨A4, 0, none⟩) ((j + 1)) c4))) (by kernel_rfl) ?_ (fun hHeld0 => ?_)
          · exact HmkT.out _ (Below.refl _ _).drew
          generalize World.drew w20 = vh0 at hHeld0 HBv ⊢
          refine wpAnyH_take (i := 0) (v := ?_) (by first | (simp only [List.getElem?_toArray, List.getElem?_cons_zero] <;> rfl) | rfl) (by kernel_rfl) (by kernel_rfl) (by kernel_rfl) (by exact fun _ _ _ h => h) (Or.inl ⟨by rfl, ?_⟩) hHeld0 ?_
          rotate_left 1
          · intro w hSw
            try dsimp only at hSw
            (go_simp) <;> (with_reducible rfl)
          try simp only [Act.put, List.setIfInBounds_toArray, List.set_cons_zero, List.set_cons_succ]
          refine wpAnyH_take (i := 1) (v := ?_) (by first | (simp only [List.getElem?_toArray, List.getElem?_cons_succ, List.getElem?_cons_zero] <;> rfl) | rfl) (by kernel_rfl) (by kernel_rfl) (by kernel_rfl) (by exact fun _ _ _ h => h) (Or.inl ⟨by rfl, ?_⟩) hHeld0 ?_
          rotate_left 1
          · intro w hSw
            try dsimp only at hSw
            (go_simp) <;> (with_reducible rfl)
          try simp only [Act.put, List.setIfInBounds_toArray, List.set_cons_zero, List.set_cons_succ]
          refine wpAnyH_take (i := 2) (v := ?_) (by first | (simp only [List.getElem?_toArray, List.getElem?_cons_succ, List.getElem?_cons_zero] <;> rfl) | rfl) (by kernel_rfl) (by kernel_rfl) (by kernel_rfl) (by exact fun _ _ _ h => h) (Or.inl ⟨by rfl, ?_⟩) hHeld0 ?_
          rotate_left 1
          · intro w hSw
            try dsimp only at hSw
            (go_simp) <;> (with_reducible rfl)
          try simp only [Act.put, List.setIfInBounds_toArray, List.set_cons_zero, List.set_cons_succ]
          refine wpAnyH_take (i := 3) (v := ?_) (by first | (simp only [List.getElem?_toArray, List.getElem?_cons_succ, List.getElem?_cons_zero] <;> rfl) | rfl) (by kernel_rfl) (by kernel_rfl) (by kernel_rfl) (by exact fun _ _ _ h => h) (Or.inl ⟨by rfl, ?_⟩) hHeld0 ?_
          rotate_left 1
          · intro w hSw
            try dsimp only at hSw
            (go_simp) <;> (with_reducible rfl)
          try simp only [Act.put, List.setIfInBounds_toArray, List.set_cons_zero, List.set_cons_succ]
          refine wpAnyH_take (i := 4) (v := ?_) (by first | (simp only [List.getElem?_toArray, List.getElem?_cons_succ, List.getElem?_cons_zero] <;> rfl) | rfl) (by kernel_rfl) (by kernel_rfl) (by kernel_rfl) (by exact fun _ _ _ h => h) (Or.inl ⟨by rfl, ?_⟩) hHeld0 ?_
          rotate_left 1
          · intro w hSw
            try dsimp only at hSw
            (go_simp) <;> (with_reducible rfl)
          try simp only [Act.put, List.setIfInBounds_toArray, List.set_cons_zero, List.set_cons_succ]
          refine wpAnyH_take (i := 5) (v := ?_) (by first | (simp only [List.getElem?_toArray, List.getElem?_cons_succ, List.getElem?_cons_zero] <;> rfl) | rfl) (by kernel_rfl) (by kernel_rfl) (by kernel_rfl) (by exact fun _ _ _ h => h) (Or.inl ⟨by rfl, ?_⟩) hHeld0 ?_
          rotate_left 1
          · intro w hSw
            try dsimp only at hSw
            (go_simp) <;> (with_reducible rfl)
          try simp only [Act.put, List.setIfInBounds_toArray, List.set_cons_zero, List.set_cons_succ]
          refine wpAnyH_take (i := 6) (v := ?_) (by first | (simp only [List.getElem?_toArray, List.getElem?_cons_succ, List.getElem?_cons_zero] <;> rfl) | rfl) (by kernel_rfl) (by kernel_rfl) (by kernel_rfl) (by exact fun _ _ _ h => h) (Or.inl ⟨by rfl, ?_⟩) hHeld0 ?_
          rotate_left 1
          · intro w hSw
            try dsimp only at hSw
            (go_simp) <;> (with_reducible rfl)
          try simp only [Act.put, List.setIfInBounds_toArray, List.set_cons_zero, List.set_cons_succ]
          refine wpAnyH_take (i := 7) (v := ?_) (by first | (simp only [List.getElem?_toArray, List.getElem?_cons_succ, List.getElem?_cons_zero] <;> rfl) | rfl) (by kernel_rfl) (by kernel_rfl) (by kernel_rfl) (by exact fun _ _ _ h => h) (Or.inl ⟨by rfl, ?_⟩) hHeld0 ?_
          rotate_left 1
          · intro w hSw
            try dsimp only at hSw
            (go_simp) <;> (with_reducible rfl)
          try simp only [Act.put, List.setIfInBounds_toArray, List.set_cons_zero, List.set_cons_succ]
          refine wpAnyH_take (i := 8) (v := ?_) (by first | (simp only [List.getElem?_toArray, List.getElem?_cons_succ, List.getElem?_cons_zero] <;> rfl) | rfl) (by kernel_rfl) (by kernel_rfl) (by kernel_rfl) (by exact fun _ _ _ h => h) (Or.inl ⟨by rfl, ?_⟩) hHeld0 ?_
          rotate_left 1
          · intro w hSw
            try dsimp only at hSw
            (go_simp) <;> (with_reducible rfl)
          try simp only [Act.put, List.setIfInBounds_toArray, List.set_cons_zero, List.set_cons_succ]
          refine wpAnyH_take (i := 9) (v := ?_) (by first | (simp only [List.getElem?_toArray, List.getElem?_cons_succ, List.getElem?_cons_zero] <;> rfl) | rfl) (by kernel_rfl) (by kernel_rfl) (by kernel_rfl) (by exact fun _ _ _ h => h) (Or.inl ⟨by rfl, ?_⟩) hHeld0 ?_
          rotate_left 1
          · intro w hSw
            try dsimp only at hSw
            (go_simp) <;> (with_reducible rfl)
          try simp only [Act.put, List.setIfInBounds_toArray, List.set_cons_zero, List.set_cons_succ]
          refine wpAnyH_take (i := 10) (v := ?_) (by first | (simp only [List.getElem?_toArray, List.getElem?_cons_succ, List.getElem?_cons_zero] <;> rfl) | rfl) (by kernel_rfl) (by kernel_rfl) (by kernel_rfl) (by exact fun _ _ _ h => h) (Or.inl ⟨by rfl, ?_⟩) hHeld0 ?_
          rotate_left 1
          · intro w hSw
            try dsimp only at hSw
            (go_simp) <;> (with_reducible rfl)
          try simp only [Act.put, List.setIfInBounds_toArray, List.set_cons_zero, List.set_cons_succ]
          refine wpAnyH_take (i := 11) (v := ?_) (by first | (simp only [List.getElem?_toArray, List.getElem?_cons_succ, List.getElem?_cons_zero] <;> rfl) | rfl) (by kernel_rfl) (by kernel_rfl) (by kernel_rfl) (by exact fun _ _ _ h => h) (Or.inl ⟨by rfl, ?_⟩) hHeld0 ?_
          rotate_left 1
          · intro w hSw
            try dsimp only at hSw
            (go_simp) <;> (with_reducible rfl)
          try simp only [Act.put, List.setIfInBounds_toArray, List.set_cons_zero, List.set_cons_succ]
          refine wpAnyH_take (i := 13) (v := ?_) (by first | (simp only [List.getElem?_toArray, List.getElem?_cons_succ, List.getElem?_cons_zero] <;> rfl) | rfl) (by kernel_rfl) (by kernel_rfl) (by kernel_rfl) (by exact fun _ _ _ h => h) (Or.inl ⟨by rfl, ?_⟩) hHeld0 ?_
          rotate_left 1
          · intro w hSw
            try dsimp only at hSw
            (go_simp) <;> (with_reducible rfl)
          try simp only [Act.put, List.setIfInBounds_toArray, List.set_cons_zero, List.set_cons_succ]
          refine wpAnyH_take (i := 14) (v := ?_) (by first | (simp only [List.getElem?_toArray, List.getElem?_cons_succ, List.getElem?_cons_zero] <;> rfl) | rfl) (by kernel_rfl) (by kernel_rfl) (by kernel_rfl) (by exact fun _ _ _ h => h) (Or.inl ⟨by rfl, ?_⟩) hHeld0 ?_
          rotate_left 1
          · intro w hSw
            try dsimp only at hSw
            (go_simp) <;> (with_reducible rfl)
          try simp only [Act.put, List.setIfInBounds_toArray, List.set_cons_zero, List.set_cons_succ]
          refine wpAnyH_take (i := 15) (v := ?_) (by first | (simp only [List.getElem?_toArray, List.getElem?_cons_succ, List.getElem?_cons_zero] <;> rfl) | rfl) (by kernel_rfl) (by kernel_rfl) (by kernel_rfl) (by exact fun _ _ _ h => h) (Or.inl ⟨by rfl, ?_⟩) hHeld0 ?_
          rotate_left 1
          · intro w hSw
            try dsimp only at hSw
            (go_simp) <;> (with_reducible rfl)
          try simp only [Act.put, List.setIfInBounds_toArray, List.set_cons_zero, List.set_cons_succ]
          refine wpAnyH_ready (rs := [12]) (by kernel_rfl) (by simp) ?_
          refine AllReadyH.cons (by first | (simp only [List.getElem?_toArray, List.getElem?_cons_succ, List.getElem?_cons_zero] <;> rfl) | rfl) (fun K hK => ?_) ?_
          · skip
            have hc2 := ((HR20.out.below HBv.out).cells7 hik).2.2.1
            rw [HIL.out] at hc2
            go_simp
            refine hK.out _ _ hHeld0 (fun hHeld1 => ?_)
            clear hK K hc2 hHeld0
            try simp only [Act.put, List.setIfInBounds_toArray, List.set_cons_zero, List.set_cons_succ]
            refine wpAnyH_ready (rs := [16]) (by kernel_rfl) (by simp) ?_
            refine AllReadyH.cons (by first | (simp only [List.getElem?_toArray, List.getElem?_cons_succ, List.getElem?_cons_zero] <;> rfl) | rfl) (fun K hK => ?_) ?_
            · go_simp
              refine (insert_any (HE20.out.below HBv.out) (by have := HRm.out.2.2; omega) s j HRm.out.2.1).mono ?_
              rintro e vh2 ⟨v5, rfl, hown, hbb⟩
              have HBn := Lib.hid (HBv.out.trans (hbb.mono HBv.out.size))
              obtain ⟨A5, c5, rfl, o1, o2, _, o3⟩ := own_typed hown
              have HE5 := Lib.hid (show ERd vh2 (.slice A5 (insE (s.data.toList, j) (T.nd i).L).length c5) (insE (s.data.toList, j) (T.nd i).L) from ⟨A5, c5, rfl, o1, o3, o2⟩)
              refine hK.out _ _ (HmkT.out _ HBn.out) (fun hHeld2 => ?_)
              clear hK K
              have HBv := HBn
              clear hown hbb HBn o1 o2 o3 hHeld1
              try simp only [Act.put, List.setIfInBounds_toArray, List.set_cons_zero, List.set_cons_succ]
              refine wpAnyH_take (i := 17) (v := ?_) (by first | (simp only [List.getElem?_toArray, List.getElem?_cons_succ, List.getElem?_cons_zero] <;> rfl) | rfl) (by kernel_rfl) (by kernel_rfl) (by kernel_rfl) (by exact fun _ _ _ h => h) (Or.inl ⟨by rfl, ?_⟩) hHeld2 ?_
              rotate_left 1
              · intro w hSw
                try dsimp only at hSw
                (go_simp) <;> (with_reducible rfl)
              try simp only [Act.put, List.setIfInBounds_toArray, List.set_cons_zero, List.set_cons_succ]
              refine wpAnyH_take (i := 18) (v := ?_) (by first | (simp only [List.getElem?_toArray, List.getElem?_cons_succ, List.getElem?_cons_zero] <;> rfl) | rfl) (by kernel_rfl) (by kernel_rfl) (by kernel_rfl) (by exact fun _ _ _ h => h) (Or.inl ⟨by rfl, ?_⟩) hHeld2 ?_
              rotate_left 1
              · intro w hSw
                try dsimp only at hSw
                (go_simp) <;> (with_reducible rfl)
              try simp only [Act.put, List.setIfInBounds_toArray, List.set_cons_zero, List.set_cons_succ]
              refine wpAnyH_ready (rs := [19]) (by kernel_rfl) (by simp) ?_
              refine AllReadyH.cons (by first | (simp only [List.getElem?_toArray, List.getElem?_cons_succ, List.getElem?_cons_zero] <;> rfl) | rfl) (fun K hK => ?_) ?_
              · skip
                have hR := HR20.out.below HBv.out
                have hq := hR.fzA (i * 7 + 2)
                have hc2 := (hR.cells7 hik).2.2.1
                have hset := hR.setL hik HI0.out (insE (s.data.toList, j) (T.nd i).L) (by rw [insE_len]; have := HRm.out.2.2; omega) HE5.out
                have hFp := HF20.out.trans ((Fr.ofBelow HBv.out).trans (FrR.row hR (i * 7 + 2) (.slice A5 (insE (s.data.toList, j) (T.nd i).L).length c5)))
                generalize (insE (s.data.toList, j) (T.nd i).L).length = len5 at hset hFp HE5 ⊢
                go_simp
                refine hK.out _ _ hset.c0 (fun hHeld3 => ?_)
                clear hK K hc2 hq HmkT
                generalize World.setCell vh2 _ _ = vh3 at hset hFp ⊢
                have HR30 := Lib.hid hset
                have HF30 := Lib.hid hFp
                clear hset hFp hR HBv HE5 HR20 HF20 hHeld2
                try simp only [Act.put, List.setIfInBounds_toArray, List.set_cons_zero, List.set_cons_succ]
                refine wpAnyH_done (by kernel_rfl) ?_ _
                rename World => w19
                clear hHeld3
                have hq := HR30.out.fzT 4
                have hch := Hch.out
                obtain ⟨cc, hcc⟩ : ∃ q, q = T.ch := ⟨_, rfl⟩
                have HCc := Lib.hid hcc
                have ho : w19.cell? ⟨tb, 4, none⟩ = some (.int .i64 cc) := by rw [hcc]; exact HR30.out.c4
                rw [← hcc] at hch
                clear hcc
                go_wp2_with fail
                go_ret2
                have hfin := HR30.out.setCh (cc + 1) (by omega)
                have hfr := FrR.tab HR30.out 4 (.int .i64 ((cc + 1 : Nat) : Int))
                obtain ⟨hjn, _⟩ := HN.out
                subst hjn
                exact ⟨rfl, made_rt HCc.out Hij.out hfin, HF30.out.trans hfr⟩
              exact AllReadyH.nil
            exact AllReadyH.nil
          exact AllReadyH.nil
        exact AllReadyH.nil
  exact AllReadyH.nil
end
end Go.Proofs.Ytdlglllidolggaa.In
