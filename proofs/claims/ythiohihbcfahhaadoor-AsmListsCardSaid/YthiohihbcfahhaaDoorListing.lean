/- Instructions as a listing. -/
import Derived.Test.YthiohihbcfahhaaDoorGoes
import Derived.Test.YthiohihbcfahhaaDoorText
import Derived.Deep.RegionHeld3
namespace Go.Proofs.YthiohihbcfahhaaDoor
open Go.RowKit
def lineB (at' : Nat) (i : Ins) : Bs := Lib.decDigits at' ++ [58, 32] ++ told i ++ goesB i at' ++ [10]
def listTo (L : List Ins) : Nat → Bs
  | 0 => []
  | k + 1 => listTo L k ++ (match L[k]? with | some i => lineB k i | none => [])
theorem listTo_step {L : List Ins} {k : Nat} {i : Ins} (h : L[k]? = some i) : listTo L (k + 1) = listTo L k ++ lineB k i := by rw [listTo, h]
theorem line_len {k : Nat} {i : Ins} (hi : i.ok) (hk : k < 10000) : (lineB k i).length ≤ 119 := by
  unfold lineB
  have a1 := dec_len20' (u := k) (by omega)
  have a2 := told_len i hi
  have a3 := goes_len i k hi hk
  simp
  omega
theorem list_len (L : List Ins) (hL : ∀ i ∈ L, i.ok) : ∀ k, k < 10000 → (listTo L k).length ≤ k * 119
  | 0, _ => by simp [listTo]
  | k + 1, hk => by
    have ih := list_len L hL k (by omega)
    rw [listTo, List.length_append]
    cases h : L[k]? with
    | none => simp; omega
    | some i => have := line_len (k := k) (hL i (List.mem_of_getElem? h)) (by omega); simp; omega
theorem insS {w' : World} {g : Nat} {i : Ins} (h1 : Bk w' g 38 i.cells) : (fun w' => (w'.cell? ⟨g, 0, none⟩ = some (.int .u16 i.c) ∧ w'.cell? ⟨g, 1, none⟩ = some (.int .u8 i.t) ∧ w'.cell? ⟨g, 2, none⟩ = some (.int .u8 i.f) ∧ w'.cell? ⟨g, 3, none⟩ = some (.int .u32 i.k)) ∧ Hid (Bk w' g 38 i.cells)) w' := ⟨⟨h1.cell 0 rfl, h1.cell 1 rfl, h1.cell 2 rfl, h1.cell 3 rfl⟩, h1⟩
/-- A builder whose buffer's head may be frozen. -/
def BldF (w : World) (t : Bs) (wr : World) : Prop := Lib.IsBuilderF 63 5 w.heap.size w.heap.size (Lib.byteCells t) wr ∧ Below w.heap.size w wr
theorem ownF_below {w w' : World} {base : Nat} {e : TypeId} {z n : Nat} {v : Value} {xs : List Value} (h : w.ownsRowF base e z v n xs) (hb : Below w.heap.size w w') : w'.ownsRowF base e z v n xs := by
  unfold World.ownsRowF at h ⊢
  refine ⟨h.1, h.2.imp id fun ⟨g, cap, cur, fz, h1, h2, h3, h4⟩ => ⟨g, cap, cur, fz, h1, h2, ?_, h4⟩⟩
  rw [hb.block g (Array.getElem?_eq_some_iff.1 h3).1]; exact h3
theorem BldF.kept {w wr w' : World} {t : Bs} (h : BldF w t wr) (hb : Below wr.heap.size wr w') : BldF w t w' := by
  refine ⟨?_, h.2.trans (hb.mono h.2.size)⟩
  rcases h.1 with h | h
  · obtain ⟨h1, v, h2, h3, h4⟩ := h
    exact .inl ⟨h1, v, (hb.block _ (Array.getElem?_eq_some_iff.1 h2).1).trans h2, ownF_below h3 hb, h4⟩
  · obtain ⟨h1, v, h2, h3, h4⟩ := h
    exact .inr ⟨h1, v, (hb.block _ (Array.getElem?_eq_some_iff.1 h2).1).trans h2, ownF_below h3 hb, h4⟩
theorem BldF.drew {w wr : World} {t : Bs} (h : BldF w t wr) : BldF w t wr.drew := h.kept (Below.refl _ _).drew
theorem BldF.of {w wr : World} {t : Bs} (h : Bld w t wr) : BldF w t wr := ⟨Lib.IsBuilderF.of h.1, h.2⟩
theorem writeF_bld {w wr : World} {t : Bs} (h : BldF w t wr) (s : ByteArray) (hlen : t.length + s.size ≤ 140737488355328) :
    Calls Tryd.prog 24 #[.pointer (some ⟨w.heap.size, 0, none⟩), .string s] wr fun e w' => e = .returned (.tuple #[.int .i64 s.size, .nilIface]) ∧ BldF w (t ++ s.data.toList) w' ∧ Lib.OthersKept 5 (some w.heap.size) wr w' := by
  have hw := Any.Builder_WriteString_k (ρ := Tryd.lays156_ren) { Tryd.lays156 with } Tryd.Builder_Extra_156 w.heap.size w.heap.size (Lib.byteCells t) s wr h.1 (by rw [Lib.byteCells_length]; exact hlen) h.2.size
  refine hw.mono ?_
  rintro e w' ⟨he, hB, hb, ho⟩
  refine ⟨he, ⟨.inr ?_, h.2.trans hb⟩, ho⟩
  have : Lib.byteCells (t ++ s.data.toList) = Lib.byteCells t ++ Lib.strCells s := by simp [Lib.byteCells, Lib.strCells]
  rw [this]
  exact hB
theorem stringF_bld {w wr : World} {t : Bs} (h : BldF w t wr) : Calls Tryd.prog 26 #[.pointer (some ⟨w.heap.size, 0, none⟩)] wr fun e w' => e = .returned (.string ⟨t.toArray⟩) ∧ Below w.heap.size w w' := by
  refine (Tryd.Builder_String_any_f w.heap.size w.heap.size t wr h.1 h.2.size).mono ?_
  rintro e w' ⟨he, _, hb⟩
  exact ⟨he, h.2.trans hb⟩
theorem kept_other {wr w' : World} {g b : Nat} {i : Ins} (h : Bk wr g 38 i.cells) (hne : g ≠ b) (ho : Lib.OthersKept 5 (some b) wr w') : Bk w' g 38 i.cells :=
  ho g _ h (fun e => hne (Option.some.inj e)) (fun c fz e => by cases e)
theorem line_size {P T G : Bs} (hP : P.length ≤ 20) (hT : T.length ≤ 50) (hG : G.length ≤ 46) : ((((⟨P.toArray⟩ : ByteArray) ++ ⟨#[58, 32]⟩) ++ ⟨T.toArray⟩) ++ ⟨G.toArray⟩ ++ ⟨#[10]⟩).size ≤ 119 := by
  rw [Lib.size_eq]
  simp
  omega
set_option maxRecDepth 100000 in
set_option maxHeartbeats 4000000 in
theorem listing_any (L : List Ins) (A : Option Addr) (cap : Nat) (w : World) (hL : ∀ i ∈ L, i.ok) (hn : L.length ≤ 1000) (hR : Rd w 4 L.length A (L.flatMap Ins.cells)) (hE : Env w) :
    Calls Tryd.prog 16 #[.slice A L.length cap] w fun e w' => e = .returned (.string ⟨(listTo L L.length).toArray⟩) ∧ Below w.heap.size w w' := by
  have HE := Lib.hid hE
  have HL := Lib.hid hL
  have HR := Lib.hid hR
  have HB := Lib.hid (BldF.of (Bld.start w))
  clear hE hL hR
  go_enter Tryd.func16, Tryd.ntmps16
  go_wp2_with fail
  go_loopw [8] (fun c wr => ∃ k : Nat, k ≤ L.length ∧ c = .int .i64 k ∧ Hid (BldF w (listTo L k) wr)) (fun c _ => L.length - (intOf c).toNat)
  case atStart => exact ⟨0, by omega, rfl, HB.out⟩
  case round =>
    obtain ⟨k, hk, rfl, HB⟩ := hrel
    by_cases hlt : k < L.length
    · obtain ⟨i, hi⟩ : ∃ i, L[k]? = some i := ⟨_, List.getElem?_eq_getElem hlt⟩
      obtain ⟨b, o, rfl, hbs, hcell⟩ := Rd.pos (HR.out.below HB.out.2) (by omega)
      obtain ⟨c0, c1, c2, c3⟩ := four_cells hcell hi
      have Hi := Lib.hid (HL.out i (List.mem_of_getElem? hi))
      have HS2 := Lib.hid (listTo_step hi)
      have Hle := Lib.hid (list_len L HL.out k (by omega))
      have hP := dec_len20' (u := k) (by omega)
      have hT := told_len i Hi.out
      have hG := goes_len i k Hi.out (by omega)
      have HBx := Lib.hid (HB.out.kept ((Below.refl _ _).alloc (Nat.le_refl _) (.cells #[.int .u16 i.c, .int .u8 i.t, .int .u8 i.f, .int .u32 i.k] 38)))
      have HXx := Lib.hid (Bk.new wr 38 #[.int .u16 i.c, .int .u8 i.t, .int .u8 i.f, .int .u32 i.k] (l := i.cells) rfl)
      have Hgne := Lib.hid (show wr.heap.size ≠ w.heap.size from fun e => by
        rcases HB.out.1 with h | h
        · have := h.lt; omega
        · have := h.lt; omega)
      clear hcell hi HB
      go_wp2_with fail
      revert HBx HXx Hgne
      generalize wr.alloc (.cells #[.int .u16 i.c, .int .u8 i.t, .int .u8 i.f, .int .u32 i.k] 38) = wx
      generalize wr.heap.size = g
      intro HBx HXx Hgne
      have s1 : ¬ 9223372036854775807 < (Lib.decDigits k).length + 2 := by omega
      have s2 : ¬ 9223372036854775807 < (Lib.decDigits k).length + 2 + (told i).length := by omega
      have s3 : ¬ 9223372036854775807 < (Lib.decDigits k).length + 2 + (told i).length + (goesB i k).length := by omega
      have s4 : ¬ 9223372036854775807 < (Lib.decDigits k).length + 2 + (told i).length + (goesB i k).length + 1 := by omega
      have wk : IntKind.u64.wrap (k : Int) = (k : Int) := by rw [IntKind.wrap_u64]; omega
      have hk1000 : k < 1000 := by omega
      refine wp_region_held_drew (S := (fun w' => (w'.cell? ⟨g, 0, none⟩ = some (.int .u16 i.c) ∧ w'.cell? ⟨g, 1, none⟩ = some (.int .u8 i.t) ∧ w'.cell? ⟨g, 2, none⟩ = some (.int .u8 i.f) ∧ w'.cell? ⟨g, 3, none⟩ = some (.int .u32 i.k)) ∧ Hid (Bk w' g 38 i.cells))) (by kernel_rfl) ?_ (fun hHeld0 => ?_)
      · exact insS HXx.out.drew
      refine wpAnyH_take (i := 0) (v := ?_) (by first | (simp only [List.getElem?_toArray, List.getElem?_cons_zero] <;> rfl) | rfl) (by kernel_rfl) (by kernel_rfl) (by kernel_rfl) (by exact fun _ _ _ h => h) (Or.inl ⟨by rfl, ?_⟩) hHeld0 ?_
      rotate_left 1
      · intro w hSw
        try dsimp only at hSw
        (go_simp) <;> (with_reducible rfl)
      try simp only [Act.put, List.setIfInBounds_toArray, List.set_cons_zero, List.set_cons_succ]
      refine wpAnyH_take (i := 1) (v := ?_) (by first | (simp only [List.getElem?_toArray, List.getElem?_cons_succ, List.getElem?_cons_zero] <;> rfl) | rfl) (by kernel_rfl) (by kernel_rfl) (by kernel_rfl) (by exact fun _ _ _ h => h) (Or.inl ⟨by rfl, ?_⟩) hHeld0 ?_
      rotate_left 1
      · intro w hSw
        try dsimp only at hSw
        (go_simp) <;> (with_reducible rfl)
      try simp only [Act.put, List.setIfInBounds_toArray, List.set_cons_zero, List.set_cons_succ]
      refine wpAnyH_take (i := 4) (v := ?_) (by first | (simp only [List.getElem?_toArray, List.getElem?_cons_succ, List.getElem?_cons_zero] <;> rfl) | rfl) (by kernel_rfl) (by kernel_rfl) (by kernel_rfl) (by exact fun _ _ _ h => h) (Or.inl ⟨by rfl, ?_⟩) hHeld0 ?_
      rotate_left 1
      · intro w hSw
        try dsimp only at hSw
        (go_simp) <;> (with_reducible rfl)
      try simp only [Act.put, List.setIfInBounds_toArray, List.set_cons_zero, List.set_cons_succ]
      refine wpAnyH_take (i := 7) (v := ?_) (by first | (simp only [List.getElem?_toArray, List.getElem?_cons_succ, List.getElem?_cons_zero] <;> rfl) | rfl) (by kernel_rfl) (by kernel_rfl) (by kernel_rfl) (by exact fun _ _ _ h => h) (Or.inl ⟨by rfl, ?_⟩) hHeld0 ?_
      rotate_left 1
      · intro w hSw
        try dsimp only at hSw
        (go_simp) <;> (with_reducible rfl)
      try simp only [Act.put, List.setIfInBounds_toArray, List.set_cons_zero, List.set_cons_succ]
      refine wpAnyH_take (i := 8) (v := ?_) (by first | (simp only [List.getElem?_toArray, List.getElem?_cons_succ, List.getElem?_cons_zero] <;> rfl) | rfl) (by kernel_rfl) (by kernel_rfl) (by kernel_rfl) (by exact fun _ _ _ h => h) (Or.inl ⟨by rfl, ?_⟩) hHeld0 ?_
      rotate_left 1
      · intro w hSw
        try dsimp only at hSw
        (go_simp) <;> (with_reducible rfl)
      try simp only [Act.put, List.setIfInBounds_toArray, List.set_cons_zero, List.set_cons_succ]
      refine wpAnyH_ready (rs := [2]) (by kernel_rfl) (by simp) ?_
      refine AllReadyH.cons (by first | (simp only [List.getElem?_toArray, List.getElem?_cons_succ, List.getElem?_cons_zero] <;> rfl) | rfl) (fun K hK => ?_) AllReadyH.nil
      go_simp
      refine (printed_any k (by omega) _ (HE.out.below HBx.out.drew.2).pow).mono ?_; rintro e wa ⟨rfl, hba⟩; have HBa := Lib.hid (HBx.out.drew.kept hba)
      go_wp2_with fail
      refine hK.out _ _ ?_ (fun hHeld1 => ?_)
      · (try dsimp only)
        exact insS (hHeld0.2.out.kept hba)
      clear hK K hHeld0
      try simp only [Act.put, List.setIfInBounds_toArray, List.set_cons_zero, List.set_cons_succ]
      refine wpAnyH_take (i := 3) (v := ?_) (by first | (simp only [List.getElem?_toArray, List.getElem?_cons_succ, List.getElem?_cons_zero] <;> rfl) | rfl) (by kernel_rfl) (by kernel_rfl) (by kernel_rfl) (by exact fun _ _ _ h => h) (Or.inl ⟨by rfl, ?_⟩) hHeld1 ?_
      rotate_left 1
      · intro w hSw
        try dsimp only at hSw
        (go_simp) <;> (with_reducible rfl)
      try simp only [Act.put, List.setIfInBounds_toArray, List.set_cons_zero, List.set_cons_succ]
      refine wpAnyH_ready (rs := [5]) (by kernel_rfl) (by simp) ?_
      refine AllReadyH.cons (by first | (simp only [List.getElem?_toArray, List.getElem?_cons_succ, List.getElem?_cons_zero] <;> rfl) | rfl) (fun K hK => ?_) AllReadyH.nil
      go_simp
      refine (told_any i _ (HE.out.below HBa.out.2) Hi.out).mono ?_; rintro e wb ⟨rfl, hbb⟩; have HBb := Lib.hid (HBa.out.kept hbb)
      go_wp2_with fail
      refine hK.out _ _ ?_ (fun hHeld2 => ?_)
      · (try dsimp only)
        exact insS (hHeld1.2.out.kept hbb)
      clear hK K hHeld1
      try simp only [Act.put, List.setIfInBounds_toArray, List.set_cons_zero, List.set_cons_succ]
      refine wpAnyH_take (i := 6) (v := ?_) (by first | (simp only [List.getElem?_toArray, List.getElem?_cons_succ, List.getElem?_cons_zero] <;> rfl) | rfl) (by kernel_rfl) (by kernel_rfl) (by kernel_rfl) (by exact fun _ _ _ h => h) (Or.inl ⟨by rfl, ?_⟩) hHeld2 ?_
      rotate_left 1
      · intro w hSw
        try dsimp only at hSw
        (go_simp) <;> (with_reducible rfl)
      try simp only [Act.put, List.setIfInBounds_toArray, List.set_cons_zero, List.set_cons_succ]
      refine wpAnyH_ready (rs := [9]) (by kernel_rfl) (by simp) ?_
      refine AllReadyH.cons (by first | (simp only [List.getElem?_toArray, List.getElem?_cons_succ, List.getElem?_cons_zero] <;> rfl) | rfl) (fun K hK => ?_) AllReadyH.nil
      go_simp
      refine (goes_any i k _ Hi.out (by omega) (HE.out.below HBb.out.2)).mono ?_; rintro e wc ⟨rfl, hbc⟩; have HBc := Lib.hid (HBb.out.kept hbc)
      go_wp2_with fail
      refine hK.out _ _ ?_ (fun hHeld3 => ?_)
      · (try dsimp only)
        exact insS (hHeld2.2.out.kept hbc)
      clear hK K hHeld2
      try simp only [Act.put, List.setIfInBounds_toArray, List.set_cons_zero, List.set_cons_succ]
      refine wpAnyH_take (i := 10) (v := ?_) (by first | (simp only [List.getElem?_toArray, List.getElem?_cons_succ, List.getElem?_cons_zero] <;> rfl) | rfl) (by kernel_rfl) (by kernel_rfl) (by kernel_rfl) (by exact fun _ _ _ h => h) (Or.inl ⟨by rfl, ?_⟩) hHeld3 ?_
      rotate_left 1
      · intro w hSw
        try dsimp only at hSw
        (go_simp) <;> (with_reducible rfl)
      try simp only [Act.put, List.setIfInBounds_toArray, List.set_cons_zero, List.set_cons_succ]
      refine wpAnyH_take (i := 11) (v := ?_) (by first | (simp only [List.getElem?_toArray, List.getElem?_cons_succ, List.getElem?_cons_zero] <;> rfl) | rfl) (by kernel_rfl) (by kernel_rfl) (by kernel_rfl) (by exact fun _ _ _ h => h) (Or.inl ⟨by rfl, ?_⟩) hHeld3 ?_
      rotate_left 1
      · intro w hSw
        try dsimp only at hSw
        (go_simp) <;> (with_reducible rfl)
      try simp only [Act.put, List.setIfInBounds_toArray, List.set_cons_zero, List.set_cons_succ]
      refine wpAnyH_ready (rs := [12]) (by kernel_rfl) (by simp) ?_
      refine AllReadyH.cons (by first | (simp only [List.getElem?_toArray, List.getElem?_cons_succ, List.getElem?_cons_zero] <;> rfl) | rfl) (fun K hK => ?_) AllReadyH.nil
      go_simp
      refine (writeF_bld HBc.out _ (Nat.le_trans (Nat.add_le_add Hle.out (line_size hP hT hG)) (by omega))).mono ?_; rintro e wd ⟨rfl, hB4, hoth⟩; have HBd := Lib.hid hB4
      go_wp2_with fail
      refine hK.out _ _ ?_ (fun hHeld4 => ?_)
      · (try dsimp only)
        exact insS (kept_other hHeld3.2.out Hgne.out hoth)
      clear hK K hHeld3
      try simp only [Act.put, List.setIfInBounds_toArray, List.set_cons_zero, List.set_cons_succ]
      refine wpAnyH_done (by kernel_rfl) ?_ _
      have HBe := Lib.hid (show BldF w (listTo L (k + 1)) wd from by rw [HS2.out]; simpa [lineB] using HBd.out)
      clear hHeld4 s1 s2 s3 s4 wk HBx HBa HBb HBc HBd
      go_wp2_with fail
      go_roundw
      case rel => exact ⟨k + 1, by omega, by go_num, HBe.out⟩
      case measure => simp [intOf]; omega
    · obtain rfl : k = L.length := by omega
      go_wp2_with fail
      refine (stringF_bld HB.out).mono ?_
      rintro e w4 ⟨rfl, hb4⟩
      have HB6 := Lib.hid hb4
      clear hb4
      go_wp2_with fail
      go_ret
      exact ⟨rfl, HB6.out⟩
end Go.Proofs.YthiohihbcfahhaaDoor
