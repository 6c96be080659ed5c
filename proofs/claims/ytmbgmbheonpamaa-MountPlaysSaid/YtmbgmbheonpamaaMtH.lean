/- List; slices.Delete; Drop. -/
import Derived.Test.YtmbgmbheonpamaaMtG
import Derived.Deep.RegionLaw
import Derived.Lib.SliceRun
namespace Go.Proofs.Ytmbgmbheonpamaa.Mt
open Go.RowKit Go.Maps Go.WideElems In
section
variable {w : World} {B tb : Nat} {M : Ms} {last : Int} {A c : Nat}
theorem own_cells {B e z n cap A : Nat} : ∀ (cs : List Value) (o : Nat) (xs : List Value) (w : World), w.ownsRow B e z (.slice (some ⟨A, 0, none⟩) n cap) n xs → o + cs.length ≤ xs.length → (w.setCells A o cs).ownsRow B e z (.slice (some ⟨A, 0, none⟩) n cap) n (xs.take o ++ cs ++ xs.drop (o + cs.length))
  | [], o, xs, w, h, _ => by simpa [World.setCells] using h
  | v :: cs, o, xs, w, h, hl => by
    have h1 := (h.stored o v).1
    have h2 := own_cells cs (o + 1) (xs.set o v) _ h1 (by simp at hl ⊢; omega)
    have hlt : o < xs.length := by simp at hl; omega
    have e1 : (xs.set o v).take (o + 1) = xs.take o ++ [v] := by
      rw [List.take_set, List.take_succ_eq_append_getElem hlt, List.set_append_right _ _ (by rw [List.length_take]; omega)]
      have e3 : min o xs.length = o := Nat.min_eq_left (Nat.le_of_lt hlt)
      simp [e3]
      try omega
    have e2 : (xs.set o v).drop (o + 1 + cs.length) = xs.drop (o + (v :: cs).length) := by
      rw [List.drop_set_of_lt (by omega)]; congr 1; simp; omega
    rw [e1, e2] at h2
    show ((w.setCell ⟨A, o, none⟩ v).setCells A (o + 1) cs).ownsRow _ _ _ _ _ _
    simpa using h2
theorem sc_heap (A : Nat) : ∀ (cs : List Value) (o : Nat) (w : World), w.grownBy (w.setCells A o cs) (some A)
  | [], _, w => only_refl w _
  | v :: cs, o, w => only_trans (only_set w A o v) (sc_heap A cs (o + 1) _)
theorem own_pre {B e z n m cap A : Nat} {xs : List Value} {w : World} (h : w.ownsRow B e z (.slice (some ⟨A, 0, none⟩) n cap) n xs) (hm : m ≤ n) : w.ownsRow B e z (.slice (some ⟨A, 0, none⟩) m cap) m (xs.take (m * z)) := by
  refine ⟨by rw [List.length_take, h.1]; exact Nat.min_eq_left (Nat.mul_le_mul_right z hm), .inr ?_⟩
  rcases h.2 with ⟨h1, _⟩ | ⟨g, cap', cur, e, hb, hh, hn, hmx, hs, rfl⟩
  · cases h1
  · simp only [Value.slice.injEq, Option.some.injEq, Addr.mk.injEq, and_true, true_and] at e
    obtain ⟨rfl, rfl⟩ := e
    exact ⟨A, cap, cur, rfl, hb, hh, Nat.le_trans hm hn, hmx, hs, by rw [List.take_take, Nat.min_eq_left (Nat.mul_le_mul_right z hm)]⟩
theorem run_clear1 (W : World) (ty : TypeId) (b o cp : Nat) (hc : ∀ j, j < 5 → (W.cell? ⟨b, o + j, none⟩).isSome = true) (hf : ∀ j, j < 5 → W.frozen? ⟨b, o + j, none⟩ = false) :
    (Builtin.clear_ #[87] ty #[.slice (some ⟨b, o, none⟩) 1 cp]).run Try.prog W = .ok (.tuple #[]) (W.setCells b o (mtC mtZ)) := by
  have hst := run_storeCells_cells (P := Try.prog) b o (mtC mtZ) 0 W (by simpa [mtC] using hc) (by simpa [mtC] using hf) (mt_one mtZ)
  simp only [Nat.add_zero] at hst
  have hzc : (Builtin.zeroCells #[.int .i64 0, .int .i64 0, .int .u16 0, .int .u16 0, .int .i64 0] 1).toList = mtC mtZ := by simp [Builtin.zeroCells, mtC, mtZ, show List.range 5 = [0, 1, 2, 3, 4] from rfl]
  simp [Builtin.clear_, run_underlying Try.underlying87, Try.zeroValue90, hzc, hst, Value.cells]
theorem flat_take (M : Ms) (k : Nat) : (M.flatMap mtC).take (k * 5) = (M.take k).flatMap mtC := by
  induction M generalizing k with
  | nil => simp
  | cons m M ih =>
    cases k with
    | zero => simp
    | succ k => rw [List.flatMap_cons, List.take_succ_cons, List.flatMap_cons, List.take_append, ← ih k, show (k + 1) * 5 - (mtC m).length = k * 5 from by show (k + 1) * 5 - 5 = k * 5; omega, List.take_of_length_le (by show 5 ≤ _; omega)]
theorem flat_drop (M : Ms) (k : Nat) : (M.flatMap mtC).drop (k * 5) = (M.drop k).flatMap mtC := by
  induction M generalizing k with
  | nil => simp
  | cons m M ih =>
    cases k with
    | zero => simp
    | succ k => rw [List.flatMap_cons, List.drop_succ_cons, List.drop_append, ← ih k, show (k + 1) * 5 - (mtC m).length = k * 5 from by show (k + 1) * 5 - 5 = k * 5; omega, List.drop_of_length_le (by show 5 ≤ _; omega)]; simp
def DelP (B : Nat) (M : Ms) (i A c : Nat) (w : World) (e : Ending) (w' : World) : Prop :=
  e = .returned (.slice (some ⟨A, 0, none⟩) (M.length - 1) c) ∧ w'.ownsRow B 90 5 (.slice (some ⟨A, 0, none⟩) (M.length - 1) c) (M.length - 1) ((cutF M i).flatMap mtC) ∧ w.grownBy w' (some A)
set_option maxHeartbeats 4000000 in
set_option maxRecDepth 1000000 in
theorem del_any (h : w.ownsRow B 90 5 (.slice (some ⟨A, 0, none⟩) M.length c) M.length (M.flatMap mtC)) {i : Nat} (hi : i < M.length) (hn : M.length ≤ 16) (hcap : M.length ≤ c) (hcm : c ≤ 9223372036854775807) :
    Calls Try.prog 83 #[.slice (some ⟨A, 0, none⟩) M.length c, .int .i64 i, .int .i64 (i + 1)] w (DelP B M i A c w) := by
  obtain ⟨i0, hi0, hz0, hz1, hz2⟩ := info_parts infoMt
  obtain ⟨N, hN⟩ : ∃ N, N = M.length := ⟨_, rfl⟩
  obtain ⟨news, hnews⟩ : ∃ news, news = (M.drop (i + 1)).flatMap mtC := ⟨_, rfl⟩
  have hlen : news.length = (N - (i + 1)) * 5 := by rw [hnews, len5 mtC (fun _ => rfl), List.length_drop, hN]
  have hxl : (M.flatMap mtC).length = N * 5 := by rw [len5 mtC (fun _ => rfl), hN]
  have hd : World.ownsRow w.drew B 90 5 (.slice (some ⟨A, 0, none⟩) N c) N (M.flatMap mtC) := by rw [hN]; exact own_below h (Below.refl _ _).drew
  have hcell : ∀ j u, (M.flatMap mtC)[j]? = some u → w.drew.cell? ⟨A, j, none⟩ = some u := fun j u hu => by
    have := hd.cells (g := A) rfl j u hu
    rwa [addr_at, Nat.zero_add] at this
  obtain ⟨AA, hA, hsrc⟩ : ∃ AA : Addr, (if c = i + 1 then some (⟨A, 0, none⟩ : Addr) else some ⟨A, (i + 1) * 5, none⟩) = some AA ∧ Hid (∀ t u, news[t]? = some u → w.drew.cell? (AA.add t) = some u) := by
    by_cases hc : c = i + 1
    · refine ⟨⟨A, 0, none⟩, by simp [hc], fun t u hu => ?_⟩
      have h0 : news.length = 0 := by rw [hlen]; omega
      rw [List.length_eq_zero_iff.1 h0] at hu
      simp at hu
    · refine ⟨⟨A, (i + 1) * 5, none⟩, by simp [hc], fun t u hu => ?_⟩
      rw [addr_at]
      refine hcell _ _ ?_
      rw [hnews, ← flat_drop, List.getElem?_drop] at hu
      exact hu
  have s1 : Hid (news.length = (N - (i + 1)) * 5) := hlen
  have s2 : Hid (∀ u ∈ news, u.oneCell' = true) := by
    intro u hu
    rw [hnews] at hu
    obtain ⟨x, _, hx⟩ := List.mem_flatMap.1 hu
    exact mt_one x u hx
  have s3 : Hid (∀ t, t < news.length → (w.drew.cell? ⟨A, 0 + i * 5 + t, none⟩).isSome = true ∧ w.drew.frozen? ⟨A, 0 + i * 5 + t, none⟩ = false) := by
    intro t ht
    rw [hlen] at ht
    have hlt : 0 + i * 5 + t < (M.flatMap mtC).length := by rw [hxl]; omega
    exact ⟨by rw [hcell _ _ (List.getElem?_eq_getElem hlt)]; rfl, hd.frozenAt _⟩
  obtain ⟨W1, hW1⟩ : ∃ W1, W1 = w.drew.setCells A (0 + i * 5) news := ⟨_, rfl⟩
  have hg1 : w.grownBy W1 (some A) := by
    rw [hW1]
    have := sc_heap A news (0 + i * 5) w.drew
    exact ⟨this.os, this.tape, this.output, this.size, this.block⟩
  have ho1 : W1.ownsRow B 90 5 (.slice (some ⟨A, 0, none⟩) N c) N ((M.flatMap mtC).take (i * 5) ++ news ++ (M.flatMap mtC).drop (i * 5 + news.length)) := by
    rw [hW1, Nat.zero_add]
    exact own_cells news (i * 5) _ _ hd (by rw [hxl, hlen]; omega)
  have hl1 : ((M.flatMap mtC).take (i * 5) ++ news ++ (M.flatMap mtC).drop (i * 5 + news.length)).length = N * 5 := ho1.1
  have hcl : ∀ ty cp, (Builtin.clear_ #[87] ty #[.slice (some ⟨A, (i + (N - (i + 1))) * 5, none⟩) (N - (i + (N - (i + 1)))) cp]).run Try.prog W1 = .ok (.tuple #[]) (W1.setCells A ((i + (N - (i + 1))) * 5) (mtC mtZ)) := fun ty cp => by
    rw [show N - (i + (N - (i + 1))) = 1 from by omega]
    exact run_clear1 W1 ty A _ cp (fun j hj => by
      have hlt : (i + (N - (i + 1))) * 5 + j < ((M.flatMap mtC).take (i * 5) ++ news ++ (M.flatMap mtC).drop (i * 5 + news.length)).length := by rw [hl1]; omega
      have := ho1.cells (g := A) rfl _ _ (List.getElem?_eq_getElem hlt)
      rw [addr_at, Nat.zero_add] at this
      rw [this]; rfl) (fun j _ => ho1.frozenAt _)
  have HFin := Lib.hid (show (W1.setCells A ((i + (N - (i + 1))) * 5) (mtC mtZ)).ownsRow B 90 5 (.slice (some ⟨A, 0, none⟩) (N - 1) c) (N - 1) ((cutF M i).flatMap mtC) by
    have h1 := own_cells (mtC mtZ) ((i + (N - (i + 1))) * 5) _ _ ho1 (by rw [hl1]; show _ + 5 ≤ _; omega)
    have h2 := own_pre h1 (m := N - 1) (by omega)
    have e : i + (N - (i + 1)) = N - 1 := by omega
    rw [e] at h2 ⊢
    have e2 : (List.take ((N - 1) * 5) (List.take ((N - 1) * 5) ((M.flatMap mtC).take (i * 5) ++ news ++ (M.flatMap mtC).drop (i * 5 + news.length)) ++ mtC mtZ ++ List.drop ((N - 1) * 5 + (mtC mtZ).length) ((M.flatMap mtC).take (i * 5) ++ news ++ (M.flatMap mtC).drop (i * 5 + news.length)))) = (cutF M i).flatMap mtC := by
      have hlt : (List.take (i * 5) (M.flatMap mtC) ++ news).length = (N - 1) * 5 := by rw [List.length_append, List.length_take, hxl, hlen, Nat.min_eq_left (by omega)]; omega
      rw [List.append_assoc (List.take ((N - 1) * 5) _), List.take_append_of_le_length (by rw [List.length_take, hl1, Nat.min_eq_left (by omega)]; exact Nat.le_refl _), List.take_take, Nat.min_self, List.take_append_of_le_length (by omega), List.take_of_length_le (by omega), flat_take, hnews, ← List.flatMap_append]
      unfold cutF
      rw [List.eraseIdx_eq_take_drop_succ]
    rw [e2] at h2
    exact h2)
  have HG := Lib.hid (only_trans hg1 (sc_heap A (mtC mtZ) ((i + (N - (i + 1))) * 5) W1))
  have hW : Hid (W1 = w.drew.setCells A (0 + i * 5) news) := hW1
  have HN := Lib.hid hN
  unfold DelP
  rw [← hN] at hi hn hcap ⊢
  have hne : ((i : Int) == (i : Int) + 1) = false := by simp; omega
  have g1 : i ≤ c := by omega
  have g2 : i + 1 ≤ c := by omega
  have g3 : i + 1 ≤ N := by omega
  have g4 : (0 : Int) ≤ (i : Int) + 1 := by omega
  have g5 : (i : Int) + 1 ≤ (N : Int) := by omega
  clear hW1 ho1 hl1 hg1 hcell hd hxl hlen hnews h hN
  go_enter Try.func83, Try.ntmps83
  go_wp2_with fail
  go_region_law (refine step_append_room rfl (.tmp 22) (.tmp 25) 87 rfl 90 i0 5 Try.underlying87 hi0 hz1 A 0 i c (by simp [Act.eval, Act.put]) AA (N - (i + 1)) (c - (i + 1)) news (by simp [Act.eval, Act.put]) s1.out hsrc.out s2.out (by omega) s3.out ?_; rw [← hW.out])
  go_wp2_with fail
  go_ret
  exact ⟨by rw [show i + (N - (i + 1)) = N - 1 from by omega]; rfl, HFin.out, HG.out⟩
/-! Drop. -/
def DropP (B tb : Nat) (M : Ms) (last : Int) (p : Pl) (w : World) (e : Ending) (w' : World) : Prop :=
  e = .returned (.int .i64 (dropE M p)) ∧ Mtb w' B tb (if dropE M p = 0 then cutF M (ixN (isId p.1) M) else M) last ∧ FrM B w w'
theorem drop_noP {w' : World} {E : Int} {p : Pl} (hE : dropE M p = E) (h0 : E ≠ 0) {e : Ending} (he : e = .returned (.int .i64 E)) (h : Mtb w' B tb M last) (hf : FrM B w w') : DropP B tb M last p w e w' := by
  unfold DropP
  rw [hE, if_neg h0]
  exact ⟨he, h, hf⟩
set_option maxHeartbeats 1000000 in
theorem drop_any (h : MtR w B tb M last A c) (p : Pl) : Calls Try.prog 28 #[.pointer (some ⟨tb, 0, none⟩), plV p] w (DropP B tb M last p w) := by
  have hpl : plV p = .agg #[.int .i64 p.1, .int .u16 p.2] := rfl
  have hb := oneb w (.cells #[.int .i64 p.1, .int .u16 p.2] 74)
  have hd := down_any (h.below hb) p
  rw [hpl] at hd ⊢
  have Hb := Lib.hid hb
  have Hx := Lib.hid (Bk.new w 74 #[.int .i64 p.1, .int .u16 p.2] (l := [.int .i64 p.1, .int .u16 p.2]) rfl)
  have Hh := Lib.hid h
  have hlen := h.fit.len
  clear hpl
  cases hdn : downF M p with
  | none =>
    rw [hdn] at hd
    have HE := Lib.hid (show dropE M p = 22 by unfold dropE; rw [if_pos hdn])
    clear hdn h hb
    go_enter Try.func28, Try.ntmps28
    go_wp2_with fail
    refine hd.mono ?_
    rintro e w2 ⟨rfl, hb2⟩
    have HB := Lib.hid (Hb.out.trans (hb2.mono Hb.out.size))
    clear hb2 hd
    dsimp only [plV, Option.getD_none, Option.isSome_none]
    go_wp2_with fail
    go_ret
    exact drop_noP HE.out (by decide) rfl ⟨A, c, Hh.out.below (HB.out.trans ((oneb w2 _).mono HB.out.size))⟩ (Fr.ofBelow (HB.out.trans ((oneb w2 _).mono HB.out.size)))
  | some pl =>
    rw [hdn] at hd
    obtain ⟨m, hm, hm0, hroot⟩ : ∃ m, M.find? (isId p.1) = some m ∧ m.id ≠ 0 ∧ m.root = p.2 := by
      unfold downF at hdn
      cases hf : M.find? (isId p.1) with
      | none => rw [hf] at hdn; cases hdn
      | some m =>
        rw [hf] at hdn
        by_cases hc : m.id ≠ 0 ∧ m.root = p.2
        · exact ⟨m, rfl, hc.1, hc.2⟩
        · simp only [if_neg hc] at hdn; cases hdn
    have hE : dropE M p = if 0 < m.held ∨ M.any (inB p.1) = true then 16 else 0 := by
      unfold dropE; rw [if_neg (by rw [hdn]; exact fun e => by cases e), hm]
    rcases idxF_find (q := isId p.1) (l := M) with ⟨h1, h2, _⟩ | ⟨i, m', h1, h2, h3, h4, h5, _⟩
    · rw [h2] at hm; cases hm
    obtain rfl : m' = m := Option.some.inj (h2.symm.trans hm)
    have hid : m'.id = p.1 := by unfold isId at h4; exact of_decide_eq_true h4
    have HFit := Lib.hid (fun (hno : M.any (inB p.1) = false) => fit_cut h.fit h3 hm0 (by rw [hid]; exact hno))
    have H3 := Lib.hid h3
    have HE := Lib.hid hE
    have Hi := Lib.hid h1
    obtain ⟨v, hv⟩ : ∃ v, v = m'.held := ⟨_, rfl⟩
    have HV := Lib.hid hv
    obtain ⟨N, hN⟩ : ∃ N, N = M.length := ⟨_, rfl⟩
    have HN := Lib.hid hN
    rw [← hN] at hlen h5
    clear hdn hm hm0 hroot hE h1 h2 h3 h4 hid hv hN h hb
    have HMem := Lib.hid (List.mem_of_getElem? H3.out)
    have hs := (Hh.out.sm m' HMem.out).held
    rw [← HV.out] at hs
    by_cases q0 : 0 < v
    · have HE2 := Lib.hid (show dropE M p = 16 by rw [HE.out, if_pos (.inl (by rw [← HV.out]; exact q0))])
      go_enter Try.func28, Try.ntmps28
      go_wp2_with fail
      refine hd.mono ?_
      rintro e w2 ⟨rfl, hb2⟩
      have hk := (Hx.out.kept hb2).alloc (.cells #[.int .i64 pl.1, .int .u16 pl.2] 74)
      have HB := Lib.hid ((Hb.out.trans (hb2.mono Hb.out.size)).trans ((oneb w2 (.cells #[.int .i64 pl.1, .int .u16 pl.2] 74)).mono (Nat.le_trans Hb.out.size hb2.size)))
      clear hb2 hd
      obtain ⟨l0, k0, k1, f0, f1⟩ := Bk.all2 hk
      dsimp only [plV, Option.getD_some, Option.isSome_some]
      have hix := index_any (Hh.out.below HB.out) p.1
      rw [Hi.out] at hix
      have Hk := Lib.hid hk
      clear hk
      go_wp2_with fail
      refine hix.mono ?_
      rintro e w3 ⟨rfl, hb3⟩
      have Hk3 := Lib.hid (Hk.out.kept hb3)
      have HB3 := Lib.hid (HB.out.trans (hb3.mono HB.out.size))
      clear hb3 hix l0 k0 k1 f0 f1
      have hw := Hh.out.below HB3.out
      have c0 := hw.c0
      rw [← HN.out] at c0
      have ht := hw.tab.lt
      have hA := hw.tyA.lt
      obtain ⟨-, -, -, -, d4⟩ := hw.cells5 H3.out
      rw [← HV.out] at d4
      obtain ⟨l0, k0, k1, -, -⟩ := Bk.all2 Hk3.out
      have Hw := Lib.hid hw
      clear hw
      go_wp2_with fail
      go_ret
      exact drop_noP HE2.out (by decide) rfl ⟨A, c, Hw.out⟩ (Fr.ofBelow HB3.out)
    · have hv0 : v = 0 := by omega
      obtain ⟨b, hb⟩ : ∃ b, b = M.any (inB p.1) := ⟨_, rfl⟩
      have HBB := Lib.hid hb
      have HE3 := Lib.hid (show dropE M p = if b = true then 16 else 0 by
        rw [HE.out, ← hb]
        by_cases e : b = true
        · rw [if_pos (.inr e), if_pos e]
        · rw [if_neg (by rintro (h | h); rw [← HV.out] at h; omega; exact e h), if_neg e])
      subst hv0
      clear hb q0 hs
      cases b with
      | true =>
        go_enter Try.func28, Try.ntmps28
        go_wp2_with fail
        refine hd.mono ?_
        rintro e w2 ⟨rfl, hb2⟩
        have hk := (Hx.out.kept hb2).alloc (.cells #[.int .i64 pl.1, .int .u16 pl.2] 74)
        have HB := Lib.hid ((Hb.out.trans (hb2.mono Hb.out.size)).trans ((oneb w2 (.cells #[.int .i64 pl.1, .int .u16 pl.2] 74)).mono (Nat.le_trans Hb.out.size hb2.size)))
        clear hb2 hd
        obtain ⟨l0, k0, k1, f0, f1⟩ := Bk.all2 hk
        dsimp only [plV, Option.getD_some, Option.isSome_some]
        have hix := index_any (Hh.out.below HB.out) p.1
        rw [Hi.out] at hix
        have Hk := Lib.hid hk
        clear hk
        go_wp2_with fail
        refine hix.mono ?_
        rintro e w3 ⟨rfl, hb3⟩
        have Hk3 := Lib.hid (Hk.out.kept hb3)
        have HB3 := Lib.hid (HB.out.trans (hb3.mono HB.out.size))
        clear hb3 hix l0 k0 k1 f0 f1
        have hw := Hh.out.below HB3.out
        have c0 := hw.c0
        rw [← HN.out] at c0
        have ht := hw.tab.lt
        have hA := hw.tyA.lt
        obtain ⟨-, -, -, -, d4⟩ := hw.cells5 H3.out
        rw [← HV.out] at d4
        obtain ⟨l0, k0, k1, -, -⟩ := Bk.all2 Hk3.out
        have Hw := Lib.hid hw
        clear hw
        go_wp2_with fail
        refine (within_any Hw.out p.1).mono ?_
        rintro e w4 ⟨rfl, hb4⟩
        rw [← HBB.out]
        have HB4 := Lib.hid (HB3.out.trans (hb4.mono HB3.out.size))
        clear hb4 c0 ht hA d4 l0 k0 k1
        go_wp2_with fail
        go_ret
        exact drop_noP (HE3.out.trans (if_pos True.intro)) (by decide) rfl ⟨A, c, Hh.out.below HB4.out⟩ (Fr.ofBelow HB4.out)
      | false =>
        go_enter Try.func28, Try.ntmps28
        go_wp2_with fail
        refine hd.mono ?_
        rintro e w2 ⟨rfl, hb2⟩
        have hk := (Hx.out.kept hb2).alloc (.cells #[.int .i64 pl.1, .int .u16 pl.2] 74)
        have HB := Lib.hid ((Hb.out.trans (hb2.mono Hb.out.size)).trans ((oneb w2 (.cells #[.int .i64 pl.1, .int .u16 pl.2] 74)).mono (Nat.le_trans Hb.out.size hb2.size)))
        clear hb2 hd
        obtain ⟨l0, k0, k1, f0, f1⟩ := Bk.all2 hk
        dsimp only [plV, Option.getD_some, Option.isSome_some]
        have hix := index_any (Hh.out.below HB.out) p.1
        rw [Hi.out] at hix
        have Hk := Lib.hid hk
        clear hk
        go_wp2_with fail
        refine hix.mono ?_
        rintro e w3 ⟨rfl, hb3⟩
        have Hk3 := Lib.hid (Hk.out.kept hb3)
        have HB3 := Lib.hid (HB.out.trans (hb3.mono HB.out.size))
        clear hb3 hix l0 k0 k1 f0 f1
        have hw := Hh.out.below HB3.out
        have c0 := hw.c0
        rw [← HN.out] at c0
        have ht := hw.tab.lt
        have hA := hw.tyA.lt
        obtain ⟨-, -, -, -, d4⟩ := hw.cells5 H3.out
        rw [← HV.out] at d4
        obtain ⟨l0, k0, k1, -, -⟩ := Bk.all2 Hk3.out
        have Hw := Lib.hid hw
        clear hw
        go_wp2_with fail
        refine (within_any Hw.out p.1).mono ?_
        rintro e w4 ⟨rfl, hb4⟩
        rw [← HBB.out]
        have HB4 := Lib.hid (HB3.out.trans (hb4.mono HB3.out.size))
        clear hb4 c0 ht hA d4 l0 k0 k1
        have hw := Hh.out.below HB4.out
        have c0 := hw.c0
        rw [← HN.out] at c0
        have ht := hw.tab.lt
        have hrow := hw.row
        have hcap : M.length ≤ c ∧ c ≤ 9223372036854775807 := by
          rcases hrow.2 with ⟨e, _⟩ | ⟨g, cap, cur, e, _, _, h1, h2, _⟩
          · cases e
          · cases e; exact ⟨h1, h2⟩
        have hdel := del_any hrow (i := i) (by rw [← HN.out]; exact h5) (by rw [← HN.out]; exact hlen) hcap.1 hcap.2
        have HLen := Lib.hid (show (cutF M i).length = N - 1 by unfold cutF; rw [List.length_eraseIdx_of_lt (by rw [← HN.out]; exact h5), HN.out])
        unfold DelP at hdel
        rw [← HN.out] at hdel
        have Hw4 := Lib.hid hw
        clear hw hrow hcap
        go_wp2_with fail
        refine hdel.mono ?_
        rintro e w5 ⟨rfl, ho5, hg5⟩
        have htb := Hw4.out.tab.grown hg5 (fun e => (bk_tyb Hw4.out.tab).ne Hw4.out.tyA (by decide) (Option.some.inj e))
        rw [← HN.out] at htb
        have e0 := htb.cell 0 rfl
        have e1 := htb.lt
        have e2 := htb.fz 0
        have HT := Lib.hid htb
        have HO := Lib.hid ho5
        have HG := Lib.hid hg5
        clear htb ho5 hg5 hdel c0
        go_wp2_with fail
        go_ret
        have hs2 := only_set w5 tb 0 (.slice (some ⟨A, 0, none⟩) (N - 1) c)
        have hsub : (cutF M i).Sublist M := List.eraseIdx_sublist M i
        have hE0 := HE3.out.trans (if_neg (by decide))
        have hixN : ixN (isId p.1) M = i := by unfold ixN; rw [Hi.out]; rfl
        refine ⟨by rw [hE0]; rfl, ?_, ((Fr.ofBelow HB4.out : FrM B w w4).trans (Fr.ofGrown HG.out (.inr ⟨Hw4.out.hA, Hw4.out.kinA⟩))).trans (Fr.ofGrown hs2 (.inr ⟨Hh.out.hB, .inl ⟨_, by simp [MT], bk_tyb HT.out⟩⟩))⟩
        rw [if_pos hE0, hixN]
        refine ⟨A, c, ⟨?_, ?_, Hh.out.hB, fun m hm => Hh.out.sm m (hsub.subset hm), HFit.out HBB.out.symm, Hh.out.last⟩⟩
        · rw [HLen.out]; exact HT.out.set 0 _
        · rw [HLen.out]
          have hty : TyB w5 A 90 := by
            obtain ⟨_, _, _, _, _, q, _⟩ := own_typed HO.out
            exact q A rfl
          exact own_keep HO.out hs2 (fun b hb e => by cases hb; exact hty.ne (bk_tyb HT.out) (by decide) e)
/-! List. -/
def LsP (M : Ms) (w : World) (e : Ending) (w' : World) : Prop := ∃ A c, e = .returned (.slice (some ⟨A, 0, none⟩) M.length c) ∧ w'.ownsRow w.heap.size 90 5 (.slice (some ⟨A, 0, none⟩) M.length c) M.length (M.flatMap mtC) ∧ Below w.heap.size w w'
set_option maxRecDepth 100000 in
set_option maxHeartbeats 1000000 in
theorem clone_any (h : MtR w B tb M last A c) : Calls Try.prog 84 #[.slice (some ⟨A, 0, none⟩) M.length c] w (LsP M w) := by
  obtain ⟨i0, hi, hz0, hz1, hz2⟩ := info_parts infoMt
  have hrd := h.rd
  have hlen := h.fit.len
  have hpos : 0 < M.length := by obtain ⟨q, M', e⟩ := h.fit.first; rw [e]; simp
  have hA := h.tyA.lt
  obtain ⟨n, hn⟩ : ∃ n, n = M.length := ⟨_, rfl⟩
  have Hn := Lib.hid hn
  have Hlen := Lib.hid (show (M.flatMap mtC).length = n * 5 by rw [len5 mtC (fun _ => rfl), hn])
  have Hc2 := Lib.hid (show ∀ j u, (M.flatMap mtC)[j]? = some u → (w.alloc (.cells #[] 90)).cell? ((⟨A, 0, none⟩ : Addr).add j) = some u from fun j u hu => by
    obtain ⟨b, o, e, hb, hcc⟩ := hrd.pos hpos
    cases e
    rw [addr_at]
    exact ((oneb w _).cell (p := ⟨A, 0 + j, none⟩) hA).trans (hcc j u hu))
  have hnil := fun (w : World) (a : Addr) (n c : Nat) => Lib.run_eql_slice_nil (P := Try.prog) w 87 90 (some a) n c 0 0 Try.underlying87
  have Hown := Lib.hid (World.ownsRow_lit (base := w.heap.size) (e := 90) (size := 5) w #[] 0 (Nat.le_refl _) (by unfold maxLen; omega) rfl)
  have HB1 := Lib.hid (oneb w (.cells #[] 90))
  unfold LsP
  rw [← hn] at hlen hpos ⊢
  clear hrd hn h
  go_enter Try.func84, Try.ntmps84
  go_wp2_with (at_builtin; refine wpList_append_own _ rfl (.tmp 5) (.tmp 6) 87 rfl w.heap.size 90 i0 _ 5 40 Try.underlying87 hi hz0 hz1 hz2 rfl (by decide) _ 0 [] rfl Hown.out ⟨A, 0, none⟩ n c (M.flatMap mtC) rfl Hlen.out Hc2.out (fun u hu => by obtain ⟨x, _, hx⟩ := List.mem_flatMap.1 hu; exact mt_one x u hx) (by unfold maxLen; omega) (by omega) HB1.out.size ?_; intro v' w4 hown' hgrow _; obtain ⟨A', c', rfl, hnc', -, -, -⟩ := own_typed hown'; have Hw := Lib.hid hown'; clear hown')
  go_ret
  rw [Nat.zero_add] at *
  have hw := Hw.out
  simp only [List.nil_append] at hw
  have hav : ∃ A2, A' = some ⟨A2, 0, none⟩ := by
    rcases hw.2 with ⟨e, e2⟩ | ⟨b, cap, cur, e, _⟩
    · cases e; omega
    · cases e; exact ⟨b, rfl⟩
  obtain ⟨A2, rfl⟩ := hav
  exact ⟨A2, c', rfl, hw, HB1.out.grown hgrow HB1.out.size (fun k hk => by cases hk; exact Nat.le_refl _)⟩
theorem list_any (h : MtR w B tb M last A c) : Calls Try.prog 32 #[.pointer (some ⟨tb, 0, none⟩)] w (LsP M w) := by
  have hc := clone_any h
  have c0 := h.c0
  have ht := h.tab.lt
  clear h
  go_enter Try.func32, Try.ntmps32
  go_wp2_with fail
  refine hc.mono ?_
  rintro e w2 ⟨A2, c2, rfl, ho, hb⟩
  have HO := Lib.hid ho
  have HB := Lib.hid hb
  clear ho hb hc
  go_wp2_with fail
  go_ret
  exact ⟨A2, c2, rfl, HO.out, HB.out⟩
end
end Go.Proofs.Ytmbgmbheonpamaa.Mt
