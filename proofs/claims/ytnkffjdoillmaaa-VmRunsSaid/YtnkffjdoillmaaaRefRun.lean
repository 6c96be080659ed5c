/- A run by the document's machine. -/
import Derived.Test.YtnkffjdoillmaaaRefs
namespace Go.Proofs.Ytnkffjdoillmaaa
open Go.RowKit
/-- How far it has come. -/
structure RMem6 (bs : List Nat) (l : List Ins) (w wr : World) (ts : List (Nat × Nat × Nat)) (s : Mc) : Prop where
  live : Live (recW bs) l ts s
  ok : s.ok
  r : Bk wr w.heap.size 48 (u32s (Rec.ws bs))
  m : Bk wr (w.heap.size + 1) 47 (u32s s.m)
  bel : Below w.heap.size w wr
section
variable {bs : List Nat} {l : List Ins} {w wr w' : World} {ts : List (Nat × Nat × Nat)} {s s' : Mc} {i : Ins}
theorem RMem6.step (h : RMem6 bs l w wr ts s) (hb : Rec.IsRec bs) (hi : l[s.nx]? = some i) (hk : i.k < 4294967296) (hs : stepN (recW bs) i s = (s', none)) (hr : Bk w' w.heap.size 48 (u32s (Rec.ws bs))) (hm : Bk w' (w.heap.size + 1) 47 (u32s s'.m)) (hbel : Below w.heap.size w w') :
    RMem6 bs l w w' (ts ++ [(s.nx, s'.a, s'.x)]) s' :=
  ⟨live_none h.live hi hs, by have := step_ok (W := recW bs) (i := i) (recW_lt hb) h.ok hk; rwa [hs] at this, hr, hm, hbel⟩
theorem RMem6.kept (h : RMem6 bs l w wr ts s) (hb : Below wr.heap.size wr w') (hi : l[s.nx]? = some i) (hrec : Rec.IsRec bs) (hk : i.k < 4294967296) (hs : stepN (recW bs) i s = (s', none)) (hm : s'.m = s.m) : RMem6 bs l w w' (ts ++ [(s.nx, s'.a, s'.x)]) s' :=
  h.step hrec hi hk hs (h.r.kept hb) (by rw [hm]; exact h.m.kept hb) (h.bel.trans (hb.mono h.bel.size))
end
theorem size47 : (Try.prog.info? 47).map (·.size) = some 16 := by kernel_rfl
def RefTo (bs : List Nat) (l : List Ins) (w : World) (e : Ending) (w' : World) : Prop := e = .returned (.tuple #[.int .u32 (runN (recW bs) l).2, .int .i64 (runN (recW bs) l).1.length]) ∧ Below w.heap.size w w'
theorem refTo_out {bs : List Nat} {l : List Ins} {w w' : World} {ts : List (Nat × Nat × Nat)} {r : Nat} (h : runN (recW bs) l = (ts, r)) (hb : Below w.heap.size w w') : RefTo bs l w (.returned (.tuple #[.int .u32 r, .int .i64 (ts.length : Nat)])) w' := by
  unfold RefTo; rw [h]; exact ⟨rfl, hb⟩
theorem refTo_of {bs : List Nat} {l : List Ins} {w w' : World} {ts : List (Nat × Nat × Nat)} {t : Nat × Nat × Nat} {r n : Nat} (h : runN (recW bs) l = (ts ++ [t], r)) (hn : ts.length + 1 = n) (hb : Below w.heap.size w w') : RefTo bs l w (.returned (.tuple #[.int .u32 r, .int .i64 n])) w' := by
  unfold RefTo; rw [h, ← hn]; exact ⟨by simp, hb⟩
set_option maxRecDepth 100000 in
set_option maxHeartbeats 16000000 in
theorem refRun_any (bs : List Nat) (l : List Ins) (n : Nat) (A : Option Addr) (cp : Nat) (w : World) (hl : l.length = n) (g : Good l) (hok : ∀ i ∈ l, i.ok) (hb : Rec.IsRec bs) (hr : Rd w 4 n A (l.flatMap Ins.rcells)) :
    Calls Try.prog 15 #[.slice A n cp, .agg (u32s (Rec.ws bs)).toArray] w (RefTo bs l w) := by
  have HL := Lib.hid (And.intro hl (And.intro g (And.intro hok (And.intro hb hr))))
  have hn : n ≤ 4096 := hl ▸ g.many
  have hb0 := two_below w (.cells (u32s (Rec.ws bs)).toArray 48) (.cells (u32s (List.replicate 16 0)).toArray 47)
  have hk0 := (Bk.new (l := u32s (Rec.ws bs)) w 48 _ rfl).alloc (.cells (u32s (List.replicate 16 0)).toArray 47)
  have hk1 := Bk.new (l := u32s (List.replicate 16 0)) (w.alloc (.cells (u32s (Rec.ws bs)).toArray 48)) 47 _ rfl
  have es : (w.alloc (.cells (u32s (Rec.ws bs)).toArray 48)).heap.size = w.heap.size + 1 := by simp
  rw [es] at hk1
  have HM0 := Lib.hid (show RMem6 bs l w ((w.alloc (.cells (u32s (Rec.ws bs)).toArray 48)).alloc (.cells (u32s (List.replicate 16 0)).toArray 47)) [] mc0 from ⟨live_0 _ _, mc0_ok, hk0, hk1, hb0⟩)
  have hRA : (u32s (Rec.ws bs)).length = 16 := rfl
  have HRA := Lib.hid hRA
  obtain ⟨RL, hRL⟩ : ∃ RL, RL = u32s (Rec.ws bs) := ⟨_, rfl⟩
  rw [← hRL] at HM0 HRA ⊢
  have HRL := Lib.hid hRL
  clear hl g hok hb hr hb0 hk0 hk1 es hRA hRL
  go_enter Try.func15, Try.ntmps15
  go_wp2_with fail
  go_loopw [6, 7, 9, 10] (fun a x p st wr => ∃ ts s, a = .int .u32 (Mc.a s : Nat) ∧ x = .int .u32 (Mc.x s : Nat) ∧ p = .int .i64 (Mc.nx s : Nat) ∧ st = .int .i64 (List.length ts : Nat) ∧ Hid (RMem6 bs l w wr ts s)) (fun _ _ p _ _ => n - (intOf p).toNat)
  case atStart => exact ⟨[], mc0, rfl, rfl, rfl, rfl, HM0⟩
  case round =>
    obtain ⟨ts, s, rfl, rfl, rfl, rfl, HM⟩ := hrel
    clear HM0
    by_cases hlt : s.nx < n
    · obtain ⟨i, hi⟩ : ∃ i, l[s.nx]? = some i := ⟨_, List.getElem?_eq_getElem (by rw [HL.out.1]; exact hlt)⟩
      have hio := HL.out.2.2.1 i (List.mem_of_getElem? hi)
      obtain ⟨hk1, _, hk3⟩ := alone_zero.1 (HL.out.2.1.each _ _ hi)
      obtain ⟨b, o, hA, hbl, hcells⟩ := (HL.out.2.2.2.2.below HM.out.bel).pos (by omega)
      subst hA
      obtain ⟨q0, q1, q2, q3⟩ := rfour_cells hcells hi
      have hc : i.c ∈ codesL := by simpa [knownB] using hk1
      simp only [codesL, List.mem_cons, List.not_mem_nil, or_false] at hc
      have hts := live_len HM.out.live hi
      rw [HL.out.1] at hts
      have Rl := Lib.hid (fun w m hm h => refLoad_any bs i m w hm hk1 hk3 h)
      have Rk := Lib.hid (fun w ho h3 => refReckon_any (i.c / 16) s.a (opd i s) w HM.out.ok.a (opd_lt HM.out.ok hio.2.2.2) ho h3)
      have Rj := Lib.hid (fun w h5 => refJump_any i s w HM.out.ok hio hk1 h5)
      have Fin := Lib.hid (fun r s' (hs : stepN (recW bs) i s = (s', some r)) => live_some HM.out.live hi hs)
      have Nxt := Lib.hid (fun s' w' (hs : stepN (recW bs) i s = (s', none)) hb' hm' => HM.out.kept (w' := w') (s' := s') hb' hi HL.out.2.2.2.1 hio.2.2.2 hs hm')
      obtain ⟨c, t, f, k⟩ := i
      obtain ⟨a, x, m, nx⟩ := s
      dsimp only at *
      have HR1 := Lib.hid (HM.out.r.alloc (.cells #[.int .i64 c, .int .i64 t, .int .i64 f, .int .u32 k] 79))
      have HM1 := Lib.hid (HM.out.m.alloc (.cells #[.int .i64 c, .int .i64 t, .int .i64 f, .int .u32 k] 79))
      have HMl := Lib.hid (show (u32s m).length = 16 by have := HM.out.ok.m; simpa [u32s] using this)
      rw [← HRL.out] at HR1
      simp only [← HRL.out] at Rl
      have hcb : c < 65536 := hio.1
      clear hcells
      rcases (by omega : c % 8 = 0 ∨ c % 8 = 1 ∨ c % 8 = 2 ∨ c % 8 = 3 ∨ c % 8 = 4 ∨ c % 8 = 5 ∨ c % 8 = 6 ∨ c % 8 = 7) with hcl | hcl | hcl | hcl | hcl | hcl | hcl | hcl
      · have ec : (c : Int) % 8 = 0 := by omega
        have e8 : (c : Int) / 8 % 2 = 0 := by omega
        have Rl1 := Lib.hid (fun w => Rl.out w m HM.out.ok.m (by omega))
        obtain ⟨v, hvd⟩ : ∃ v, v = ldN (recW bs) ⟨c, t, f, k⟩ m := ⟨_, rfl⟩
        rw [← hvd] at Rl1
        have hst : stepN (recW bs) ⟨c, t, f, k⟩ ⟨a, x, m, nx⟩ = (⟨v, x, m, nx + 1⟩, none) := by rw [hvd]; unfold stepN; dsimp only; rw [if_pos hcl]
        have Nx := Lib.hid (fun w' hb' => Nxt.out _ w' hst hb' rfl)
        clear hcl hc hvd hst
        go_wp2_with (first | (refine ld_row HR1.out rfl _ rfl rfl Try.underlying48 Rec.size16 HRA.out ?_) | (refine ld_row HM1.out rfl _ rfl rfl Try.underlying47 size47 HMl.out ?_))
        refine (Rl1.out _).mono ?_
        rintro e w3 ⟨rfl, hb3⟩
        have HN := Lib.hid (Nx.out w3 ((one_below wr (.cells #[.int .i64 c, .int .i64 t, .int .i64 f, .int .u32 k] 79)).trans (hb3.mono (by simp))))
        clear hb3
        go_wp2_with fail
        go_roundw
        case rel => exact ⟨_, ⟨v, x, m, nx + 1⟩, rfl, rfl, by go_num, by rw [List.length_append]; go_num, HN⟩
        case measure => simp [intOf]; omega
      · have ec : (c : Int) % 8 = 1 := by omega
        have e8 : (c : Int) / 8 % 2 = 0 := by omega
        have Rl1 := Lib.hid (fun w => Rl.out w m HM.out.ok.m (by omega))
        obtain ⟨v, hvd⟩ : ∃ v, v = ldN (recW bs) ⟨c, t, f, k⟩ m := ⟨_, rfl⟩
        rw [← hvd] at Rl1
        have hst : stepN (recW bs) ⟨c, t, f, k⟩ ⟨a, x, m, nx⟩ = (⟨a, v, m, nx + 1⟩, none) := by rw [hvd]; unfold stepN; dsimp only; rw [if_neg (by omega), if_pos hcl]
        have Nx := Lib.hid (fun w' hb' => Nxt.out _ w' hst hb' rfl)
        clear hcl hc hvd hst
        go_wp2_with (first | (refine ld_row HR1.out rfl _ rfl rfl Try.underlying48 Rec.size16 HRA.out ?_) | (refine ld_row HM1.out rfl _ rfl rfl Try.underlying47 size47 HMl.out ?_))
        refine (Rl1.out _).mono ?_
        rintro e w3 ⟨rfl, hb3⟩
        have HN := Lib.hid (Nx.out w3 ((one_below wr (.cells #[.int .i64 c, .int .i64 t, .int .i64 f, .int .u32 k] 79)).trans (hb3.mono (by simp))))
        clear hb3
        go_wp2_with fail
        go_roundw
        case rel => exact ⟨_, ⟨a, v, m, nx + 1⟩, rfl, rfl, by go_num, by rw [List.length_append]; go_num, HN⟩
        case measure => simp [intOf]; omega
      · have ec : (c : Int) % 8 = 2 := by omega
        have e8 : (c : Int) / 8 % 2 = 0 := by omega
        have hk16 : k < 16 := scratch_lt hk3 (by show c = 96 ∨ c = 97 ∨ c = 2 ∨ c = 3; omega)
        have e16 : (k : Int) % 16 = k := by omega
        have k0 : (0 : Int) ≤ (k : Int) := by omega
        have k1 : (k : Int) < 16 := by omega
        have k2 : (k : Int).toNat = k := by omega
        have hml := HM.out.ok.m
        dsimp only at hml
        obtain ⟨u, hu⟩ : ∃ u, m[k]? = some u := ⟨_, List.getElem?_eq_getElem (show k < m.length by omega)⟩
        have cm := HM.out.m.cell k (u32s_at hu)
        have fm := HM.out.m.fz k
        have hgl := HM.out.m.lt
        have hst : stepN (recW bs) ⟨c, t, f, k⟩ ⟨a, x, m, nx⟩ = (⟨a, x, m.set k a, nx + 1⟩, none) := by unfold stepN; dsimp only; rw [if_neg (by omega), if_neg (by omega), if_pos hcl]
        have HN := Lib.hid (HM.out.step (w' := (wr.setCell ⟨w.heap.size + 1, k, none⟩ (.int .u32 a)).alloc (.cells #[.int .i64 c, .int .i64 t, .int .i64 f, .int .u32 k] 79)) HL.out.2.2.2.1 hi hio.2.2.2 hst ((HM.out.r.grown (only_set wr (w.heap.size + 1) k _) (fun e => by have := Option.some.inj e; omega)).alloc _) (by have := (HM.out.m.set k (.int .u32 a)).alloc (.cells #[.int .i64 c, .int .i64 t, .int .i64 f, .int .u32 k] 79); simpa [u32s, List.map_set] using this) ((only_below HM.out.bel (only_set wr (w.heap.size + 1) k _) HM.out.bel.size (Nat.le_succ _)).alloc (by have := HM.out.bel.size; simpa [World.setCell] using this) _))
        clear hcl hc hst hml hk16 hu
        go_wp2_with fail
        go_roundw
        case rel => exact ⟨_, ⟨a, x, m.set k a, nx + 1⟩, rfl, rfl, by go_num, by rw [List.length_append]; go_num, HN⟩
        case measure => simp [intOf]; omega
      · have ec : (c : Int) % 8 = 3 := by omega
        have e8 : (c : Int) / 8 % 2 = 0 := by omega
        have hk16 : k < 16 := scratch_lt hk3 (by show c = 96 ∨ c = 97 ∨ c = 2 ∨ c = 3; omega)
        have e16 : (k : Int) % 16 = k := by omega
        have k0 : (0 : Int) ≤ (k : Int) := by omega
        have k1 : (k : Int) < 16 := by omega
        have k2 : (k : Int).toNat = k := by omega
        have hml := HM.out.ok.m
        dsimp only at hml
        obtain ⟨u, hu⟩ : ∃ u, m[k]? = some u := ⟨_, List.getElem?_eq_getElem (show k < m.length by omega)⟩
        have cm := HM.out.m.cell k (u32s_at hu)
        have fm := HM.out.m.fz k
        have hgl := HM.out.m.lt
        have hst : stepN (recW bs) ⟨c, t, f, k⟩ ⟨a, x, m, nx⟩ = (⟨a, x, m.set k x, nx + 1⟩, none) := by unfold stepN; dsimp only; rw [if_neg (by omega), if_neg (by omega), if_neg (by omega), if_pos hcl]
        have HN := Lib.hid (HM.out.step (w' := (wr.setCell ⟨w.heap.size + 1, k, none⟩ (.int .u32 x)).alloc (.cells #[.int .i64 c, .int .i64 t, .int .i64 f, .int .u32 k] 79)) HL.out.2.2.2.1 hi hio.2.2.2 hst ((HM.out.r.grown (only_set wr (w.heap.size + 1) k _) (fun e => by have := Option.some.inj e; omega)).alloc _) (by have := (HM.out.m.set k (.int .u32 x)).alloc (.cells #[.int .i64 c, .int .i64 t, .int .i64 f, .int .u32 k] 79); simpa [u32s, List.map_set] using this) ((only_below HM.out.bel (only_set wr (w.heap.size + 1) k _) HM.out.bel.size (Nat.le_succ _)).alloc (by have := HM.out.bel.size; simpa [World.setCell] using this) _))
        clear hcl hc hst hml hk16 hu
        go_wp2_with fail
        go_roundw
        case rel => exact ⟨_, ⟨a, x, m.set k x, nx + 1⟩, rfl, rfl, by go_num, by rw [List.length_append]; go_num, HN⟩
        case measure => simp [intOf]; omega
      · by_cases h8 : c / 8 % 2 = 1
        · by_cases hdiv : c / 16 = 3 ∧ x = 0
          · have hop : opd ⟨c, t, f, k⟩ ⟨a, x, m, nx⟩ = x := by unfold opd; dsimp only; rw [if_pos h8]
            have ec : (c : Int) % 8 = 4 := by omega
            have e8 : (c : Int) / 8 % 2 = 1 := by omega
            obtain ⟨o4, ho4⟩ : ∃ o4, o4 = c / 16 := ⟨_, rfl⟩
            have eo : (c : Int) / 16 = o4 := by omega
            have e3 : ((o4 : Int) == 3) = true := by simp; omega
            have eb : ((x : Int) == 0) = true := by simp; omega
            have hst : stepN (recW bs) ⟨c, t, f, k⟩ ⟨a, x, m, nx⟩ = (⟨a, x, m, nx + 1⟩, some 0) := by unfold stepN; rw [hop]; dsimp only; rw [if_neg (by omega), if_neg (by omega), if_neg (by omega), if_neg (by omega), if_pos hcl, if_pos ⟨by omega, by omega⟩]
            have Fn := Lib.hid (Fin.out _ _ hst)
            clear hcl hc hst hop h8 ho4 hdiv
            go_wp2_with fail
            go_ret2
            exact refTo_of (n := ts.length + 1) Fn.out rfl (HM.out.bel.alloc HM.out.bel.size _)
          · have hop : opd ⟨c, t, f, k⟩ ⟨a, x, m, nx⟩ = x := by unfold opd; dsimp only; rw [if_pos h8]
            have ec : (c : Int) % 8 = 4 := by omega
            have e8 : (c : Int) / 8 % 2 = 1 := by omega
            obtain ⟨o4, ho4⟩ : ∃ o4, o4 = c / 16 := ⟨_, rfl⟩
            have eo : (c : Int) / 16 = o4 := by omega
            have Rk1 := Lib.hid (fun w => Rk.out w (by omega) (by rw [hop]; omega))
            rw [hop] at Rk1
            rw [← ho4] at Rk1
            obtain ⟨v, hvd⟩ : ∃ v, v = reckN o4 a x := ⟨_, rfl⟩
            rw [← hvd] at Rk1
            have hst : stepN (recW bs) ⟨c, t, f, k⟩ ⟨a, x, m, nx⟩ = (⟨v, x, m, nx + 1⟩, none) := by rw [hvd, ho4]; unfold stepN; rw [hop]; dsimp only; rw [if_neg (by omega), if_neg (by omega), if_neg (by omega), if_neg (by omega), if_pos hcl, if_neg (by omega)]
            have Nx := Lib.hid (fun w' hb' => Nxt.out _ w' hst hb' rfl)
            have hdi : ((o4 : Int) == 3) = false ∨ (((o4 : Int) == 3) = true ∧ ((x : Int) == 0) = false) := by
              by_cases h3 : c / 16 = 3
              · right; constructor <;> (simp; omega)
              · left; simp; omega
            clear hcl hc hst hop h8 ho4 hdiv hvd
            rcases hdi with e3 | ⟨e3, eb⟩
            all_goals
              go_wp2_with fail
              refine (Rk1.out _).mono ?_
              rintro e w3 ⟨rfl, rfl⟩
              have HN := Lib.hid (Nx.out _ (one_below wr (.cells #[.int .i64 c, .int .i64 t, .int .i64 f, .int .u32 k] 79)))
              go_wp2_with fail
              go_roundw
              case rel => exact ⟨_, ⟨v, x, m, nx + 1⟩, rfl, rfl, by go_num, by rw [List.length_append]; go_num, HN⟩
              case measure => simp [intOf]; omega
        · by_cases hdiv : c / 16 = 3 ∧ k = 0
          · have hop : opd ⟨c, t, f, k⟩ ⟨a, x, m, nx⟩ = k := by unfold opd; dsimp only; rw [if_neg h8]
            have ec : (c : Int) % 8 = 4 := by omega
            have e8 : (c : Int) / 8 % 2 = 0 := by omega
            obtain ⟨o4, ho4⟩ : ∃ o4, o4 = c / 16 := ⟨_, rfl⟩
            have eo : (c : Int) / 16 = o4 := by omega
            have e3 : ((o4 : Int) == 3) = true := by simp; omega
            have eb : ((k : Int) == 0) = true := by simp; omega
            have hst : stepN (recW bs) ⟨c, t, f, k⟩ ⟨a, x, m, nx⟩ = (⟨a, x, m, nx + 1⟩, some 0) := by unfold stepN; rw [hop]; dsimp only; rw [if_neg (by omega), if_neg (by omega), if_neg (by omega), if_neg (by omega), if_pos hcl, if_pos ⟨by omega, by omega⟩]
            have Fn := Lib.hid (Fin.out _ _ hst)
            clear hcl hc hst hop h8 ho4 hdiv
            go_wp2_with fail
            go_ret2
            exact refTo_of (n := ts.length + 1) Fn.out rfl (HM.out.bel.alloc HM.out.bel.size _)
          · have hop : opd ⟨c, t, f, k⟩ ⟨a, x, m, nx⟩ = k := by unfold opd; dsimp only; rw [if_neg h8]
            have ec : (c : Int) % 8 = 4 := by omega
            have e8 : (c : Int) / 8 % 2 = 0 := by omega
            obtain ⟨o4, ho4⟩ : ∃ o4, o4 = c / 16 := ⟨_, rfl⟩
            have eo : (c : Int) / 16 = o4 := by omega
            have Rk1 := Lib.hid (fun w => Rk.out w (by omega) (by rw [hop]; omega))
            rw [hop] at Rk1
            rw [← ho4] at Rk1
            obtain ⟨v, hvd⟩ : ∃ v, v = reckN o4 a k := ⟨_, rfl⟩
            rw [← hvd] at Rk1
            have hst : stepN (recW bs) ⟨c, t, f, k⟩ ⟨a, x, m, nx⟩ = (⟨v, x, m, nx + 1⟩, none) := by rw [hvd, ho4]; unfold stepN; rw [hop]; dsimp only; rw [if_neg (by omega), if_neg (by omega), if_neg (by omega), if_neg (by omega), if_pos hcl, if_neg (by omega)]
            have Nx := Lib.hid (fun w' hb' => Nxt.out _ w' hst hb' rfl)
            have hdi : ((o4 : Int) == 3) = false ∨ (((o4 : Int) == 3) = true ∧ ((k : Int) == 0) = false) := by
              by_cases h3 : c / 16 = 3
              · right; constructor <;> (simp; omega)
              · left; simp; omega
            clear hcl hc hst hop h8 ho4 hdiv hvd
            rcases hdi with e3 | ⟨e3, eb⟩
            all_goals
              go_wp2_with fail
              refine (Rk1.out _).mono ?_
              rintro e w3 ⟨rfl, rfl⟩
              have HN := Lib.hid (Nx.out _ (one_below wr (.cells #[.int .i64 c, .int .i64 t, .int .i64 f, .int .u32 k] 79)))
              go_wp2_with fail
              go_roundw
              case rel => exact ⟨_, ⟨v, x, m, nx + 1⟩, rfl, rfl, by go_num, by rw [List.length_append]; go_num, HN⟩
              case measure => simp [intOf]; omega
      · by_cases h8 : c / 8 % 2 = 1
        · have hop : opd ⟨c, t, f, k⟩ ⟨a, x, m, nx⟩ = x := by unfold opd; dsimp only; rw [if_pos h8]
          have ec : (c : Int) % 8 = 5 := by omega
          have e8 : (c : Int) / 8 % 2 = 1 := by omega
          have Rj1 := Lib.hid (fun w => Rj.out w hcl)
          have hd : farN ⟨c, t, f, k⟩ ⟨a, x, m, nx⟩ < 4294967296 := by have := hio.2.1; have := hio.2.2.1; have := hio.2.2.2; unfold farN; dsimp only at *; split; omega; split <;> omega
          obtain ⟨d, hdd⟩ : ∃ d, d = farN ⟨c, t, f, k⟩ ⟨a, x, m, nx⟩ := ⟨_, rfl⟩
          rw [← hdd] at Rj1 hd
          rw [hop] at Rj1
          have hst : stepN (recW bs) ⟨c, t, f, k⟩ ⟨a, x, m, nx⟩ = (⟨a, x, m, nx + 1 + d⟩, none) := by rw [hdd]; unfold stepN; dsimp only; rw [if_neg (by omega), if_neg (by omega), if_neg (by omega), if_neg (by omega), if_neg (by omega), if_pos hcl]
          have Nx := Lib.hid (fun w' hb' => Nxt.out _ w' hst hb' rfl)
          have d0 : (0 : Int) ≤ (d : Int) := by omega
          have d1 : (d : Int) < 4294967296 := by omega
          clear hcl hc hst hop h8 hdd hd
          go_wp2_with fail
          refine (Rj1.out _).mono ?_
          rintro e w3 ⟨rfl, hb3⟩
          have HN := Lib.hid (Nx.out w3 ((one_below wr (.cells #[.int .i64 c, .int .i64 t, .int .i64 f, .int .u32 k] 79)).trans (hb3.mono (by simp))))
          clear hb3
          go_wp2_with fail
          go_roundw
          case rel => exact ⟨_, ⟨a, x, m, nx + 1 + d⟩, rfl, rfl, by go_num, by rw [List.length_append]; go_num, HN⟩
          case measure => simp [intOf]; omega
        · have hop : opd ⟨c, t, f, k⟩ ⟨a, x, m, nx⟩ = k := by unfold opd; dsimp only; rw [if_neg h8]
          have ec : (c : Int) % 8 = 5 := by omega
          have e8 : (c : Int) / 8 % 2 = 0 := by omega
          have Rj1 := Lib.hid (fun w => Rj.out w hcl)
          have hd : farN ⟨c, t, f, k⟩ ⟨a, x, m, nx⟩ < 4294967296 := by have := hio.2.1; have := hio.2.2.1; have := hio.2.2.2; unfold farN; dsimp only at *; split; omega; split <;> omega
          obtain ⟨d, hdd⟩ : ∃ d, d = farN ⟨c, t, f, k⟩ ⟨a, x, m, nx⟩ := ⟨_, rfl⟩
          rw [← hdd] at Rj1 hd
          rw [hop] at Rj1
          have hst : stepN (recW bs) ⟨c, t, f, k⟩ ⟨a, x, m, nx⟩ = (⟨a, x, m, nx + 1 + d⟩, none) := by rw [hdd]; unfold stepN; dsimp only; rw [if_neg (by omega), if_neg (by omega), if_neg (by omega), if_neg (by omega), if_neg (by omega), if_pos hcl]
          have Nx := Lib.hid (fun w' hb' => Nxt.out _ w' hst hb' rfl)
          have d0 : (0 : Int) ≤ (d : Int) := by omega
          have d1 : (d : Int) < 4294967296 := by omega
          clear hcl hc hst hop h8 hdd hd
          go_wp2_with fail
          refine (Rj1.out _).mono ?_
          rintro e w3 ⟨rfl, hb3⟩
          have HN := Lib.hid (Nx.out w3 ((one_below wr (.cells #[.int .i64 c, .int .i64 t, .int .i64 f, .int .u32 k] 79)).trans (hb3.mono (by simp))))
          clear hb3
          go_wp2_with fail
          go_roundw
          case rel => exact ⟨_, ⟨a, x, m, nx + 1 + d⟩, rfl, rfl, by go_num, by rw [List.length_append]; go_num, HN⟩
          case measure => simp [intOf]; omega
      · by_cases h22 : c = 22
        · have ec : (c : Int) % 8 = 6 := by omega
          have e8 : (c : Int) / 8 % 2 = 0 := by omega
          have e22 : ((c : Int) == 22) = true := by simp; omega
          have hst : stepN (recW bs) ⟨c, t, f, k⟩ ⟨a, x, m, nx⟩ = (⟨a, x, m, nx + 1⟩, some a) := by unfold stepN; dsimp only; rw [if_neg (by omega), if_neg (by omega), if_neg (by omega), if_neg (by omega), if_neg (by omega), if_neg (by omega), if_pos hcl, if_pos (by omega)]
          have Fn := Lib.hid (Fin.out _ _ hst)
          clear hcl hc hst h22
          go_wp2_with fail
          go_ret2
          exact refTo_of (n := ts.length + 1) Fn.out rfl (HM.out.bel.alloc HM.out.bel.size _)
        · have ec : (c : Int) % 8 = 6 := by omega
          have e8 : (c : Int) / 8 % 2 = 0 := by omega
          have e22 : ((c : Int) == 22) = false := by simp; omega
          have hst : stepN (recW bs) ⟨c, t, f, k⟩ ⟨a, x, m, nx⟩ = (⟨a, x, m, nx + 1⟩, some k) := by unfold stepN; dsimp only; rw [if_neg (by omega), if_neg (by omega), if_neg (by omega), if_neg (by omega), if_neg (by omega), if_neg (by omega), if_pos hcl, if_neg (by omega)]
          have Fn := Lib.hid (Fin.out _ _ hst)
          clear hcl hc hst h22
          go_wp2_with fail
          go_ret2
          exact refTo_of (n := ts.length + 1) Fn.out rfl (HM.out.bel.alloc HM.out.bel.size _)
      · by_cases h7 : c = 7
        · have ec : (c : Int) % 8 = 7 := by omega
          have e8 : (c : Int) / 8 % 2 = 0 := by omega
          have e7 : ((c : Int) == 7) = true := by simp; omega
          have hst : stepN (recW bs) ⟨c, t, f, k⟩ ⟨a, x, m, nx⟩ = (⟨a, a, m, nx + 1⟩, none) := by unfold stepN; dsimp only; rw [if_neg (by omega), if_neg (by omega), if_neg (by omega), if_neg (by omega), if_neg (by omega), if_neg (by omega), if_neg (by omega), if_pos (by omega)]
          have Nx := Lib.hid (fun w' hb' => Nxt.out _ w' hst hb' rfl)
          have HN := Lib.hid (Nx.out _ (one_below wr (.cells #[.int .i64 c, .int .i64 t, .int .i64 f, .int .u32 k] 79)))
          clear hcl hc hst h7 Nx
          go_wp2_with fail
          go_roundw
          case rel => exact ⟨_, ⟨a, a, m, nx + 1⟩, rfl, rfl, by go_num, by rw [List.length_append]; go_num, HN⟩
          case measure => simp [intOf]; omega
        · have ec : (c : Int) % 8 = 7 := by omega
          have e8 : (c : Int) / 8 % 2 = 0 := by omega
          have e7 : ((c : Int) == 7) = false := by simp; omega
          have hst : stepN (recW bs) ⟨c, t, f, k⟩ ⟨a, x, m, nx⟩ = (⟨x, x, m, nx + 1⟩, none) := by unfold stepN; dsimp only; rw [if_neg (by omega), if_neg (by omega), if_neg (by omega), if_neg (by omega), if_neg (by omega), if_neg (by omega), if_neg (by omega), if_neg (by omega)]
          have Nx := Lib.hid (fun w' hb' => Nxt.out _ w' hst hb' rfl)
          have HN := Lib.hid (Nx.out _ (one_below wr (.cells #[.int .i64 c, .int .i64 t, .int .i64 f, .int .u32 k] 79)))
          clear hcl hc hst h7 Nx
          go_wp2_with fail
          go_roundw
          case rel => exact ⟨_, ⟨x, x, m, nx + 1⟩, rfl, rfl, by go_num, by rw [List.length_append]; go_num, HN⟩
          case measure => simp [intOf]; omega
    · have hdone := live_out HM.out.live (by rw [HL.out.1]; omega)
      have HD := Lib.hid hdone
      clear hdone
      go_wp2_with fail
      go_ret2
      exact refTo_out HD.out HM.out.bel
end Go.Proofs.Ytnkffjdoillmaaa
