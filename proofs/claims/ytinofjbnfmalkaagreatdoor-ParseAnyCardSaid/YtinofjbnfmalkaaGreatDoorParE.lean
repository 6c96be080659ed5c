/- What answers a rule's conditions: the walk. -/
import Derived.Test.YtinofjbnfmalkaaGreatDoorParD
import Derived.Deep.LoopGhost
namespace Go.Proofs.YtinofjbnfmalkaaGreatDoor.Pa
open Go.RowKit Go.WideElems
theorem Rb.appended {w w' : World} {b : Nat} {c : RC} {s : RS} {v : Value} (h : Rb w b c s) (hg : w.grownBy w' v.ownBlock) (hv : ∀ g, v.ownBlock = some g → b < g) : Rb w' b c s := by
  cases hb : v.ownBlock with
  | none => rw [hb] at hg; exact h.kept ⟨hg.os, hg.tape, hg.output, hg.size, fun i hi => hg.block i hi (by simp)⟩
  | some g => rw [hb] at hg; exact h.grown hg (hv g hb)
theorem Ev.appended {w w' : World} {b : Nat} {v : Value} (h : Ev w b) (hg : w.grownBy w' v.ownBlock) (hv : ∀ g, v.ownBlock = some g → b ≤ g) : Ev w' b := by
  cases hb : v.ownBlock with
  | none => rw [hb] at hg; exact h.kept ⟨hg.os, hg.tape, hg.output, hg.size, fun i hi => hg.block i hi (by simp)⟩
  | some g => rw [hb] at hg; exact h.grown hg (hv g hb)
theorem grow_app {w w1 w' : World} {b : Nat} {v : Value} (h : w.grownBy w1 (some b)) (hg : w1.grownBy w' v.ownBlock) (hv : ∀ g, v.ownBlock = some g → w.heap.size ≤ g) : w.grownBy w' (some b) := grown_trans h hg (fun k hk => .inr (hv k hk))
def CondsR (L : List CondM) (b : Nat) (c : RC) (s : RS) (w : World) (e : Ending) (w' : World) : Prop :=
  ∃ v, e = .returned v ∧ w'.ownsRow w.heap.size 90 4 v L.length (L.flatMap CondM.cells) ∧ Rb w' b c s ∧ w.grownBy w' (some b)
theorem conds_of {L L' : List CondM} {b : Nat} {c : RC} {s s' : RS} {w w' : World} {e : Ending} {v : Value} (h : L = L') (hs : s = s') (he : e = .returned v) (ho : w'.ownsRow w.heap.size 90 4 v L'.length (L'.flatMap CondM.cells)) (hr : Rb w' b c s') (hg : w.grownBy w' (some b)) : CondsR L b c s w e w' := by
  subst h; subst hs; exact ⟨v, he, ho, hr, hg⟩
structure CdL (w wr : World) (b : Nat) (c : RC) (v : Value) (l : List CondM) (s : RS) : Prop where
  own : wr.ownsRow w.heap.size 90 4 v l.length (l.flatMap CondM.cells)
  rb : Rb wr b c s
  ev : Ev wr b
  inn : In s
  gr : w.grownBy wr (some b)
theorem CdL.step {w wr w1 : World} {b : Nat} {c : RC} {v : Value} {l : List CondM} {s s1 : RS} (h : CdL w wr b c v l s) (hb : b < w.heap.size) (hr : Rb w1 b c s1) (hg : wr.grownBy w1 (some b)) (hs : Sub s1 s) : CdL w w1 b c v l s1 :=
  ⟨own_keep h.own hg (fun g hg2 => by have := (h.own.lt g hg2).1; omega), hr, h.ev.grown hg (Nat.le_refl _), h.inn.sub hs, only_trans h.gr hg⟩
theorem CdL.alloc {w wr : World} {b : Nat} {c : RC} {v : Value} {l : List CondM} {s : RS} (h : CdL w wr b c v l s) (o : Obj) : CdL w (wr.alloc o) b c v l s :=
  ⟨own_below h.own (oneb wr o), h.rb.alloc o, h.ev.kept (oneb wr o), h.inn, grow_al h.gr o⟩
theorem CdL.put {w wr w' : World} {b : Nat} {c : RC} {v v' : Value} {l : List CondM} {s : RS} (h : CdL w wr b c v l s) (hb : b < w.heap.size) (y : CondM) (hown : w'.ownsRow w.heap.size 90 4 v' (l.length + 1) (l.flatMap CondM.cells ++ y.cells)) (hg : wr.grownBy w' v.ownBlock) : CdL w w' b c v' (l ++ [y]) s := by
  have hl := fun g hg2 => (h.own.lt g hg2).1
  refine ⟨?_, h.rb.appended hg (fun g hg2 => by have := hl g hg2; omega), h.ev.appended hg (fun g hg2 => by have := hl g hg2; omega), h.inn, grow_app h.gr hg hl⟩
  rw [List.length_append, List.flatMap_append]
  simpa using hown
set_option maxHeartbeats 8000000 in
set_option maxRecDepth 100000 in
theorem conds_any (b : Nat) (c : RC) (s : RS) (w : World) (h : Rb w b c s) (hs : In s) (hE : Ev w b) : Calls Tryz.prog 133 #[.pointer (some ⟨b, 0, none⟩)] w (CondsR (cnds s).1 b c (cnds s).2 w) := by
  have hlt := h.lt
  have HD0 := Lib.hid (show cnds s = cndsF (s.left.length + 1) [] s from rfl)
  have HL0 := Lib.hid (show CdL w w b c (.slice none 0 0) [] s from ⟨World.ownsRow_nil _ _ _ _, h, hE, hs, only_refl _ _⟩)
  clear h hs hE
  go_enter Tryz.func133, Tryz.ntmps133
  go_wp2_with fail
  go_loopg [3, 4] (s.left.length + 1) (fun g v av wx => ∃ (l : List CondM) (s' : RS), av = .string ⟨(if l = [] then ifW else andW).toArray⟩ ∧ Hid (cnds s = cndsF g l s') ∧ Hid (s'.left.length < g) ∧ Hid (l.length ≤ 6 ∨ s'.left = []) ∧ Hid (CdL w wx b c v l s'))
  case atStart => exact ⟨[], s, rfl, HD0.out, Nat.lt_succ_self _, .inl (by simp), HL0.out⟩
  case round =>
    clear HD0 HL0
    obtain ⟨l, s', rfl, HD, HF, H6, HL⟩ := hrel
    cases gk with
    | zero => exact absurd HF.out (by omega)
    | succ g =>
      obtain ⟨A, cv, rfl, hcv, _⟩ := own_typed HL.out.own
      obtain ⟨x, hx⟩ : ∃ x, x = (if l = [] then ifW else andW) := ⟨_, rfl⟩
      have HX := Lib.hid hx
      rw [← hx]
      clear hx
      by_cases hk : (nx s').k = 0
      · have HDD := Lib.hid (show cnds s = (l, s') by rw [HD.out, cndsF, if_pos hk])
        have hen := Lib.hid (ended_yes b c s' _ HL.out.rb hk HL.out.inn.len)
        clear hk
        go_wp2_with fail
        refine hen.out.mono ?_
        rintro e w1 ⟨rfl, rfl⟩
        go_wp2_with fail
        go_ret
        exact conds_of (v := .slice A l.length cv) (L' := l) (s' := s') (by rw [HDD.out]) (by rw [HDD.out]) rfl HL.out.own HL.out.rb HL.out.gr
      · have HDD := Lib.hid (show cnds s = cndsF g (l ++ [roundV l s']) (roundS l s') by rw [HD.out, cndsF, if_neg hk])
        have hne := ended_left hk
        have hl6 : l.length ≤ 6 := by rcases H6.out with h | h; exact h; exact absurd h hne
        have HF2 := Lib.hid (show (roundS l s').left.length < g by have := round_lt l hne; have := HF.out; omega)
        have hen := Lib.hid (ended_no b c s' _ HL.out.rb hk HL.out.inn.len)
        have hwn := Lib.hid (want_any x b c s' _ HL.out.rb HL.out.inn.len)
        obtain ⟨n, hn⟩ : ∃ n, n = l.length := ⟨_, rfl⟩
        have HN := Lib.hid hn
        have HL := Lib.hid (show CdL w wr b c (.slice A n cv) l s' by rw [hn]; exact HL.out)
        rw [← hn] at hcv hl6 ⊢
        clear hk hne H6 HD HF hn
        go_wp2_with fail
        refine hen.out.mono ?_
        clear hen
        rintro e w1 ⟨rfl, rfl⟩
        go_wp2_with fail
        refine hwn.out.mono ?_
        clear hwn
        rintro e w2 ⟨rfl, hr2, hg2⟩
        obtain ⟨t, ht⟩ : ∃ t, t = nx s' := ⟨_, rfl⟩
        have HT := Lib.hid ht
        rw [← ht]
        unfold tkV
        have HL2 := Lib.hid ((HL.out.step hlt hr2 hg2 (wn_sub x s')).alloc (.cells #[.int .u8 t.k, .string ⟨t.t.toArray⟩, .int .u64 t.n, .int .i64 t.line, .int .i64 t.col] 182))
        have hcd := Lib.hid (cond_any b c (wnS x s') _ HL2.out.rb HL2.out.inn HL2.out.ev)
        have hsz2 : w.heap.size ≤ w2.heap.size := Nat.le_trans HL.out.gr.size hg2.size
        clear hr2 hg2 ht
        go_wp2_with fail
        refine hcd.out.mono ?_
        clear hcd
        rintro e w3 ⟨rfl, hr3, hg3⟩
        obtain ⟨y, hy⟩ : ∃ y, y = cndV (wnS x s') := ⟨_, rfl⟩
        have HY := Lib.hid hy
        rw [← hy]
        unfold cvV
        have HL3 := Lib.hid (HL2.out.step hlt hr3 hg3 (cnd_sub _))
        have htk := (Bk.new w2 182 #[.int .u8 t.k, .string ⟨t.t.toArray⟩, .int .u64 t.n, .int .i64 t.line, .int .i64 t.col] (l := [.int .u8 t.k, .string ⟨t.t.toArray⟩, .int .u64 t.n, .int .i64 t.line, .int .i64 t.col]) rfl).grown hg3 (by intro e; have := Option.some.inj e; omega)
        have HTK := Lib.hid htk
        clear hr3 hg3 hy htk
        obtain ⟨N, hNN⟩ : ∃ N, N = n + 1 := ⟨_, rfl⟩
        have HNN := Lib.hid hNN
        have hNle : N ≤ 10 := by omega
        clear hNN
        have HT2 := Lib.hid (show t = nx s' from HT.out)
        by_cases h6 : 6 < n + 1
        · have HRS := Lib.hid (show roundS l s' = fl (cndS (wnS x s')) t 205 by unfold roundS; rw [if_pos (by rw [← HN.out]; exact h6), HT.out, HX.out])
          have g6 : (6 : Int) < (N : Int) := by have := HNN.out; omega
          clear h6
          have HDE := Lib.hid (show cnds s = cndsF g (l ++ [y]) (fl (cndS (wnS x s')) t 205) by rw [HDD.out, HRS.out]; unfold roundV; rw [← HX.out, ← HY.out])
          have HFE := Lib.hid (show (fl (cndS (wnS x s')) t 205).left.length < g by rw [← HRS.out]; exact HF2.out)
          go_wp2_with (at_builtin; (refine append_one rfl (.tmp 12) (.tmp 15) 68 90 rfl _ 4 32 infoPC Tryz.underlying68 rfl (by decide) (by decide) w.heap.size _ n (l.flatMap CondM.cells) rfl (by have h := own_below HL3.out.own (oneb w3 (.cells #[.int .i64 y.arg, .int .u8 y.op, .int .u64 y.mask, .int .u64 y.val] 90)); rw [← HN.out] at h; exact h) w3.heap.size [.int .i64 y.arg, .int .u8 y.op, .int .u64 y.mask, .int .u64 y.val] rfl rfl (Bk.new w3 _ _ rfl) (by intro u hu; simp at hu; rcases hu with rfl | rfl | rfl | rfl <;> rfl) (by omega) (by simp; have := HL3.out.gr.size; omega) ?_); intro v1 wt hown1 hgrow hat; have HL4 := Lib.hid ((HL3.out.alloc (.cells #[.int .i64 y.arg, .int .u8 y.op, .int .u64 y.mask, .int .u64 y.val] 90)).put hlt y (by rw [← HN.out]; exact hown1) hgrow); have htk4 := ((HTK.out.alloc (.cells #[.int .i64 y.arg, .int .u8 y.op, .int .u64 y.mask, .int .u64 y.val] 90)).appended (v := .slice A n cv) (U := 90) hgrow (by have := (HL3.out.alloc (.cells #[.int .i64 y.arg, .int .u8 y.op, .int .u64 y.mask, .int .u64 y.val] 90)).own; rw [← HN.out] at this; obtain ⟨_, _, _, _, _, hty, _⟩ := own_typed this; exact hty) (by decide)); have r0 := htk4.cell 0 rfl; have r1 := htk4.cell 1 rfl; have r2 := htk4.cell 2 rfl; have r3 := htk4.cell 3 rfl; have r4 := htk4.cell 4 rfl; have rl := htk4.lt; obtain ⟨A7, c7, hv7, _⟩ := own_typed hown1; subst hv7; rw [← HNN.out]; clear hown1 hgrow hat htk4)
          refine (fail_any' b c (cndS (wnS x s')) t 205 _ HL4.out.rb).mono ?_
          rintro e w5 ⟨rfl, hr5, hg5⟩
          have HL5a := Lib.hid HL4.out.inn.bad
          have HL5 := Lib.hid (HL4.out.step hlt hr5 hg5 (fl_sub (Sub.refl _) _ _))
          clear hr5 hg5 r0 r1 r2 r3 r4 rl
          go_wp2_with fail
          go_roundg g
          case rel => exact ⟨l ++ [y], _, by rw [if_neg (by simp)]; rfl, HDE, HFE, .inr (fl_left HL5a.out _ _), by rw [HNN.out]; exact HL5.out⟩
          case measure => omega
        · have HRS := Lib.hid (show roundS l s' = cndS (wnS x s') by unfold roundS; rw [if_neg (by rw [← HN.out]; exact h6), HX.out])
          have g6 : ¬ (6 : Int) < (N : Int) := by have := HNN.out; omega
          have hn6 : n + 1 ≤ 6 := by omega
          clear h6
          have HDE := Lib.hid (show cnds s = cndsF g (l ++ [y]) (cndS (wnS x s')) by rw [HDD.out, HRS.out]; unfold roundV; rw [← HX.out, ← HY.out])
          have HFE := Lib.hid (show (cndS (wnS x s')).left.length < g by rw [← HRS.out]; exact HF2.out)
          have HN6 := Lib.hid (show (l ++ [y]).length ≤ 6 by simp; rw [← HN.out]; omega)
          go_wp2_with (at_builtin; (refine append_one rfl (.tmp 12) (.tmp 15) 68 90 rfl _ 4 32 infoPC Tryz.underlying68 rfl (by decide) (by decide) w.heap.size _ n (l.flatMap CondM.cells) rfl (by have h := own_below HL3.out.own (oneb w3 (.cells #[.int .i64 y.arg, .int .u8 y.op, .int .u64 y.mask, .int .u64 y.val] 90)); rw [← HN.out] at h; exact h) w3.heap.size [.int .i64 y.arg, .int .u8 y.op, .int .u64 y.mask, .int .u64 y.val] rfl rfl (Bk.new w3 _ _ rfl) (by intro u hu; simp at hu; rcases hu with rfl | rfl | rfl | rfl <;> rfl) (by omega) (by simp; have := HL3.out.gr.size; omega) ?_); intro v1 wt hown1 hgrow hat; have HL4 := Lib.hid ((HL3.out.alloc (.cells #[.int .i64 y.arg, .int .u8 y.op, .int .u64 y.mask, .int .u64 y.val] 90)).put hlt y (by rw [← HN.out]; exact hown1) hgrow); have htk4 := ((HTK.out.alloc (.cells #[.int .i64 y.arg, .int .u8 y.op, .int .u64 y.mask, .int .u64 y.val] 90)).appended (v := .slice A n cv) (U := 90) hgrow (by have := (HL3.out.alloc (.cells #[.int .i64 y.arg, .int .u8 y.op, .int .u64 y.mask, .int .u64 y.val] 90)).own; rw [← HN.out] at this; obtain ⟨_, _, _, _, _, hty, _⟩ := own_typed this; exact hty) (by decide)); have r0 := htk4.cell 0 rfl; have r1 := htk4.cell 1 rfl; have r2 := htk4.cell 2 rfl; have r3 := htk4.cell 3 rfl; have r4 := htk4.cell 4 rfl; have rl := htk4.lt; obtain ⟨A7, c7, hv7, _⟩ := own_typed hown1; subst hv7; rw [← HNN.out]; clear hown1 hgrow hat htk4)
          go_roundg g
          case rel => exact ⟨l ++ [y], _, by rw [if_neg (by simp)]; rfl, HDE, HFE, .inl HN6.out, by rw [HNN.out]; exact HL4.out⟩
          case measure => omega
end Go.Proofs.YtinofjbnfmalkaaGreatDoor.Pa
