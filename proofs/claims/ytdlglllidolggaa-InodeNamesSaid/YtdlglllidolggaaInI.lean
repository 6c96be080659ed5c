/- The way up from a directory: up, depth, Within. -/
import Derived.Test.YtdlglllidolggaaInH
import Derived.Deep.LoopGhost
import Derived.Deep.QuietTactic
import Derived.BigQuiet
namespace Go.Proofs.Ytdlglllidolggaa.In
open Go.RowKit Go.Maps Go.WideMaps
def u16s (l : List Nat) : List Value := l.map fun (x : Nat) => Value.int .u16 x
theorem infoNum : (Try.prog.info? 29).map (fun i => (i.zero, i.size, i.bytes)) = some (some (.int .u16 0), 1, 2) := by kernel_rfl
section
variable {w w' : World} {B tb A : Nat} {T : TrM} {nb mb : Nat → Nat}
theorem upO_len : ∀ {f n : Nat} {l : List Nat}, upO T f n = some l → l.length ≤ f
  | 0, _, _, h => by cases h
  | f + 1, n, l, h => by
    unfold upO at h
    split at h
    · cases h; simp
    · split at h
      · cases h; simp
      · obtain ⟨r, hr, rfl⟩ := Option.map_eq_some_iff.1 h
        have := upO_len hr
        simp; omega
/-- What up has put together: acc, from n on the rest. -/
inductive UpAt (T : TrM) (nb : Nat → Nat) (l : List Nat) (g : Nat) (acc : List Nat) (d e : Value) : Prop
  | going (n f : Nat) (r : List Nat) (hg : f < g) (hk : (T.nd n).kd = 2) (hr : upO T f n = some r) (hl : acc ++ r = l) (hd : d = tP (nb n)) (he : e = .int .i64 0)
  | done (q : Nat) (hq : q ≠ 0) (hg : 0 < g) (hl : acc = l) (he : e = .int .i64 q) (hd : d = .pointer none)
def UpP (w : World) (l : List Nat) (e : Ending) (w' : World) : Prop := ∃ v, e = .returned v ∧ w'.ownsRow w.heap.size 29 1 v l.length (u16s l) ∧ Below w.heap.size w w'
theorem dir_any (h : TabR w B tb T A nb mb) {n : Nat} (hn : n ≤ 65535) :
    Calls Try.prog 45 #[tP tb, .int .u16 n] w fun e w' => e = .returned (.tuple #[if (T.nd n).kd = 2 then tP (nb n) else .pointer none, .int .i64 (dirE T n)]) ∧ w = w' := by
  by_cases h0 : (T.nd n).kd = 0
  · have := dir_none h hn h0
    rw [show dirE T n = 2 from by unfold dirE; rw [if_pos h0], if_neg (by rw [h0]; decide)]; exact this
  · by_cases h2 : (T.nd n).kd = 2
    · have := dir_yes h h2
      rw [show dirE T n = 0 from by unfold dirE; rw [if_neg h0, if_pos h2], if_pos h2]; exact this
    · have := dir_no h h0 h2
      rw [show dirE T n = 20 from by unfold dirE; rw [if_neg h0, if_neg h2], if_neg h2]; exact this
theorem dirE_ne {n : Nat} (h : (T.nd n).kd ≠ 2) : dirE T n ≠ 0 := by
  unfold dirE
  split
  · decide
  · first | decide | (rw [if_neg h]; decide)
/-- What dir answers, of the way that is left. -/
theorem up_next {n f : Nat} {r acc l : List Nat} (hr : upO T f n = some r) (hl : acc ++ r = l) {g : Nat} (hg : f < g) : UpAt T nb l g acc (if (T.nd n).kd = 2 then tP (nb n) else .pointer none) (.int .i64 (dirE T n)) := by
  by_cases h2 : (T.nd n).kd = 2
  · rw [if_pos h2]
    exact .going n f r hg h2 hr hl rfl (by unfold dirE; rw [if_neg (by rw [h2]; decide), if_pos h2]; rfl)
  · rw [if_neg h2]
    refine .done (dirE T n) (dirE_ne h2) (by omega) ?_ rfl rfl
    cases f with
    | zero => cases hr
    | succ f =>
      unfold upO at hr
      rw [if_pos h2] at hr
      cases hr
      simpa using hl
theorem up_mid (h : TabR w B tb T A nb mb) {wx w1 : World} {v v1 : Value} {acc : List Nat} {n : Nat} (hk : (T.nd n).kd = 2) (HB : Below w.heap.size w wx) (HO : wx.ownsRow w.heap.size 29 1 v acc.length (u16s acc)) {o : Obj}
    (hown1 : w1.ownsRow w.heap.size 29 1 v1 (acc.length + 1) (u16s acc ++ [.int .u16 n])) (hg1 : (wx.alloc o).grownBy w1 v.ownBlock) :
    Hid (w1.ownsRow w.heap.size 29 1 v1 (acc ++ [n]).length (u16s (acc ++ [n]))) ∧ Hid (Below w.heap.size w w1) ∧ Hid (TabR w1 B tb T A nb mb) ∧ w1.cell? ⟨nb n, 0, none⟩ = some (.int .u16 n) ∧ w1.cell? ⟨nb n, 4, none⟩ = some (.int .u16 (T.nd n).par) := by
  have hb : Below w.heap.size w w1 := (HB.alloc HB.size o).grown hg1 (Nat.le_trans HB.size (by simp)) (fun k hk => (HO.lt k hk).1)
  have h1 := h.below hb
  have hk0 : (T.nd n).kd ≠ 0 := by rw [hk]; decide
  refine ⟨?_, hb, h1, nd0 h1 hk0, ndP h1 hk0⟩
  show w1.ownsRow w.heap.size 29 1 v1 (acc ++ [n]).length (u16s (acc ++ [n]))
  rw [List.length_append, show u16s (acc ++ [n]) = u16s acc ++ [.int .u16 n] from by simp [u16s]]
  exact hown1
set_option maxRecDepth 100000 in
set_option maxHeartbeats 2000000 in
theorem up_any (h : TabR w B tb T A nb mb) {n : Nat} (hn : n ≤ 65535) {f : Nat} {l : List Nat} (hl : upO T f n = some l) (hf : f ≤ 1000) :
    Calls Try.prog 49 #[tP tb, .int .u16 n] w (UpP w l) := by
  have hd := dir_any h hn
  have HU := Lib.hid (up_next (T := T) (nb := nb) (n := n) (f := f) (r := l) (acc := []) (l := l) hl rfl (Nat.lt_succ_self f))
  have Hlen := Lib.hid (upO_len hl)
  obtain ⟨d0, hd0⟩ : ∃ d0, d0 = (if (T.nd n).kd = 2 then tP (nb n) else .pointer none : Value) := ⟨_, rfl⟩
  obtain ⟨e0, he0⟩ : ∃ e0, e0 = dirE T n := ⟨_, rfl⟩
  rw [← hd0, ← he0] at hd
  rw [← hd0, ← he0] at HU
  clear hd0 he0
  go_enter Try.func49, Try.ntmps49
  go_wp2_with (refine hd.mono ?_; rintro e w' ⟨rfl, rfl⟩)
  clear hd
  go_loopg [5, 6, 7] (f + 1) (fun g v d e wx => ∃ acc : List Nat, Hid (UpAt T nb l g acc d e) ∧ Hid (wx.ownsRow w.heap.size 29 1 v acc.length (u16s acc)) ∧ Hid (Below w.heap.size w wx))
  case atStart => exact ⟨[], HU.out, World.ownsRow_nil _ _ _ _, Below.refl _ _⟩
  case round =>
    obtain ⟨acc, HA, HO, HB⟩ := hrel
    rcases HA.out with ⟨n0, f0, r, hg, hk, hr, hll, rfl, rfl⟩ | ⟨q, hq, hg, hll, rfl, rfl⟩
    · have hx := h.below HB.out
      have hk0 : (T.nd n0).kd ≠ 0 := by rw [hk]; decide
      have c0 := nd0 hx hk0
      have hac : acc.length ≤ 1000 := by have := Hlen.out; rw [← hll, List.length_append] at this; omega
      have Hr := Lib.hid hr
      have Hl := Lib.hid hll
      have Hk := Lib.hid hk
      have Hpar := Lib.hid (h.ls n0).par
      have Hx := Lib.hid hx
      clear hr hll hk HA hx
      obtain ⟨pp, hpp⟩ : ∃ pp, pp = (T.nd n0).par := ⟨_, rfl⟩
      rw [← hpp] at Hpar
      have Hpp := Lib.hid hpp
      clear hpp
      by_cases e : pp = n0
      · have Hfin := Lib.hid (show acc ++ [n0] = l from by
          have h2 := Hr.out
          cases f0 with
          | zero => cases h2
          | succ f0 =>
            unfold upO at h2
            rw [if_neg (by rw [Hk.out]; decide), if_pos (by rw [← Hpp.out]; exact e)] at h2
            cases h2
            exact Hl.out)
        have eb : ((pp : Int) == n0) = true := by simp [e]
        have He := Lib.hid e
        clear e
        go_wp2_with (at_builtin; refine append_one rfl (.tmp 25) (.tmp 30) 64 29 rfl _ 1 2 infoNum Try.underlying64 rfl (by decide) (by decide) w.heap.size _ acc.length (u16s acc) rfl (HO.out.alloc _) wr.heap.size [.int .u16 n0] rfl rfl (Bk.new wr _ _ rfl) (by intro u hu; simp at hu; subst hu; rfl) (by omega) (Nat.le_trans HB.out.size (by simp)) ?_; intro v1 w1 hown1 hg1 _; obtain ⟨HO1, HB1, HT1, p0, p4⟩ := up_mid h Hk.out HB.out HO.out hown1 hg1; rw [← Hpp.out] at p4; clear hown1 hg1 c0)
        go_quiet (fail)
        go_wp2
        go_ret
        refine ⟨_, rfl, ?_, below_drewN HB1.out _⟩
        rw [← Hfin.out]; exact HO1.out
      · have eb : ((pp : Int) == n0) = false := by simp; omega
        have He := Lib.hid e
        clear e
        go_wp2_with (at_builtin; refine append_one rfl (.tmp 25) (.tmp 30) 64 29 rfl _ 1 2 infoNum Try.underlying64 rfl (by decide) (by decide) w.heap.size _ acc.length (u16s acc) rfl (HO.out.alloc _) wr.heap.size [.int .u16 n0] rfl rfl (Bk.new wr _ _ rfl) (by intro u hu; simp at hu; subst hu; rfl) (by omega) (Nat.le_trans HB.out.size (by simp)) ?_; intro v1 w1 hown1 hg1 _; obtain ⟨HO1, HB1, HT1, p0, p4⟩ := up_mid h Hk.out HB.out HO.out hown1 hg1; rw [← Hpp.out] at p4; clear hown1 hg1 c0)
        obtain ⟨f1, r1, hf1, hr1, hl1⟩ : ∃ f1 r1, f1 < f0 ∧ upO T f1 pp = some r1 ∧ (acc ++ [n0]) ++ r1 = l := by
          have h2 := Hr.out
          cases f0 with
          | zero => cases h2
          | succ f0 =>
            unfold upO at h2
            rw [if_neg (by rw [Hk.out]; decide), if_neg (by rw [← Hpp.out]; exact He.out)] at h2
            obtain ⟨r1, hr1, rfl⟩ := Option.map_eq_some_iff.1 h2
            exact ⟨f0, r1, Nat.lt_succ_self _, by rw [Hpp.out]; exact hr1, by rw [← Hl.out]; simp⟩
        have HN := Lib.hid (up_next (T := T) (nb := nb) (acc := acc ++ [n0]) hr1 hl1 hf1)
        have Hg := Lib.hid hg
        clear hr1 hl1 hf1 hg
        have Hpar2 := Hpar.out
        have hd := fun k => dir_any (HT1.out.below (below_drewN (Below.refl _ w1) k)) (n := pp) Hpar2
        obtain ⟨d1, hd1⟩ : ∃ d1, d1 = (if (T.nd pp).kd = 2 then tP (nb pp) else .pointer none : Value) := ⟨_, rfl⟩
        obtain ⟨e1, he1⟩ : ∃ e1, e1 = dirE T pp := ⟨_, rfl⟩
        rw [← hd1, ← he1] at hd HN
        have HD := Lib.hid hd
        clear hd1 he1 hd
        go_quiet (fail)
        go_wp2_with fail
        refine (HD.out _).mono ?_
        rintro e w' ⟨rfl, rfl⟩
        go_wp2
        go_roundg f0
        case rel => exact ⟨acc ++ [n0], HN.out, HO1.out, below_drewN HB1.out _⟩
        case measure => exact Hg.out
    · have eq : ((q : Int) == 0) = false := by simp; omega
      have Hl := Lib.hid hll
      clear hll HA hq
      go_wp2
      go_ret
      exact ⟨_, rfl, by rw [← Hl.out]; exact HO.out, HB.out⟩
end
end Go.Proofs.Ytdlglllidolggaa.In
