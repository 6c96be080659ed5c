/- JumpErrors: parts that can't be; nil builders; too many. -/
import Derived.Test.YtjgackejkkglcaaJuZ
import Derived.Deep.RegionWith
import Derived.BigCall
namespace Go.Proofs.Ytjgackejkkglcaa.Ju
open Go.RowKit Go.Maps Go.WideMaps Go.WideElems Go.ChangeMaps
/-- The part that returns 1. -/
def pR : PtM := ⟨2, 0, 0, ⟨6, 0, 0, 1⟩⟩
theorem pR_ok : pR.ok := ⟨by decide, by decide, by decide, by decide, by decide, ⟨by decide, by decide, by decide, by decide⟩⟩
theorem make_r : makeF [pR] = (0, ⟨[⟨6, 0, 0, 1⟩], []⟩) := by rfl
theorem stepF_ok {p : PtM} {c : CdM} (h : (layF p c).1 ≠ 0 ∨ (layF p c).2.ins.length ≤ 4096) : stepF p (0, c) = layF p c := by
  have e : stepF p (0, c) = if (layF p c).1 ≠ 0 then layF p c else if 4096 < (layF p c).2.ins.length then (205, (layF p c).2) else layF p c := by unfold stepF; rw [if_neg (by simp)]
  rw [e]
  by_cases h1 : (layF p c).1 ≠ 0
  · rw [if_pos h1]
  · rw [if_neg h1, if_neg (by rcases h with h | h; exact absurd h h1; omega)]
theorem err_a (i : Ins) : (makeF [⟨2, 0, 0, i⟩, pR]).1 = if i.c % 8 = 5 then 210 else 0 := by
  rw [makeF_cons, make_r, stepF_ok (by right; exact Nat.le_trans (lay_len _ _) (by simp))]
  unfold layF
  simp only [Nat.reduceEqDiff, if_false, if_true]
  split <;> rfl
def kindE (k : Nat) : Nat := if k = 1 ∨ k = 2 then 0 else if k = 4 then 207 else 210
theorem err_b (k : Nat) : (makeF [⟨k, 0, 0, ⟨0, 0, 0, 0⟩⟩, pR]).1 = kindE k := by
  rw [makeF_cons, make_r, stepF_ok (by right; exact Nat.le_trans (lay_len _ _) (by simp))]
  unfold layF kindE
  by_cases h1 : k = 1
  · subst h1; rfl
  · by_cases h2 : k = 2
    · subst h2; rfl
    · by_cases h3 : k = 3
      · subst h3; rfl
      · by_cases h4 : k = 4
        · subst h4; rfl
        · simp [h1, h2, h3, h4]
theorem err_c (t : Int) : (makeF [⟨1, t, 0, ⟨0, 0, 0, 0⟩⟩, ⟨1, t, 0, ⟨0, 0, 0, 0⟩⟩, pR]).1 = 206 := by
  have e : makeF [⟨1, t, 0, ⟨0, 0, 0, 0⟩⟩, pR] = (0, ⟨[⟨6, 0, 0, 1⟩], [(t, 1)]⟩) := by
    rw [makeF_cons, make_r, stepF_ok (by right; exact Nat.le_trans (lay_len _ _) (by simp))]; rfl
  rw [makeF_cons, e, stepF_ok (by right; exact Nat.le_trans (lay_len _ _) (by simp))]
  unfold layF
  simp only [if_true, lk_cons]
theorem err_d (t : Int) : (makeF [⟨1, t, 0, ⟨0, 0, 0, 0⟩⟩, ⟨4, t, 0, ⟨0, 0, 0, 0⟩⟩, pR]).1 = 207 := by
  have e : makeF [⟨4, t, 0, ⟨0, 0, 0, 0⟩⟩, pR] = (207, ⟨[⟨6, 0, 0, 1⟩], []⟩) := by
    rw [makeF_cons, make_r, stepF_ok (by right; exact Nat.le_trans (lay_len _ _) (by simp))]; rfl
  rw [makeF_cons, e]; rfl
theorem err_e : (makeF [⟨3, 1, 2, ⟨21, 0, 0, 0⟩⟩, ⟨1, 1, 0, ⟨0, 0, 0, 0⟩⟩, pR]).1 = 207 := by rfl
theorem err_f : (makeF [⟨3, 1, 1, ⟨5, 0, 0, 0⟩⟩, ⟨1, 1, 0, ⟨0, 0, 0, 0⟩⟩, pR]).1 = 210 := by rfl
theorem rep_make : ∀ n : Nat, (n ≤ 4096 → makeF (List.replicate n pR) = (0, ⟨List.replicate n ⟨6, 0, 0, 1⟩, []⟩)) ∧ (4096 < n → (makeF (List.replicate n pR)).1 = 205)
  | 0 => ⟨fun _ => rfl, fun h => by omega⟩
  | n + 1 => by
    obtain ⟨h1, h2⟩ := rep_make n
    have hl : ∀ c : CdM, layF pR c = (0, ⟨⟨6, 0, 0, 1⟩ :: c.ins, c.bh⟩) := fun c => rfl
    refine ⟨fun h => ?_, fun h => ?_⟩
    · rw [List.replicate_succ, makeF_cons, h1 (by omega)]
      unfold stepF
      rw [if_neg (by simp), hl, if_neg (by simp), if_neg (by simp; omega), List.replicate_succ]
    · rw [List.replicate_succ, makeF_cons]
      by_cases hn : n ≤ 4096
      · rw [h1 hn]
        unfold stepF
        rw [if_neg (by simp), hl, if_neg (by simp), if_pos (by simp; omega)]
      · have := h2 (by omega)
        unfold stepF
        rw [if_pos (by rw [this]; decide)]
        exact this
/-- A row of the call's own whose first k are that part. -/
structure RP (w wr : World) (g n k : Nat) (R : List Value) : Prop where
  own : wr.ownsRow w.heap.size 57 7 (.slice (some ⟨g, 0, none⟩) n n) n ((List.replicate k pR).flatMap PtM.cells ++ R)
  bel : Below w.heap.size w wr
theorem RP.len {w wr : World} {g n k : Nat} {R : List Value} (h : RP w wr g n k R) : k * 7 + R.length = n * 7 := by
  have := h.own.1
  rw [List.length_append, flatz_len PtM.cells 7 (fun _ => rfl), List.length_replicate] at this
  exact this
theorem RP.step {w wr : World} {g n k : Nat} {R : List Value} (h : RP w wr g n k R) (hk : k < n) : ∃ v0 v1 v2 v3 v4 v5 v6 R', (wr.cell? ⟨g, k * 7, none⟩ = some v0 ∧ wr.cell? ⟨g, k * 7 + 1, none⟩ = some v1 ∧ wr.cell? ⟨g, k * 7 + 2, none⟩ = some v2 ∧ wr.cell? ⟨g, k * 7 + 3, none⟩ = some v3 ∧ wr.cell? ⟨g, k * 7 + 4, none⟩ = some v4 ∧ wr.cell? ⟨g, k * 7 + 5, none⟩ = some v5 ∧ wr.cell? ⟨g, k * 7 + 6, none⟩ = some v6) ∧
    RP w (((((((wr.setCell ⟨g, k * 7, none⟩ (.int .u8 2)).setCell ⟨g, k * 7 + 1, none⟩ (.int .i64 0)).setCell ⟨g, k * 7 + 2, none⟩ (.int .i64 0)).setCell ⟨g, k * 7 + 3, none⟩ (.int .u16 6)).setCell ⟨g, k * 7 + 4, none⟩ (.int .u8 0)).setCell ⟨g, k * 7 + 5, none⟩ (.int .u8 0)).setCell ⟨g, k * 7 + 6, none⟩ (.int .u32 1)) g n (k + 1) R' := by
  have hl := h.len
  obtain ⟨v0, v1, v2, v3, v4, v5, v6, R', rfl⟩ : ∃ v0 v1 v2 v3 v4 v5 v6 R', R = v0 :: v1 :: v2 :: v3 :: v4 :: v5 :: v6 :: R' := by
    match R, hl with
    | [], hl => simp at hl; omega
    | [_], hl => simp at hl; omega
    | [_, _], hl => simp at hl; omega
    | [_, _, _], hl => simp at hl; omega
    | [_, _, _, _], hl => simp at hl; omega
    | [_, _, _, _, _], hl => simp at hl; omega
    | [_, _, _, _, _, _], hl => simp at hl; omega
    | v0 :: v1 :: v2 :: v3 :: v4 :: v5 :: v6 :: R', _ => exact ⟨v0, v1, v2, v3, v4, v5, v6, R', rfl⟩
  have hcl : ((List.replicate k pR).flatMap PtM.cells).length = k * 7 := by rw [flatz_len PtM.cells 7 (fun _ => rfl), List.length_replicate]
  have hat : ∀ j v, (v0 :: v1 :: v2 :: v3 :: v4 :: v5 :: v6 :: R')[j]? = some v → wr.cell? ⟨g, k * 7 + j, none⟩ = some v := fun j v hv => by
    rw [h.own.cellAt _ (by have := (List.getElem?_eq_some_iff.1 hv).1; simp at this hl; omega), List.getElem?_append_right (by omega), hcl, Nat.add_sub_cancel_left]; exact hv
  refine ⟨v0, v1, v2, v3, v4, v5, v6, R', ⟨hat 0 v0 rfl, hat 1 v1 rfl, hat 2 v2 rfl, hat 3 v3 rfl, hat 4 v4 rfl, hat 5 v5 rfl, hat 6 v6 rfl⟩, ?_⟩
  have s1 := h.own.stored (k * 7) (.int .u8 2)
  have s2 := s1.1.stored (k * 7 + 1) (.int .i64 0)
  have s3 := s2.1.stored (k * 7 + 2) (.int .i64 0)
  have s4 := s3.1.stored (k * 7 + 3) (.int .u16 6)
  have s5 := s4.1.stored (k * 7 + 4) (.int .u8 0)
  have s6 := s5.1.stored (k * 7 + 5) (.int .u8 0)
  have s7 := s6.1.stored (k * 7 + 6) (.int .u32 1)
  have hg := (h.own.lt g rfl).1
  refine ⟨?_, only_below h.bel (only_trans (only_trans (only_trans (only_trans (only_trans (only_trans s1.2 s2.2) s3.2) s4.2) s5.2) s6.2) s7.2) h.bel.size hg⟩
  have e : ((((((((List.replicate k pR).flatMap PtM.cells ++ v0 :: v1 :: v2 :: v3 :: v4 :: v5 :: v6 :: R').set (k * 7) (.int .u8 2)).set (k * 7 + 1) (.int .i64 0)).set (k * 7 + 2) (.int .i64 0)).set (k * 7 + 3) (.int .u16 6)).set (k * 7 + 4) (.int .u8 0)).set (k * 7 + 5) (.int .u8 0)).set (k * 7 + 6) (.int .u32 1) = (List.replicate (k + 1) pR).flatMap PtM.cells ++ R' := by
    rw [List.set_append_right _ _ (by omega), List.set_append_right _ _ (by omega), List.set_append_right _ _ (by omega), List.set_append_right _ _ (by omega), List.set_append_right _ _ (by omega), List.set_append_right _ _ (by omega), List.set_append_right _ _ (by omega), hcl, List.replicate_succ', List.flatMap_append]
    simp [PtM.cells, pR]
  have s := s7.1
  rw [← e]; exact s
set_option maxRecDepth 100000 in
theorem lawRef_any (i : Ins) (w : World) (hi : i.ok) : Calls Try.prog 26 #[.agg #[.int .u16 i.c, .int .u8 i.t, .int .u8 i.f, .int .u32 i.k]] w fun e w' => e = .returned (.agg #[.int .i64 i.c, .int .i64 i.t, .int .i64 i.f, .int .u32 i.k]) ∧ Below w.heap.size w w' := by
  obtain ⟨h1, h2, h3, h4⟩ := hi
  obtain ⟨c, t, f, k⟩ := i
  dsimp only at *
  go_enter Try.func26, Try.ntmps26
  go_wp2_with fail
  exact bodyPost_ret (v := .agg #[.int .i64 c, .int .i64 t, .int .i64 f, .int .u32 k]) (by simp [results, Try.results26, go_sem]) rfl ⟨rfl, two_below _ _ _⟩
theorem fld1 (a b c d : Int) (W : World) : (Instr.field 70 (.agg #[.int .i64 a, .int .i64 b, .int .i64 c, .int .u32 d]) 3).run Try.prog W = .ok (.int .u32 d) W := by
  kernel_rfl
/-- What Make tells of parts that lie in a block of their own. -/
def ErrIs (en : Nat) (w : World) (e : Ending) (w' : World) : Prop := (∃ A n c, e = .returned (.tuple #[.slice A n c, .int .i64 en])) ∧ Below w.heap.size w w'
theorem make_errR {l : List PtM} {n cap : Nat} {A : Option Addr} {w : World} {en : Nat} (hl : l.length = n) (hn : n ≤ 65536) (hok : ∀ q ∈ l, q.ok) (hb : Rd w 7 n A (l.flatMap PtM.cells)) (he : (makeF l).1 = en) :
    Calls Try.prog 11 #[.slice A n cap] w (ErrIs en w) :=
  (make_any l n _ cap w hl hn hok hb).mono fun e w' ⟨h1, h2, h3⟩ => by
    refine ⟨?_, h1⟩
    by_cases h0 : (makeF l).1 = 0
    · obtain ⟨v, ho, rfl⟩ := h2 h0
      obtain ⟨A, c, rfl, _⟩ := own_typed ho
      exact ⟨A, _, c, by rw [← he, h0]; rfl⟩
    · exact ⟨none, 0, 0, by rw [h3 h0, he]⟩
theorem make_err {l : List PtM} {n g : Nat} {w : World} {en : Nat} (hl : l.length = n) (hn : n ≤ 65536) (hok : ∀ q ∈ l, q.ok) (hb : Bk w g 57 (l.flatMap PtM.cells)) (he : (makeF l).1 = en) :
    Calls Try.prog 11 #[.slice (some ⟨g, 0, none⟩) n n] w (ErrIs en w) :=
  make_errR hl hn hok (bk_rd hb (by rw [flatz_len PtM.cells 7 (fun _ => rfl), hl])) he
theorem kd_ok {k : Nat} (hk : k < 256) {t el : Int} (ht : InR t) (he : InR el) {i : Ins} (hi : i.ok) : PtM.ok ⟨k, t, el, i⟩ := ⟨hk, ht.1, ht.2, he.1, he.2, hi⟩
theorem z_ok : Ins.ok ⟨0, 0, 0, 0⟩ := ⟨by decide, by decide, by decide, by decide⟩
theorem r0 : InR 0 := ⟨by decide, by decide⟩
theorem ins_ok (i : Ins) (hi : i.ok) : ∀ q ∈ [(⟨2, 0, 0, i⟩ : PtM), pR], q.ok := fun q hq => by
  simp only [List.mem_cons, List.not_mem_nil, or_false] at hq
  rcases hq with rfl | rfl
  · exact kd_ok (by decide) r0 r0 hi
  · exact pR_ok
theorem two_all {Q : PtM → Prop} {a b : PtM} (ha : Q a) (hb : Q b) : ∀ x ∈ [a, b], Q x := fun x hx => by
  simp only [List.mem_cons, List.not_mem_nil, or_false] at hx
  rcases hx with rfl | rfl
  · exact ha
  · exact hb
theorem three_all {Q : PtM → Prop} {a b c : PtM} (ha : Q a) (hb : Q b) (hc : Q c) : ∀ x ∈ [a, b, c], Q x := fun x hx => by
  simp only [List.mem_cons, List.not_mem_nil, or_false] at hx
  rcases hx with rfl | rfl | rfl
  · exact ha
  · exact hb
  · exact hc
set_option maxHeartbeats 16000000 in
set_option maxRecDepth 100000 in
theorem walk_jumpErrors (i : Ins) (k n0 : Nat) (tt : Int) (w : World) (hi : i.ok) (hk : k < 256) (hn0 : n0 < 256) (hto : InR tt) :
    Calls Try.prog 6 #[.agg #[.int .u16 i.c, .int .u8 i.t, .int .u8 i.f, .int .u32 i.k], .int .u8 k, .int .u8 n0, .int .i64 tt] w (RetB true w) := by
  obtain ⟨i0, hi0, hz0, hz1, hz2⟩ := info_parts infoPart
  have hbx := Bk.new w 53 #[.int .u16 i.c, .int .u8 i.t, .int .u8 i.f, .int .u32 i.k] (l := i.cells) rfl
  have hb := oneb w (.cells #[.int .u16 i.c, .int .u8 i.t, .int .u8 i.f, .int .u32 i.k] 53)
  have HMa := Lib.hid (fun W => make_err (l := [(⟨2, 0, 0, i⟩ : PtM), pR]) (n := 2) (w := W.alloc (.cells #[.int .u8 2, .int .i64 0, .int .i64 0, .int .u16 i.c, .int .u8 i.t, .int .u8 i.f, .int .u32 i.k, .int .u8 2, .int .i64 0, .int .i64 0, .int .u16 6, .int .u8 0, .int .u8 0, .int .u32 1] 57)) rfl (by omega) (ins_ok i hi) (Bk.new W _ _ rfl) (err_a i))
  have HMb := Lib.hid (fun W => make_err (l := [(⟨k, 0, 0, ⟨0, 0, 0, 0⟩⟩ : PtM), pR]) (n := 2) (w := W.alloc (.cells #[.int .u8 k, .int .i64 0, .int .i64 0, .int .u16 0, .int .u8 0, .int .u8 0, .int .u32 0, .int .u8 2, .int .i64 0, .int .i64 0, .int .u16 6, .int .u8 0, .int .u8 0, .int .u32 1] 57)) rfl (by omega) (two_all (kd_ok hk r0 r0 z_ok) pR_ok) (Bk.new W _ _ rfl) (err_b k))
  have HMc := Lib.hid (fun W => make_err (l := [(⟨1, tt, 0, ⟨0, 0, 0, 0⟩⟩ : PtM), (⟨1, tt, 0, ⟨0, 0, 0, 0⟩⟩ : PtM), pR]) (n := 3) (w := W.alloc (.cells #[.int .u8 1, .int .i64 tt, .int .i64 0, .int .u16 0, .int .u8 0, .int .u8 0, .int .u32 0, .int .u8 1, .int .i64 tt, .int .i64 0, .int .u16 0, .int .u8 0, .int .u8 0, .int .u32 0, .int .u8 2, .int .i64 0, .int .i64 0, .int .u16 6, .int .u8 0, .int .u8 0, .int .u32 1] 57)) rfl (by omega) (three_all (kd_ok (by decide) hto r0 z_ok) (kd_ok (by decide) hto r0 z_ok) pR_ok) (Bk.new W _ _ rfl) (err_c tt))
  have HMd := Lib.hid (fun W => make_err (l := [(⟨1, tt, 0, ⟨0, 0, 0, 0⟩⟩ : PtM), (⟨4, tt, 0, ⟨0, 0, 0, 0⟩⟩ : PtM), pR]) (n := 3) (w := W.alloc (.cells #[.int .u8 1, .int .i64 tt, .int .i64 0, .int .u16 0, .int .u8 0, .int .u8 0, .int .u32 0, .int .u8 4, .int .i64 tt, .int .i64 0, .int .u16 0, .int .u8 0, .int .u8 0, .int .u32 0, .int .u8 2, .int .i64 0, .int .i64 0, .int .u16 6, .int .u8 0, .int .u8 0, .int .u32 1] 57)) rfl (by omega) (three_all (kd_ok (by decide) hto r0 z_ok) (kd_ok (by decide) hto r0 z_ok) pR_ok) (Bk.new W _ _ rfl) (err_d tt))
  have HMe := Lib.hid (fun W => make_err (l := [(⟨3, 1, 2, ⟨21, 0, 0, 0⟩⟩ : PtM), (⟨1, 1, 0, ⟨0, 0, 0, 0⟩⟩ : PtM), pR]) (n := 3) (w := W.alloc (.cells #[.int .u8 3, .int .i64 1, .int .i64 2, .int .u16 21, .int .u8 0, .int .u8 0, .int .u32 0, .int .u8 1, .int .i64 1, .int .i64 0, .int .u16 0, .int .u8 0, .int .u8 0, .int .u32 0, .int .u8 2, .int .i64 0, .int .i64 0, .int .u16 6, .int .u8 0, .int .u8 0, .int .u32 1] 57)) rfl (by omega) (three_all (kd_ok (by decide) ⟨by decide, by decide⟩ ⟨by decide, by decide⟩ ⟨by decide, by decide, by decide, by decide⟩) (kd_ok (by decide) ⟨by decide, by decide⟩ r0 z_ok) pR_ok) (Bk.new W _ _ rfl) (err_e))
  have HMf := Lib.hid (fun W => make_err (l := [(⟨3, 1, 1, ⟨5, 0, 0, 0⟩⟩ : PtM), (⟨1, 1, 0, ⟨0, 0, 0, 0⟩⟩ : PtM), pR]) (n := 3) (w := W.alloc (.cells #[.int .u8 3, .int .i64 1, .int .i64 1, .int .u16 5, .int .u8 0, .int .u8 0, .int .u32 0, .int .u8 1, .int .i64 1, .int .i64 0, .int .u16 0, .int .u8 0, .int .u8 0, .int .u32 0, .int .u8 2, .int .i64 0, .int .i64 0, .int .u16 6, .int .u8 0, .int .u8 0, .int .u32 1] 57)) rfl (by omega) (three_all (kd_ok (by decide) ⟨by decide, by decide⟩ ⟨by decide, by decide⟩ ⟨by decide, by decide, by decide, by decide⟩) (kd_ok (by decide) ⟨by decide, by decide⟩ r0 z_ok) pR_ok) (Bk.new W _ _ rfl) (err_f))
  have HCl := Lib.hid (fun W => class_any i.c W hi.1)
  have HRef := Lib.hid (fun W => lawRef_any i W hi)
  obtain ⟨ea, hea⟩ : ∃ ea, ea = if i.c % 8 = 5 then 210 else 0 := ⟨_, rfl⟩
  obtain ⟨eb, heb⟩ : ∃ eb, eb = kindE k := ⟨_, rfl⟩
  rw [← hea] at HMa
  rw [← heb] at HMb
  obtain ⟨z5, hz5⟩ : ∃ z5, z5 = i.c % 8 := ⟨_, rfl⟩
  rw [← hz5] at HCl
  obtain ⟨z, hz⟩ : ∃ z, z = n0 % 12 := ⟨_, rfl⟩
  obtain ⟨n, hn⟩ : ∃ n, n = 4090 + z := ⟨_, rfl⟩
  have ez : (n0 : Int) % 12 = z := by omega
  have en : (4090 : Int) + (z : Int) = n := by omega
  have hz12 : z < 12 := by omega
  have hnl : 4090 ≤ n ∧ n < 4102 := by omega
  have HEA := Lib.hid (show ea = if z5 = 5 then 210 else 0 by rw [hea, hz5])
  have HEB := Lib.hid heb
  clear hea heb hz5 hz hn
  go_enter Try.func6, Try.ntmps6
  go_upto_region 1 with fail
  generalize w.alloc _ = w1 at hbx hb ⊢
  have HB := Lib.hid hb
  generalize hxb : w.heap.size = xb at hbx ⊢
  have HXB := Lib.hid hxb
  have HI := Lib.hid hbx
  clear hbx hb hxb
  go_wp2_with fail
  refine (awake_any _).mono ?_
  rintro e w2 ⟨rfl, hb2⟩
  have HB := Lib.hid (HB.out.trans (hb2.mono HB.out.size))
  have HI := Lib.hid (HI.out.kept hb2)
  clear hb2
  go_wp2_with fail
  refine (return_of 1 _).mono ?_
  rintro e w3 ⟨rfl, hb3⟩
  have HB := Lib.hid (HB.out.trans (hb3.mono HB.out.size))
  have hi3 := HI.out.kept hb3
  have y0 := hi3.cell 0 rfl
  have y1 := hi3.cell 1 rfl
  have y2 := hi3.cell 2 rfl
  have y3 := hi3.cell 3 rfl
  have yl := hi3.lt
  have HI := Lib.hid hi3
  clear hb3 hi3
  go_upto_region 4 with fail
  have hr := Bk.new w3 57 #[.int .u8 2, .int .i64 0, .int .i64 0, .int .u16 6, .int .u8 0, .int .u8 0, .int .u32 1] (l := [.int .u8 2, .int .i64 0, .int .i64 0, .int .u16 6, .int .u8 0, .int .u8 0, .int .u32 1]) rfl
  have hb4 := oneb w3 (.cells #[.int .u8 2, .int .i64 0, .int .i64 0, .int .u16 6, .int .u8 0, .int .u8 0, .int .u32 1] 57)
  generalize World.alloc w3 _ = w4 at hr hb4 ⊢
  generalize w3.heap.size = rb at hr ⊢
  clear y0 y1 y2 y3 yl
  have HB := Lib.hid (HB.out.trans (hb4.mono HB.out.size))
  have hi4 := HI.out.kept hb4
  have y0 := hi4.cell 0 rfl
  have y1 := hi4.cell 1 rfl
  have y2 := hi4.cell 2 rfl
  have y3 := hi4.cell 3 rfl
  have yl := hi4.lt
  have x0 := hr.cell 0 rfl
  have x1 := hr.cell 1 rfl
  have x2 := hr.cell 2 rfl
  have x3 := hr.cell 3 rfl
  have x4 := hr.cell 4 rfl
  have x5 := hr.cell 5 rfl
  have x6 := hr.cell 6 rfl
  have xl := hr.lt
  have HI := Lib.hid hi4
  have HR := Lib.hid hr
  clear hr hb4 hi4
  go_wp2_with fail
  refine (HMa.out _).mono ?_
  clear y0 y1 y2 y3 yl x0 x1 x2 x3 x4 x5 x6 xl
  rintro e w5 ⟨⟨_, _, _, rfl⟩, hbn⟩
  have hbn := (oneb _ _).trans (hbn.mono (oneb _ _).size)
  have HB := Lib.hid (HB.out.trans (hbn.mono HB.out.size))
  have hi4 := HI.out.kept hbn
  have hr := HR.out.kept hbn
  have y0 := hi4.cell 0 rfl
  have y1 := hi4.cell 1 rfl
  have y2 := hi4.cell 2 rfl
  have y3 := hi4.cell 3 rfl
  have yl := hi4.lt
  have x0 := hr.cell 0 rfl
  have x1 := hr.cell 1 rfl
  have x2 := hr.cell 2 rfl
  have x3 := hr.cell 3 rfl
  have x4 := hr.cell 4 rfl
  have x5 := hr.cell 5 rfl
  have x6 := hr.cell 6 rfl
  have xl := hr.lt
  have HI := Lib.hid hi4
  have HR := Lib.hid hr
  clear hbn hi4 hr
  go_wp2_with fail
  refine (HCl.out _).mono ?_
  rintro e w6 ⟨rfl, rfl⟩
  go_wp2_with fail
  refine (HMb.out _).mono ?_
  clear y0 y1 y2 y3 yl x0 x1 x2 x3 x4 x5 x6 xl
  rintro e w7 ⟨⟨_, _, _, rfl⟩, hbn⟩
  have hbn := (oneb _ _).trans (hbn.mono (oneb _ _).size)
  have HB := Lib.hid (HB.out.trans (hbn.mono HB.out.size))
  have hi4 := HI.out.kept hbn
  have hr := HR.out.kept hbn
  have y0 := hi4.cell 0 rfl
  have y1 := hi4.cell 1 rfl
  have y2 := hi4.cell 2 rfl
  have y3 := hi4.cell 3 rfl
  have yl := hi4.lt
  have x0 := hr.cell 0 rfl
  have x1 := hr.cell 1 rfl
  have x2 := hr.cell 2 rfl
  have x3 := hr.cell 3 rfl
  have x4 := hr.cell 4 rfl
  have x5 := hr.cell 5 rfl
  have x6 := hr.cell 6 rfl
  have xl := hr.lt
  have HI := Lib.hid hi4
  have HR := Lib.hid hr
  clear hbn hi4 hr
  go_upto_block 0 with fail
  go_cut [15] from 54 to 59 (fun s15 wx => s15 = .int .i64 eb ∧ wx = w7)
  case first =>
    by_cases h1 : k = 1
    · have e1 : ((k : Int) == 1) = true := by rw [h1]; rfl
      have HV := Lib.hid (show eb = 0 by rw [HEB.out]; unfold kindE; rw [if_pos (Or.inl h1)])
      clear h1
      go_wp2_with fail
      go_meet
      case rel => exact ⟨by rw [HV.out]; rfl, rfl⟩
    have e1 : ((k : Int) == 1) = false := by rw [beq_eq_false_iff_ne]; omega
    by_cases h2 : k = 2
    · have e2 : ((k : Int) == 2) = true := by rw [h2]; rfl
      have HV := Lib.hid (show eb = 0 by rw [HEB.out]; unfold kindE; rw [if_pos (Or.inr h2)])
      clear h1 h2
      go_wp2_with fail
      go_meet
      case rel => exact ⟨by rw [HV.out]; rfl, rfl⟩
    have e2 : ((k : Int) == 2) = false := by rw [beq_eq_false_iff_ne]; omega
    by_cases h4 : k = 4
    · have e4 : ((k : Int) == 4) = true := by rw [h4]; rfl
      have HV := Lib.hid (show eb = 207 by rw [HEB.out]; unfold kindE; rw [if_neg (by omega), if_pos h4])
      clear h1 h2 h4
      go_wp2_with fail
      go_meet
      case rel => exact ⟨by rw [HV.out]; rfl, rfl⟩
    have e4 : ((k : Int) == 4) = false := by rw [beq_eq_false_iff_ne]; omega
    have HV := Lib.hid (show eb = 210 by rw [HEB.out]; unfold kindE; rw [if_neg (by omega), if_neg h4])
    clear h1 h2 h4
    go_wp2_with fail
    go_meet
    case rel => exact ⟨by rw [HV.out]; rfl, rfl⟩
  case rest =>
    obtain ⟨rfl, hwc⟩ := hcut
    rw [hwc]
    clear hwc
    go_wp2_with fail
    refine (HMc.out _).mono ?_
    clear y0 y1 y2 y3 yl x0 x1 x2 x3 x4 x5 x6 xl
    rintro e w8 ⟨⟨_, _, _, rfl⟩, hbn⟩
    have hbn := (oneb _ _).trans (hbn.mono (oneb _ _).size)
    have HB := Lib.hid (HB.out.trans (hbn.mono HB.out.size))
    have hi4 := HI.out.kept hbn
    have hr := HR.out.kept hbn
    have y0 := hi4.cell 0 rfl
    have y1 := hi4.cell 1 rfl
    have y2 := hi4.cell 2 rfl
    have y3 := hi4.cell 3 rfl
    have yl := hi4.lt
    have x0 := hr.cell 0 rfl
    have x1 := hr.cell 1 rfl
    have x2 := hr.cell 2 rfl
    have x3 := hr.cell 3 rfl
    have x4 := hr.cell 4 rfl
    have x5 := hr.cell 5 rfl
    have x6 := hr.cell 6 rfl
    have xl := hr.lt
    have HI := Lib.hid hi4
    have HR := Lib.hid hr
    clear hbn hi4 hr
    go_wp2_with fail
    refine (HMd.out _).mono ?_
    clear y0 y1 y2 y3 yl x0 x1 x2 x3 x4 x5 x6 xl
    rintro e w9 ⟨⟨_, _, _, rfl⟩, hbn⟩
    have hbn := (oneb _ _).trans (hbn.mono (oneb _ _).size)
    have HB := Lib.hid (HB.out.trans (hbn.mono HB.out.size))
    have hi4 := HI.out.kept hbn
    have hr := HR.out.kept hbn
    have y0 := hi4.cell 0 rfl
    have y1 := hi4.cell 1 rfl
    have y2 := hi4.cell 2 rfl
    have y3 := hi4.cell 3 rfl
    have yl := hi4.lt
    have x0 := hr.cell 0 rfl
    have x1 := hr.cell 1 rfl
    have x2 := hr.cell 2 rfl
    have x3 := hr.cell 3 rfl
    have x4 := hr.cell 4 rfl
    have x5 := hr.cell 5 rfl
    have x6 := hr.cell 6 rfl
    have xl := hr.lt
    have HI := Lib.hid hi4
    have HR := Lib.hid hr
    clear hbn hi4 hr
    go_upto_region 16 with fail
    clear y0 y1 y2 y3 yl x0 x1 x2 x3 x4 x5 x6 xl
    have HmkS : Hid (∀ W, Below w9.heap.size w9 W → (fun W => W.cell? ⟨rb, 0, none⟩ = some (.int .u8 2) ∧ W.cell? ⟨rb, 1, none⟩ = some (.int .i64 0) ∧ W.cell? ⟨rb, 2, none⟩ = some (.int .i64 0) ∧ W.cell? ⟨rb, 3, none⟩ = some (.int .u16 6) ∧ W.cell? ⟨rb, 4, none⟩ = some (.int .u8 0) ∧ W.cell? ⟨rb, 5, none⟩ = some (.int .u8 0) ∧ W.cell? ⟨rb, 6, none⟩ = some (.int .u32 1) ∧ rb < W.heap.size) W) := Lib.hid (fun W h => by
      have r := HR.out.kept h
      exact ⟨r.cell 0 rfl, r.cell 1 rfl, r.cell 2 rfl, r.cell 3 rfl, r.cell 4 rfl, r.cell 5 rfl, r.cell 6 rfl, r.lt⟩)
    have HBv := Lib.hid (show Below w9.heap.size w9 w9.drew from (Below.refl _ _).drew)
    refine wp_region_held_drew (S := (fun W => W.cell? ⟨rb, 0, none⟩ = some (.int .u8 2) ∧ W.cell? ⟨rb, 1, none⟩ = some (.int .i64 0) ∧ W.cell? ⟨rb, 2, none⟩ = some (.int .i64 0) ∧ W.cell? ⟨rb, 3, none⟩ = some (.int .u16 6) ∧ W.cell? ⟨rb, 4, none⟩ = some (.int .u8 0) ∧ W.cell? ⟨rb, 5, none⟩ = some (.int .u8 0) ∧ W.cell? ⟨rb, 6, none⟩ = some (.int .u32 1) ∧ rb < W.heap.size)) (by kernel_rfl) ?_ (fun hHeld0 => ?_)
    · exact HmkS.out _ HBv.out
    refine wpAnyH_take (i := 2) (v := ?_) (by first | (simp only [List.getElem?_toArray, List.getElem?_cons_succ, List.getElem?_cons_zero] <;> rfl) | rfl) (by kernel_rfl) (by kernel_rfl) (by kernel_rfl) (by exact fun _ _ _ h => h) (Or.inl ⟨by rfl, ?_⟩) hHeld0 ?_
    rotate_left 1
    · intro w hSw
      try dsimp only at hSw
      (go_simp) <;> (with_reducible rfl)
    try simp only [Act.put, List.setIfInBounds_toArray, List.set_cons_zero, List.set_cons_succ]
    refine wpAnyH_take (i := 3) (v := ?_) (by first | (simp only [List.getElem?_toArray, List.getElem?_cons_succ, List.getElem?_cons_zero] <;> rfl) | rfl) (by kernel_rfl) (by kernel_rfl) (by kernel_rfl) (by exact fun _ _ _ h => h) (Or.inl ⟨by rfl, ?_⟩) hHeld0 ?_
    rotate_left 1
    · intro w hSw
      try dsimp only at hSw
      (go_simp) <;> (with_reducible rfl)
    try simp only [Act.put, List.setIfInBounds_toArray, List.set_cons_zero, List.set_cons_succ]
    refine wpAnyH_ready (rs := [0]) (by kernel_rfl) (by simp) ?_
    refine AllReadyH.cons (by first | (simp only [List.getElem?_toArray, List.getElem?_cons_zero] <;> rfl) | rfl) (fun K hK => ?_) ?_
    · go_simp
      refine (if_of 16 0 0 0 21 _ (by decide)).mono ?_
      rintro e vh1 ⟨rfl, hbb⟩
      have HBn := Lib.hid (HBv.out.trans (hbb.mono HBv.out.size))
      clear hbb
      refine hK.out _ _ (HmkS.out _ HBn.out) (fun hHeld1 => ?_)
      clear hK K
      have HBv := HBn
      clear HBn hHeld0
      try simp only [Act.put, List.setIfInBounds_toArray, List.set_cons_zero, List.set_cons_succ]
      refine wpAnyH_take (i := 1) (v := ?_) (by first | (simp only [List.getElem?_toArray, List.getElem?_cons_succ, List.getElem?_cons_zero] <;> rfl) | rfl) (by kernel_rfl) (by kernel_rfl) (by kernel_rfl) (by exact fun _ _ _ h => h) (Or.inl ⟨by rfl, ?_⟩) hHeld1 ?_
      rotate_left 1
      · intro w hSw
        try dsimp only at hSw
        (go_simp) <;> (with_reducible rfl)
      try simp only [Act.put, List.setIfInBounds_toArray, List.set_cons_zero, List.set_cons_succ]
      refine wpAnyH_ready (rs := [4]) (by kernel_rfl) (by simp) ?_
      refine AllReadyH.cons (by first | (simp only [List.getElem?_toArray, List.getElem?_cons_succ, List.getElem?_cons_zero] <;> rfl) | rfl) (fun K hK => ?_) ?_
      · go_simp
        have HBn := Lib.hid (HBv.out.trans ((oneb vh1 (.cells #[.int .u8 3, .int .i64 1, .int .i64 2, .int .u16 21, .int .u8 0, .int .u8 0, .int .u32 0, .int .u8 1, .int .i64 1, .int .i64 0, .int .u16 0, .int .u8 0, .int .u8 0, .int .u32 0, .int .u8 2, .int .i64 0, .int .i64 0, .int .u16 6, .int .u8 0, .int .u8 0, .int .u32 1] 57)).mono HBv.out.size))
        refine hK.out _ _ (HmkS.out _ HBn.out) (fun hHeld2 => ?_)
        clear hK K
        have HBv := HBn
        clear HBn hHeld1
        try simp only [Act.put, List.setIfInBounds_toArray, List.set_cons_zero, List.set_cons_succ]
        refine wpAnyH_ready (rs := [5]) (by kernel_rfl) (by simp) ?_
        refine AllReadyH.cons (by first | (simp only [List.getElem?_toArray, List.getElem?_cons_succ, List.getElem?_cons_zero] <;> rfl) | rfl) (fun K hK => ?_) ?_
        · go_simp
          refine (HMe.out _).mono ?_
          rintro e vh3 ⟨⟨_, _, _, rfl⟩, hbb⟩
          have HBn := Lib.hid (HBv.out.trans (hbb.mono HBv.out.size))
          clear hbb
          refine hK.out _ _ (HmkS.out _ HBn.out) (fun hHeld3 => ?_)
          clear hK K
          have HBv := HBn
          clear HBn hHeld2
          try simp only [Act.put, List.setIfInBounds_toArray, List.set_cons_zero, List.set_cons_succ]
          refine wpAnyH_take (i := 6) (v := ?_) (by first | (simp only [List.getElem?_toArray, List.getElem?_cons_succ, List.getElem?_cons_zero] <;> rfl) | rfl) (by kernel_rfl) (by kernel_rfl) (by kernel_rfl) (by exact fun _ _ _ h => h) (Or.inl ⟨by rfl, ?_⟩) hHeld3 ?_
          rotate_left 1
          · intro w hSw
            try dsimp only at hSw
            (go_simp) <;> (with_reducible rfl)
          try simp only [Act.put, List.setIfInBounds_toArray, List.set_cons_zero, List.set_cons_succ]
          refine wpAnyH_take (i := 7) (v := ?_) (by first | (simp only [List.getElem?_toArray, List.getElem?_cons_succ, List.getElem?_cons_zero] <;> rfl) | rfl) (by kernel_rfl) (by kernel_rfl) (by kernel_rfl) (by exact fun _ _ _ h => h) (Or.inl ⟨by rfl, ?_⟩) hHeld3 ?_
          rotate_left 1
          · intro w hSw
            try dsimp only at hSw
            (go_simp) <;> (with_reducible rfl)
          try simp only [Act.put, List.setIfInBounds_toArray, List.set_cons_zero, List.set_cons_succ]
          refine wpAnyH_take (i := 8) (v := ?_) (by first | (simp only [List.getElem?_toArray, List.getElem?_cons_succ, List.getElem?_cons_zero] <;> rfl) | rfl) (by kernel_rfl) (by kernel_rfl) (by kernel_rfl) (by exact fun _ _ _ h => h) (Or.inl ⟨by rfl, ?_⟩) hHeld3 ?_
          rotate_left 1
          · intro w hSw
            try dsimp only at hSw
            (go_simp) <;> (with_reducible rfl)
          try simp only [Act.put, List.setIfInBounds_toArray, List.set_cons_zero, List.set_cons_succ]
          refine wpAnyH_take (i := 9) (v := ?_) (by first | (simp only [List.getElem?_toArray, List.getElem?_cons_succ, List.getElem?_cons_zero] <;> rfl) | rfl) (by kernel_rfl) (by kernel_rfl) (by kernel_rfl) (by exact fun _ _ _ h => h) (Or.inl ⟨by rfl, ?_⟩) hHeld3 ?_
          rotate_left 1
          · intro w hSw
            try dsimp only at hSw
            (go_simp) <;> (with_reducible rfl)
          try simp only [Act.put, List.setIfInBounds_toArray, List.set_cons_zero, List.set_cons_succ]
          refine wpAnyH_take (i := 10) (v := ?_) (by first | (simp only [List.getElem?_toArray, List.getElem?_cons_succ, List.getElem?_cons_zero] <;> rfl) | rfl) (by kernel_rfl) (by kernel_rfl) (by kernel_rfl) (by exact fun _ _ _ h => h) (Or.inl ⟨by rfl, ?_⟩) hHeld3 ?_
          rotate_left 1
          · intro w hSw
            try dsimp only at hSw
            (go_simp) <;> (with_reducible rfl)
          try simp only [Act.put, List.setIfInBounds_toArray, List.set_cons_zero, List.set_cons_succ]
          refine wpAnyH_done (by kernel_rfl) ?_ _
          rename World => w10
          have HB := Lib.hid (HB.out.trans (HBv.out.mono HB.out.size))
          have HI := Lib.hid (HI.out.kept HBv.out)
          have HR := Lib.hid (HR.out.kept HBv.out)
          clear hHeld3 HmkS HBv
          go_upto_region 17 with fail
          have HmkS : Hid (∀ W, Below w10.heap.size w10 W → (fun W => W.cell? ⟨rb, 0, none⟩ = some (.int .u8 2) ∧ W.cell? ⟨rb, 1, none⟩ = some (.int .i64 0) ∧ W.cell? ⟨rb, 2, none⟩ = some (.int .i64 0) ∧ W.cell? ⟨rb, 3, none⟩ = some (.int .u16 6) ∧ W.cell? ⟨rb, 4, none⟩ = some (.int .u8 0) ∧ W.cell? ⟨rb, 5, none⟩ = some (.int .u8 0) ∧ W.cell? ⟨rb, 6, none⟩ = some (.int .u32 1) ∧ rb < W.heap.size) W) := Lib.hid (fun W h => by
            have r := HR.out.kept h
            exact ⟨r.cell 0 rfl, r.cell 1 rfl, r.cell 2 rfl, r.cell 3 rfl, r.cell 4 rfl, r.cell 5 rfl, r.cell 6 rfl, r.lt⟩)
          have HBv := Lib.hid (show Below w10.heap.size w10 w10.drew from (Below.refl _ _).drew)
          refine wp_region_held_drew (S := (fun W => W.cell? ⟨rb, 0, none⟩ = some (.int .u8 2) ∧ W.cell? ⟨rb, 1, none⟩ = some (.int .i64 0) ∧ W.cell? ⟨rb, 2, none⟩ = some (.int .i64 0) ∧ W.cell? ⟨rb, 3, none⟩ = some (.int .u16 6) ∧ W.cell? ⟨rb, 4, none⟩ = some (.int .u8 0) ∧ W.cell? ⟨rb, 5, none⟩ = some (.int .u8 0) ∧ W.cell? ⟨rb, 6, none⟩ = some (.int .u32 1) ∧ rb < W.heap.size)) (by kernel_rfl) ?_ (fun hHeld0 => ?_)
          · exact HmkS.out _ HBv.out
          refine wpAnyH_take (i := 2) (v := ?_) (by first | (simp only [List.getElem?_toArray, List.getElem?_cons_succ, List.getElem?_cons_zero] <;> rfl) | rfl) (by kernel_rfl) (by kernel_rfl) (by kernel_rfl) (by exact fun _ _ _ h => h) (Or.inl ⟨by rfl, ?_⟩) hHeld0 ?_
          rotate_left 1
          · intro w hSw
            try dsimp only at hSw
            (go_simp) <;> (with_reducible rfl)
          try simp only [Act.put, List.setIfInBounds_toArray, List.set_cons_zero, List.set_cons_succ]
          refine wpAnyH_take (i := 3) (v := ?_) (by first | (simp only [List.getElem?_toArray, List.getElem?_cons_succ, List.getElem?_cons_zero] <;> rfl) | rfl) (by kernel_rfl) (by kernel_rfl) (by kernel_rfl) (by exact fun _ _ _ h => h) (Or.inl ⟨by rfl, ?_⟩) hHeld0 ?_
          rotate_left 1
          · intro w hSw
            try dsimp only at hSw
            (go_simp) <;> (with_reducible rfl)
          try simp only [Act.put, List.setIfInBounds_toArray, List.set_cons_zero, List.set_cons_succ]
          refine wpAnyH_ready (rs := [0]) (by kernel_rfl) (by simp) ?_
          refine AllReadyH.cons (by first | (simp only [List.getElem?_toArray, List.getElem?_cons_zero] <;> rfl) | rfl) (fun K hK => ?_) ?_
          · go_simp
            refine (skip_of 0 _).mono ?_
            rintro e vh1 ⟨rfl, hbb⟩
            have HBn := Lib.hid (HBv.out.trans (hbb.mono HBv.out.size))
            clear hbb
            refine hK.out _ _ (HmkS.out _ HBn.out) (fun hHeld1 => ?_)
            clear hK K
            have HBv := HBn
            clear HBn hHeld0
            try simp only [Act.put, List.setIfInBounds_toArray, List.set_cons_zero, List.set_cons_succ]
            refine wpAnyH_take (i := 1) (v := ?_) (by first | (simp only [List.getElem?_toArray, List.getElem?_cons_succ, List.getElem?_cons_zero] <;> rfl) | rfl) (by kernel_rfl) (by kernel_rfl) (by kernel_rfl) (by exact fun _ _ _ h => h) (Or.inl ⟨by rfl, ?_⟩) hHeld1 ?_
            rotate_left 1
            · intro w hSw
              try dsimp only at hSw
              (go_simp) <;> (with_reducible rfl)
            try simp only [Act.put, List.setIfInBounds_toArray, List.set_cons_zero, List.set_cons_succ]
            refine wpAnyH_ready (rs := [4]) (by kernel_rfl) (by simp) ?_
            refine AllReadyH.cons (by first | (simp only [List.getElem?_toArray, List.getElem?_cons_succ, List.getElem?_cons_zero] <;> rfl) | rfl) (fun K hK => ?_) ?_
            · go_simp
              have HBn := Lib.hid (HBv.out.trans ((oneb vh1 (.cells #[.int .u8 3, .int .i64 1, .int .i64 1, .int .u16 5, .int .u8 0, .int .u8 0, .int .u32 0, .int .u8 1, .int .i64 1, .int .i64 0, .int .u16 0, .int .u8 0, .int .u8 0, .int .u32 0, .int .u8 2, .int .i64 0, .int .i64 0, .int .u16 6, .int .u8 0, .int .u8 0, .int .u32 1] 57)).mono HBv.out.size))
              refine hK.out _ _ (HmkS.out _ HBn.out) (fun hHeld2 => ?_)
              clear hK K
              have HBv := HBn
              clear HBn hHeld1
              try simp only [Act.put, List.setIfInBounds_toArray, List.set_cons_zero, List.set_cons_succ]
              refine wpAnyH_ready (rs := [5]) (by kernel_rfl) (by simp) ?_
              refine AllReadyH.cons (by first | (simp only [List.getElem?_toArray, List.getElem?_cons_succ, List.getElem?_cons_zero] <;> rfl) | rfl) (fun K hK => ?_) ?_
              · go_simp
                refine (HMf.out _).mono ?_
                rintro e vh3 ⟨⟨_, _, _, rfl⟩, hbb⟩
                have HBn := Lib.hid (HBv.out.trans (hbb.mono HBv.out.size))
                clear hbb
                refine hK.out _ _ (HmkS.out _ HBn.out) (fun hHeld3 => ?_)
                clear hK K
                have HBv := HBn
                clear HBn hHeld2
                try simp only [Act.put, List.setIfInBounds_toArray, List.set_cons_zero, List.set_cons_succ]
                refine wpAnyH_take (i := 6) (v := ?_) (by first | (simp only [List.getElem?_toArray, List.getElem?_cons_succ, List.getElem?_cons_zero] <;> rfl) | rfl) (by kernel_rfl) (by kernel_rfl) (by kernel_rfl) (by exact fun _ _ _ h => h) (Or.inl ⟨by rfl, ?_⟩) hHeld3 ?_
                rotate_left 1
                · intro w hSw
                  try dsimp only at hSw
                  (go_simp) <;> (with_reducible rfl)
                try simp only [Act.put, List.setIfInBounds_toArray, List.set_cons_zero, List.set_cons_succ]
                refine wpAnyH_take (i := 7) (v := ?_) (by first | (simp only [List.getElem?_toArray, List.getElem?_cons_succ, List.getElem?_cons_zero] <;> rfl) | rfl) (by kernel_rfl) (by kernel_rfl) (by kernel_rfl) (by exact fun _ _ _ h => h) (Or.inl ⟨by rfl, ?_⟩) hHeld3 ?_
                rotate_left 1
                · intro w hSw
                  try dsimp only at hSw
                  (go_simp) <;> (with_reducible rfl)
                try simp only [Act.put, List.setIfInBounds_toArray, List.set_cons_zero, List.set_cons_succ]
                refine wpAnyH_take (i := 8) (v := ?_) (by first | (simp only [List.getElem?_toArray, List.getElem?_cons_succ, List.getElem?_cons_zero] <;> rfl) | rfl) (by kernel_rfl) (by kernel_rfl) (by kernel_rfl) (by exact fun _ _ _ h => h) (Or.inl ⟨by rfl, ?_⟩) hHeld3 ?_
                rotate_left 1
                · intro w hSw
                  try dsimp only at hSw
                  (go_simp) <;> (with_reducible rfl)
                try simp only [Act.put, List.setIfInBounds_toArray, List.set_cons_zero, List.set_cons_succ]
                refine wpAnyH_take (i := 9) (v := ?_) (by first | (simp only [List.getElem?_toArray, List.getElem?_cons_succ, List.getElem?_cons_zero] <;> rfl) | rfl) (by kernel_rfl) (by kernel_rfl) (by kernel_rfl) (by exact fun _ _ _ h => h) (Or.inl ⟨by rfl, ?_⟩) hHeld3 ?_
                rotate_left 1
                · intro w hSw
                  try dsimp only at hSw
                  (go_simp) <;> (with_reducible rfl)
                try simp only [Act.put, List.setIfInBounds_toArray, List.set_cons_zero, List.set_cons_succ]
                refine wpAnyH_take (i := 10) (v := ?_) (by first | (simp only [List.getElem?_toArray, List.getElem?_cons_succ, List.getElem?_cons_zero] <;> rfl) | rfl) (by kernel_rfl) (by kernel_rfl) (by kernel_rfl) (by exact fun _ _ _ h => h) (Or.inl ⟨by rfl, ?_⟩) hHeld3 ?_
                rotate_left 1
                · intro w hSw
                  try dsimp only at hSw
                  (go_simp) <;> (with_reducible rfl)
                try simp only [Act.put, List.setIfInBounds_toArray, List.set_cons_zero, List.set_cons_succ]
                refine wpAnyH_done (by kernel_rfl) ?_ _
                rename World => w11
                have HB := Lib.hid (HB.out.trans (HBv.out.mono HB.out.size))
                have HI := Lib.hid (HI.out.kept HBv.out)
                have HR := Lib.hid (HR.out.kept HBv.out)
                clear hHeld3 HmkS HBv
                go_wp2_with (at_make; refine wpList_make_full _ rfl _ _ 25 rfl w11.heap.size 57 i0 _ 7 Try.underlying25 hi0 hz0 hz1 .i64 .i64 _ _ n rfl rfl (by omega) (by omega) (by rw [hz2]; omega) (by unfold maxLen; omega) (Nat.le_refl _) ?_; intro w12 hown2 hg2; have HP := Lib.hid (show RP w11 w12 w11.heap.size n 0 _ from ⟨hown2, (Below.refl w11.heap.size w11).grown hg2 (Nat.le_refl _) (fun k hk => by cases hk)⟩); clear hown2 hg2)
                obtain ⟨R0, HP0⟩ : ∃ R, Hid (RP w11 w12 w11.heap.size n 0 R) := ⟨_, HP⟩
                clear HP
                obtain ⟨g, hg⟩ : ∃ g, g = w11.heap.size := ⟨_, rfl⟩
                rw [← hg] at HP0 ⊢
                clear hg
                go_loopw [106] (fun iv wr => ∃ (q : Nat) (R : List Value), q ≤ n ∧ iv = .int .i64 (q : Nat) ∧ Hid (RP w11 wr g n q R)) (fun iv _ => n - (intOf iv).toNat)
                case atStart => exact ⟨0, R0, by omega, rfl, HP0⟩
                case round =>
                  clear HP0
                  obtain ⟨q, R, hq, rfl, HP⟩ := hrel
                  by_cases hlt : q < n
                  · obtain ⟨v0, v1, v2, v3, v4, v5, v6, R', ⟨c0, c1, c2, c3, c4, c5, c6⟩, hnext⟩ := HP.out.step hlt
                    have f0 := HP.out.own.frozenAt (q * 7)
                    have f1 := HP.out.own.frozenAt (q * 7 + 1)
                    have f2 := HP.out.own.frozenAt (q * 7 + 2)
                    have f3 := HP.out.own.frozenAt (q * 7 + 3)
                    have f4 := HP.out.own.frozenAt (q * 7 + 4)
                    have f5 := HP.out.own.frozenAt (q * 7 + 5)
                    have f6 := HP.out.own.frozenAt (q * 7 + 6)
                    have hr := HR.out.kept HP.out.bel
                    have x0 := hr.cell 0 rfl
                    have x1 := hr.cell 1 rfl
                    have x2 := hr.cell 2 rfl
                    have x3 := hr.cell 3 rfl
                    have x4 := hr.cell 4 rfl
                    have x5 := hr.cell 5 rfl
                    have x6 := hr.cell 6 rfl
                    have xl := hr.lt
                    have q0 : (0 : Int) ≤ (q : Int) := by omega
                    have q1 : (q : Int) < (n : Int) := by omega
                    have HN := Lib.hid hnext
                    clear hnext HP hr
                    go_wp2_with fail
                    go_roundw
                    case rel => exact ⟨q + 1, R', by omega, by go_num, HN⟩
                    case measure => simp [intOf]; omega
                  · obtain rfl : q = n := by omega
                    have hown := HP.out.own
                    obtain rfl : R = [] := List.eq_nil_of_length_eq_zero (by have := HP.out.len; omega)
                    rw [List.append_nil] at hown
                    obtain ⟨eg, heg⟩ : ∃ eg, eg = if 4096 < q then 205 else 0 := ⟨_, rfl⟩
                    have HMg : Hid (Calls Try.prog 11 #[.slice (some ⟨g, 0, none⟩) q q] wr (ErrIs eg wr)) := by
                      obtain ⟨A9, c9, e, _, h, _⟩ := own_typed hown
                      cases e
                      refine Lib.hid (make_errR (by simp) (by omega) (fun p hp => by rw [List.eq_of_mem_replicate hp]; exact pR_ok) h.rd ?_)
                      rw [heg]
                      by_cases h4 : 4096 < q
                      · rw [if_pos h4]; exact (rep_make q).2 h4
                      · rw [if_neg h4, (rep_make q).1 (by omega)]
                    have HB := Lib.hid (HB.out.trans (HP.out.bel.mono HB.out.size))
                    have HI := Lib.hid (HI.out.kept HP.out.bel)
                    obtain ⟨bg, hbg⟩ : ∃ bg, bg = decide (4096 < q) := ⟨_, rfl⟩
                    have g1 : decide ((4096 : Int) < (q : Int)) = bg := by rw [hbg, Bool.eq_iff_iff, decide_eq_true_eq, decide_eq_true_eq]; omega
                    have g2 : ((eg : Int) == 205) = bg := by
                      rw [heg, hbg]
                      by_cases h4 : 4096 < q
                      · rw [if_pos h4, decide_eq_true h4]; rfl
                      · rw [if_neg h4, decide_eq_false h4]; rfl
                    have g3 : (bg == bg) = true := by simp
                    clear hown HP heg hbg hq hlt
                    go_wp2_with fail
                    refine HMg.out.mono ?_
                    rintro e w13 ⟨⟨_, _, _, rfl⟩, hb13⟩
                    have HB := Lib.hid (HB.out.trans (hb13.mono HB.out.size))
                    have HI := Lib.hid (HI.out.kept hb13)
                    clear hb13 HMg
                    go_wp2_with fail
                    refine (here_nil _ 1).mono ?_
                    rintro e w14 ⟨rfl, hb14⟩
                    have HB := Lib.hid (HB.out.trans (hb14.mono HB.out.size))
                    have hi4 := HI.out.kept hb14
                    have y0 := hi4.cell 0 rfl
                    have y1 := hi4.cell 1 rfl
                    have y2 := hi4.cell 2 rfl
                    have y3 := hi4.cell 3 rfl
                    have yl := hi4.lt
                    have HI := Lib.hid hi4
                    clear hb14 hi4
                    go_wp2_with fail
                    refine (plain_nil _ _ _ _ _).mono ?_
                    clear y0 y1 y2 y3 yl
                    rintro e w15 ⟨rfl, hb15⟩
                    have HB := Lib.hid (HB.out.trans (hb15.mono HB.out.size))
                    have HI := Lib.hid (HI.out.kept hb15)
                    clear hb15
                    go_wp2_with fail
                    refine (goto_nil _ 2).mono ?_
                    rintro e w16 ⟨rfl, hb16⟩
                    have HB := Lib.hid (HB.out.trans (hb16.mono HB.out.size))
                    have HI := Lib.hid (HI.out.kept hb16)
                    clear hb16
                    go_wp2_with fail
                    refine (if_nil _ 1 2 3).mono ?_
                    rintro e w17 ⟨rfl, hb17⟩
                    have HB := Lib.hid (HB.out.trans (hb17.mono HB.out.size))
                    have HI := Lib.hid (HI.out.kept hb17)
                    clear hb17
                    have HmkS : Hid (∀ W, Below w17.heap.size w17 W → (fun W => W.cell? ⟨xb, 0, none⟩ = some (.int .u16 i.c) ∧ W.cell? ⟨xb, 1, none⟩ = some (.int .u8 i.t) ∧ W.cell? ⟨xb, 2, none⟩ = some (.int .u8 i.f) ∧ W.cell? ⟨xb, 3, none⟩ = some (.int .u32 i.k) ∧ xb < W.heap.size) W) := Lib.hid (fun W h => by
                      have r := HI.out.kept h
                      exact ⟨r.cell 0 rfl, r.cell 1 rfl, r.cell 2 rfl, r.cell 3 rfl, r.lt⟩)
                    have HBv := Lib.hid (show Below w17.heap.size w17 w17.drew from (Below.refl _ _).drew)
                    go_upto_region 31 with fail
                    have b1 : ((eb : Int) == (eb : Int)) = true := by simp
                    have fld : ∀ W : World, (Instr.field 70 (.agg #[.int .i64 (i.c : Int), .int .i64 (i.t : Int), .int .i64 (i.f : Int), .int .u32 (i.k : Int)]) 3).run Try.prog W = .ok (.int .u32 (i.k : Int)) W := fun W => fld1 _ _ _ _ W
                    have k1 : ((i.k : Int) == (i.k : Int)) = true := by simp
                    by_cases h5 : z5 = 5
                    · have j1 : ((z5 : Int) == 5) = true := by rw [h5]; rfl
                      have j2 : ((ea : Int) == 210) = true := by rw [HEA.out, if_pos h5]; rfl
                      clear h5
                      refine wp_region_held_drew (S := (fun W => W.cell? ⟨xb, 0, none⟩ = some (.int .u16 i.c) ∧ W.cell? ⟨xb, 1, none⟩ = some (.int .u8 i.t) ∧ W.cell? ⟨xb, 2, none⟩ = some (.int .u8 i.f) ∧ W.cell? ⟨xb, 3, none⟩ = some (.int .u32 i.k) ∧ xb < W.heap.size)) (by kernel_rfl) ?_ (fun hHeld0 => ?_)
                      · exact HmkS.out _ HBv.out
                      refine wpAnyH_take (i := 0) (v := ?_) (by first | (simp only [List.getElem?_toArray, List.getElem?_cons_zero] <;> rfl) | rfl) (by kernel_rfl) (by kernel_rfl) (by kernel_rfl) (by exact fun _ _ _ h => h) (Or.inl ⟨by rfl, ?_⟩) hHeld0 ?_
                      rotate_left 1
                      · intro w hSw
                        try dsimp only at hSw
                        (go_simp) <;> (with_reducible rfl)
                      try simp only [Act.put, List.setIfInBounds_toArray, List.set_cons_zero, List.set_cons_succ]
                      refine wpAnyH_take (i := 1) (v := ?_) (by first | (simp only [List.getElem?_toArray, List.getElem?_cons_succ, List.getElem?_cons_zero] <;> rfl) | rfl) (by kernel_rfl) (by kernel_rfl) (by kernel_rfl) (by exact fun _ _ _ h => h) (Or.inl ⟨by rfl, ?_⟩) hHeld0 ?_
                      rotate_left 1
                      · intro w hSw
                        try dsimp only at hSw
                        (go_simp) <;> (with_reducible rfl)
                      try simp only [Act.put, List.setIfInBounds_toArray, List.set_cons_zero, List.set_cons_succ]
                      refine wpAnyH_take (i := 2) (v := ?_) (by first | (simp only [List.getElem?_toArray, List.getElem?_cons_succ, List.getElem?_cons_zero] <;> rfl) | rfl) (by kernel_rfl) (by kernel_rfl) (by kernel_rfl) (by exact fun _ _ _ h => h) (Or.inl ⟨by rfl, ?_⟩) hHeld0 ?_
                      rotate_left 1
                      · intro w hSw
                        try dsimp only at hSw
                        (go_simp) <;> (with_reducible rfl)
                      try simp only [Act.put, List.setIfInBounds_toArray, List.set_cons_zero, List.set_cons_succ]
                      refine wpAnyH_take (i := 3) (v := ?_) (by first | (simp only [List.getElem?_toArray, List.getElem?_cons_succ, List.getElem?_cons_zero] <;> rfl) | rfl) (by kernel_rfl) (by kernel_rfl) (by kernel_rfl) (by exact fun _ _ _ h => h) (Or.inl ⟨by rfl, ?_⟩) hHeld0 ?_
                      rotate_left 1
                      · intro w hSw
                        try dsimp only at hSw
                        (go_simp) <;> (with_reducible rfl)
                      try simp only [Act.put, List.setIfInBounds_toArray, List.set_cons_zero, List.set_cons_succ]
                      refine wpAnyH_take (i := 4) (v := ?_) (by first | (simp only [List.getElem?_toArray, List.getElem?_cons_succ, List.getElem?_cons_zero] <;> rfl) | rfl) (by kernel_rfl) (by kernel_rfl) (by kernel_rfl) (by exact fun _ _ _ h => h) (Or.inl ⟨by rfl, ?_⟩) hHeld0 ?_
                      rotate_left 1
                      · intro w hSw
                        try dsimp only at hSw
                        (go_simp) <;> (with_reducible rfl)
                      try simp only [Act.put, List.setIfInBounds_toArray, List.set_cons_zero, List.set_cons_succ]
                      refine wpAnyH_take (i := 5) (v := ?_) (by first | (simp only [List.getElem?_toArray, List.getElem?_cons_succ, List.getElem?_cons_zero] <;> rfl) | rfl) (by kernel_rfl) (by kernel_rfl) (by kernel_rfl) (by exact fun _ _ _ h => h) (Or.inl ⟨by rfl, ?_⟩) hHeld0 ?_
                      rotate_left 1
                      · intro w hSw
                        try dsimp only at hSw
                        (go_simp) <;> (with_reducible rfl)
                      try simp only [Act.put, List.setIfInBounds_toArray, List.set_cons_zero, List.set_cons_succ]
                      refine wpAnyH_take (i := 6) (v := ?_) (by first | (simp only [List.getElem?_toArray, List.getElem?_cons_succ, List.getElem?_cons_zero] <;> rfl) | rfl) (by kernel_rfl) (by kernel_rfl) (by kernel_rfl) (by exact fun _ _ _ h => h) (Or.inl ⟨by rfl, ?_⟩) hHeld0 ?_
                      rotate_left 1
                      · intro w hSw
                        try dsimp only at hSw
                        (go_simp) <;> (with_reducible rfl)
                      try simp only [Act.put, List.setIfInBounds_toArray, List.set_cons_zero, List.set_cons_succ]
                      refine wpAnyH_take (i := 7) (v := undef) (by first | (simp only [List.getElem?_toArray, List.getElem?_cons_succ, List.getElem?_cons_zero] <;> rfl) | rfl) (by kernel_rfl) (by kernel_rfl) (by kernel_rfl) (by exact fun _ _ _ h => h) (Or.inr ⟨by rfl, rfl⟩) hHeld0 ?_
                      try simp only [Act.put, List.setIfInBounds_toArray, List.set_cons_zero, List.set_cons_succ]
                      refine wpAnyH_take (i := 8) (v := undef) (by first | (simp only [List.getElem?_toArray, List.getElem?_cons_succ, List.getElem?_cons_zero] <;> rfl) | rfl) (by kernel_rfl) (by kernel_rfl) (by kernel_rfl) (by exact fun _ _ _ h => h) (Or.inr ⟨by rfl, rfl⟩) hHeld0 ?_
                      try simp only [Act.put, List.setIfInBounds_toArray, List.set_cons_zero, List.set_cons_succ]
                      refine wpAnyH_take (i := 9) (v := ?_) (by first | (simp only [List.getElem?_toArray, List.getElem?_cons_succ, List.getElem?_cons_zero] <;> rfl) | rfl) (by kernel_rfl) (by kernel_rfl) (by kernel_rfl) (by exact fun _ _ _ h => h) (Or.inl ⟨by rfl, ?_⟩) hHeld0 ?_
                      rotate_left 1
                      · intro w hSw
                        try dsimp only at hSw
                        (go_simp) <;> (with_reducible rfl)
                      try simp only [Act.put, List.setIfInBounds_toArray, List.set_cons_zero, List.set_cons_succ]
                      refine wpAnyH_take (i := 10) (v := ?_) (by first | (simp only [List.getElem?_toArray, List.getElem?_cons_succ, List.getElem?_cons_zero] <;> rfl) | rfl) (by kernel_rfl) (by kernel_rfl) (by kernel_rfl) (by exact fun _ _ _ h => h) (Or.inl ⟨by rfl, ?_⟩) hHeld0 ?_
                      rotate_left 1
                      · intro w hSw
                        try dsimp only at hSw
                        (go_simp) <;> (with_reducible rfl)
                      try simp only [Act.put, List.setIfInBounds_toArray, List.set_cons_zero, List.set_cons_succ]
                      refine wpAnyH_take (i := 11) (v := ?_) (by first | (simp only [List.getElem?_toArray, List.getElem?_cons_succ, List.getElem?_cons_zero] <;> rfl) | rfl) (by kernel_rfl) (by kernel_rfl) (by kernel_rfl) (by exact fun _ _ _ h => h) (Or.inl ⟨by rfl, ?_⟩) hHeld0 ?_
                      rotate_left 1
                      · intro w hSw
                        try dsimp only at hSw
                        (go_simp) <;> (with_reducible rfl)
                      try simp only [Act.put, List.setIfInBounds_toArray, List.set_cons_zero, List.set_cons_succ]
                      refine wpAnyH_take (i := 12) (v := ?_) (by first | (simp only [List.getElem?_toArray, List.getElem?_cons_succ, List.getElem?_cons_zero] <;> rfl) | rfl) (by kernel_rfl) (by kernel_rfl) (by kernel_rfl) (by exact fun _ _ _ h => h) (Or.inl ⟨by rfl, ?_⟩) hHeld0 ?_
                      rotate_left 1
                      · intro w hSw
                        try dsimp only at hSw
                        (go_simp) <;> (with_reducible rfl)
                      try simp only [Act.put, List.setIfInBounds_toArray, List.set_cons_zero, List.set_cons_succ]
                      refine wpAnyH_take (i := 13) (v := ?_) (by first | (simp only [List.getElem?_toArray, List.getElem?_cons_succ, List.getElem?_cons_zero] <;> rfl) | rfl) (by kernel_rfl) (by kernel_rfl) (by kernel_rfl) (by exact fun _ _ _ h => h) (Or.inl ⟨by rfl, ?_⟩) hHeld0 ?_
                      rotate_left 1
                      · intro w hSw
                        try dsimp only at hSw
                        (go_simp) <;> (with_reducible rfl)
                      try simp only [Act.put, List.setIfInBounds_toArray, List.set_cons_zero, List.set_cons_succ]
                      refine wpAnyH_take (i := 14) (v := ?_) (by first | (simp only [List.getElem?_toArray, List.getElem?_cons_succ, List.getElem?_cons_zero] <;> rfl) | rfl) (by kernel_rfl) (by kernel_rfl) (by kernel_rfl) (by exact fun _ _ _ h => h) (Or.inl ⟨by rfl, ?_⟩) hHeld0 ?_
                      rotate_left 1
                      · intro w hSw
                        try dsimp only at hSw
                        (go_simp) <;> (with_reducible rfl)
                      try simp only [Act.put, List.setIfInBounds_toArray, List.set_cons_zero, List.set_cons_succ]
                      refine wpAnyH_take (i := 15) (v := ?_) (by first | (simp only [List.getElem?_toArray, List.getElem?_cons_succ, List.getElem?_cons_zero] <;> rfl) | rfl) (by kernel_rfl) (by kernel_rfl) (by kernel_rfl) (by exact fun _ _ _ h => h) (Or.inl ⟨by rfl, ?_⟩) hHeld0 ?_
                      rotate_left 1
                      · intro w hSw
                        try dsimp only at hSw
                        (go_simp) <;> (with_reducible rfl)
                      try simp only [Act.put, List.setIfInBounds_toArray, List.set_cons_zero, List.set_cons_succ]
                      refine wpAnyH_take (i := 16) (v := ?_) (by first | (simp only [List.getElem?_toArray, List.getElem?_cons_succ, List.getElem?_cons_zero] <;> rfl) | rfl) (by kernel_rfl) (by kernel_rfl) (by kernel_rfl) (by exact fun _ _ _ h => h) (Or.inl ⟨by rfl, ?_⟩) hHeld0 ?_
                      rotate_left 1
                      · intro w hSw
                        try dsimp only at hSw
                        (go_simp) <;> (with_reducible rfl)
                      try simp only [Act.put, List.setIfInBounds_toArray, List.set_cons_zero, List.set_cons_succ]
                      refine wpAnyH_take (i := 17) (v := ?_) (by first | (simp only [List.getElem?_toArray, List.getElem?_cons_succ, List.getElem?_cons_zero] <;> rfl) | rfl) (by kernel_rfl) (by kernel_rfl) (by kernel_rfl) (by exact fun _ _ _ h => h) (Or.inl ⟨by rfl, ?_⟩) hHeld0 ?_
                      rotate_left 1
                      · intro w hSw
                        try dsimp only at hSw
                        (go_simp) <;> (with_reducible rfl)
                      try simp only [Act.put, List.setIfInBounds_toArray, List.set_cons_zero, List.set_cons_succ]
                      refine wpAnyH_take (i := 18) (v := ?_) (by first | (simp only [List.getElem?_toArray, List.getElem?_cons_succ, List.getElem?_cons_zero] <;> rfl) | rfl) (by kernel_rfl) (by kernel_rfl) (by kernel_rfl) (by exact fun _ _ _ h => h) (Or.inl ⟨by rfl, ?_⟩) hHeld0 ?_
                      rotate_left 1
                      · intro w hSw
                        try dsimp only at hSw
                        (go_simp) <;> (with_reducible rfl)
                      try simp only [Act.put, List.setIfInBounds_toArray, List.set_cons_zero, List.set_cons_succ]
                      refine wpAnyH_take (i := 19) (v := ?_) (by first | (simp only [List.getElem?_toArray, List.getElem?_cons_succ, List.getElem?_cons_zero] <;> rfl) | rfl) (by kernel_rfl) (by kernel_rfl) (by kernel_rfl) (by exact fun _ _ _ h => h) (Or.inl ⟨by rfl, ?_⟩) hHeld0 ?_
                      rotate_left 1
                      · intro w hSw
                        try dsimp only at hSw
                        (go_simp) <;> (with_reducible rfl)
                      try simp only [Act.put, List.setIfInBounds_toArray, List.set_cons_zero, List.set_cons_succ]
                      refine wpAnyH_take (i := 20) (v := ?_) (by first | (simp only [List.getElem?_toArray, List.getElem?_cons_succ, List.getElem?_cons_zero] <;> rfl) | rfl) (by kernel_rfl) (by kernel_rfl) (by kernel_rfl) (by exact fun _ _ _ h => h) (Or.inl ⟨by rfl, ?_⟩) hHeld0 ?_
                      rotate_left 1
                      · intro w hSw
                        try dsimp only at hSw
                        (go_simp) <;> (with_reducible rfl)
                      try simp only [Act.put, List.setIfInBounds_toArray, List.set_cons_zero, List.set_cons_succ]
                      refine wpAnyH_take (i := 21) (v := ?_) (by first | (simp only [List.getElem?_toArray, List.getElem?_cons_succ, List.getElem?_cons_zero] <;> rfl) | rfl) (by kernel_rfl) (by kernel_rfl) (by kernel_rfl) (by exact fun _ _ _ h => h) (Or.inl ⟨by rfl, ?_⟩) hHeld0 ?_
                      rotate_left 1
                      · intro w hSw
                        try dsimp only at hSw
                        (go_simp) <;> (with_reducible rfl)
                      try simp only [Act.put, List.setIfInBounds_toArray, List.set_cons_zero, List.set_cons_succ]
                      refine wpAnyH_take (i := 22) (v := ?_) (by first | (simp only [List.getElem?_toArray, List.getElem?_cons_succ, List.getElem?_cons_zero] <;> rfl) | rfl) (by kernel_rfl) (by kernel_rfl) (by kernel_rfl) (by exact fun _ _ _ h => h) (Or.inl ⟨by rfl, ?_⟩) hHeld0 ?_
                      rotate_left 1
                      · intro w hSw
                        try dsimp only at hSw
                        (go_simp) <;> (with_reducible rfl)
                      try simp only [Act.put, List.setIfInBounds_toArray, List.set_cons_zero, List.set_cons_succ]
                      refine wpAnyH_take (i := 23) (v := ?_) (by first | (simp only [List.getElem?_toArray, List.getElem?_cons_succ, List.getElem?_cons_zero] <;> rfl) | rfl) (by kernel_rfl) (by kernel_rfl) (by kernel_rfl) (by exact fun _ _ _ h => h) (Or.inl ⟨by rfl, ?_⟩) hHeld0 ?_
                      rotate_left 1
                      · intro w hSw
                        try dsimp only at hSw
                        (go_simp) <;> (with_reducible rfl)
                      try simp only [Act.put, List.setIfInBounds_toArray, List.set_cons_zero, List.set_cons_succ]
                      refine wpAnyH_take (i := 24) (v := ?_) (by first | (simp only [List.getElem?_toArray, List.getElem?_cons_succ, List.getElem?_cons_zero] <;> rfl) | rfl) (by kernel_rfl) (by kernel_rfl) (by kernel_rfl) (by exact fun _ _ _ h => h) (Or.inl ⟨by rfl, ?_⟩) hHeld0 ?_
                      rotate_left 1
                      · intro w hSw
                        try dsimp only at hSw
                        (go_simp) <;> (with_reducible rfl)
                      try simp only [Act.put, List.setIfInBounds_toArray, List.set_cons_zero, List.set_cons_succ]
                      refine wpAnyH_take (i := 25) (v := ?_) (by first | (simp only [List.getElem?_toArray, List.getElem?_cons_succ, List.getElem?_cons_zero] <;> rfl) | rfl) (by kernel_rfl) (by kernel_rfl) (by kernel_rfl) (by exact fun _ _ _ h => h) (Or.inl ⟨by rfl, ?_⟩) hHeld0 ?_
                      rotate_left 1
                      · intro w hSw
                        try dsimp only at hSw
                        (go_simp) <;> (with_reducible rfl)
                      try simp only [Act.put, List.setIfInBounds_toArray, List.set_cons_zero, List.set_cons_succ]
                      refine wpAnyH_take (i := 26) (v := ?_) (by first | (simp only [List.getElem?_toArray, List.getElem?_cons_succ, List.getElem?_cons_zero] <;> rfl) | rfl) (by kernel_rfl) (by kernel_rfl) (by kernel_rfl) (by exact fun _ _ _ h => h) (Or.inl ⟨by rfl, ?_⟩) hHeld0 ?_
                      rotate_left 1
                      · intro w hSw
                        try dsimp only at hSw
                        (go_simp) <;> (with_reducible rfl)
                      try simp only [Act.put, List.setIfInBounds_toArray, List.set_cons_zero, List.set_cons_succ]
                      refine wpAnyH_take (i := 27) (v := ?_) (by first | (simp only [List.getElem?_toArray, List.getElem?_cons_succ, List.getElem?_cons_zero] <;> rfl) | rfl) (by kernel_rfl) (by kernel_rfl) (by kernel_rfl) (by exact fun _ _ _ h => h) (Or.inl ⟨by rfl, ?_⟩) hHeld0 ?_
                      rotate_left 1
                      · intro w hSw
                        try dsimp only at hSw
                        (go_simp) <;> (with_reducible rfl)
                      try simp only [Act.put, List.setIfInBounds_toArray, List.set_cons_zero, List.set_cons_succ]
                      refine wpAnyH_take (i := 28) (v := ?_) (by first | (simp only [List.getElem?_toArray, List.getElem?_cons_succ, List.getElem?_cons_zero] <;> rfl) | rfl) (by kernel_rfl) (by kernel_rfl) (by kernel_rfl) (by exact fun _ _ _ h => h) (Or.inl ⟨by rfl, ?_⟩) hHeld0 ?_
                      rotate_left 1
                      · intro w hSw
                        try dsimp only at hSw
                        (go_simp) <;> (with_reducible rfl)
                      try simp only [Act.put, List.setIfInBounds_toArray, List.set_cons_zero, List.set_cons_succ]
                      refine wpAnyH_take (i := 29) (v := ?_) (by first | (simp only [List.getElem?_toArray, List.getElem?_cons_succ, List.getElem?_cons_zero] <;> rfl) | rfl) (by kernel_rfl) (by kernel_rfl) (by kernel_rfl) (by exact fun _ _ _ h => h) (Or.inl ⟨by rfl, ?_⟩) hHeld0 ?_
                      rotate_left 1
                      · intro w hSw
                        try dsimp only at hSw
                        (go_simp) <;> (with_reducible rfl)
                      try simp only [Act.put, List.setIfInBounds_toArray, List.set_cons_zero, List.set_cons_succ]
                      refine wpAnyH_take (i := 30) (v := ?_) (by first | (simp only [List.getElem?_toArray, List.getElem?_cons_succ, List.getElem?_cons_zero] <;> rfl) | rfl) (by kernel_rfl) (by kernel_rfl) (by kernel_rfl) (by exact fun _ _ _ h => h) (Or.inl ⟨by rfl, ?_⟩) hHeld0 ?_
                      rotate_left 1
                      · intro w hSw
                        try dsimp only at hSw
                        (go_simp) <;> (with_reducible rfl)
                      try simp only [Act.put, List.setIfInBounds_toArray, List.set_cons_zero, List.set_cons_succ]
                      refine wpAnyH_take (i := 31) (v := ?_) (by first | (simp only [List.getElem?_toArray, List.getElem?_cons_succ, List.getElem?_cons_zero] <;> rfl) | rfl) (by kernel_rfl) (by kernel_rfl) (by kernel_rfl) (by exact fun _ _ _ h => h) (Or.inl ⟨by rfl, ?_⟩) hHeld0 ?_
                      rotate_left 1
                      · intro w hSw
                        try dsimp only at hSw
                        (go_simp) <;> (with_reducible rfl)
                      try simp only [Act.put, List.setIfInBounds_toArray, List.set_cons_zero, List.set_cons_succ]
                      refine wpAnyH_take (i := 32) (v := ?_) (by first | (simp only [List.getElem?_toArray, List.getElem?_cons_succ, List.getElem?_cons_zero] <;> rfl) | rfl) (by kernel_rfl) (by kernel_rfl) (by kernel_rfl) (by exact fun _ _ _ h => h) (Or.inl ⟨by rfl, ?_⟩) hHeld0 ?_
                      rotate_left 1
                      · intro w hSw
                        try dsimp only at hSw
                        (go_simp) <;> (with_reducible rfl)
                      try simp only [Act.put, List.setIfInBounds_toArray, List.set_cons_zero, List.set_cons_succ]
                      refine wpAnyH_take (i := 33) (v := ?_) (by first | (simp only [List.getElem?_toArray, List.getElem?_cons_succ, List.getElem?_cons_zero] <;> rfl) | rfl) (by kernel_rfl) (by kernel_rfl) (by kernel_rfl) (by exact fun _ _ _ h => h) (Or.inl ⟨by rfl, ?_⟩) hHeld0 ?_
                      rotate_left 1
                      · intro w hSw
                        try dsimp only at hSw
                        (go_simp) <;> (with_reducible rfl)
                      try simp only [Act.put, List.setIfInBounds_toArray, List.set_cons_zero, List.set_cons_succ]
                      refine wpAnyH_take (i := 34) (v := ?_) (by first | (simp only [List.getElem?_toArray, List.getElem?_cons_succ, List.getElem?_cons_zero] <;> rfl) | rfl) (by kernel_rfl) (by kernel_rfl) (by kernel_rfl) (by exact fun _ _ _ h => h) (Or.inl ⟨by rfl, ?_⟩) hHeld0 ?_
                      rotate_left 1
                      · intro w hSw
                        try dsimp only at hSw
                        (go_simp) <;> (with_reducible rfl)
                      try simp only [Act.put, List.setIfInBounds_toArray, List.set_cons_zero, List.set_cons_succ]
                      refine wpAnyH_take (i := 35) (v := ?_) (by first | (simp only [List.getElem?_toArray, List.getElem?_cons_succ, List.getElem?_cons_zero] <;> rfl) | rfl) (by kernel_rfl) (by kernel_rfl) (by kernel_rfl) (by exact fun _ _ _ h => h) (Or.inl ⟨by rfl, ?_⟩) hHeld0 ?_
                      rotate_left 1
                      · intro w hSw
                        try dsimp only at hSw
                        (go_simp) <;> (with_reducible rfl)
                      try simp only [Act.put, List.setIfInBounds_toArray, List.set_cons_zero, List.set_cons_succ]
                      refine wpAnyH_take (i := 36) (v := ?_) (by first | (simp only [List.getElem?_toArray, List.getElem?_cons_succ, List.getElem?_cons_zero] <;> rfl) | rfl) (by kernel_rfl) (by kernel_rfl) (by kernel_rfl) (by exact fun _ _ _ h => h) (Or.inl ⟨by rfl, ?_⟩) hHeld0 ?_
                      rotate_left 1
                      · intro w hSw
                        try dsimp only at hSw
                        (go_simp) <;> (with_reducible rfl)
                      try simp only [Act.put, List.setIfInBounds_toArray, List.set_cons_zero, List.set_cons_succ]
                      refine wpAnyH_take (i := 37) (v := ?_) (by first | (simp only [List.getElem?_toArray, List.getElem?_cons_succ, List.getElem?_cons_zero] <;> rfl) | rfl) (by kernel_rfl) (by kernel_rfl) (by kernel_rfl) (by exact fun _ _ _ h => h) (Or.inl ⟨by rfl, ?_⟩) hHeld0 ?_
                      rotate_left 1
                      · intro w hSw
                        try dsimp only at hSw
                        (go_simp) <;> (with_reducible rfl)
                      try simp only [Act.put, List.setIfInBounds_toArray, List.set_cons_zero, List.set_cons_succ]
                      refine wpAnyH_take (i := 38) (v := ?_) (by first | (simp only [List.getElem?_toArray, List.getElem?_cons_succ, List.getElem?_cons_zero] <;> rfl) | rfl) (by kernel_rfl) (by kernel_rfl) (by kernel_rfl) (by exact fun _ _ _ h => h) (Or.inl ⟨by rfl, ?_⟩) hHeld0 ?_
                      rotate_left 1
                      · intro w hSw
                        try dsimp only at hSw
                        (go_simp) <;> (with_reducible rfl)
                      try simp only [Act.put, List.setIfInBounds_toArray, List.set_cons_zero, List.set_cons_succ]
                      refine wpAnyH_take (i := 39) (v := ?_) (by first | (simp only [List.getElem?_toArray, List.getElem?_cons_succ, List.getElem?_cons_zero] <;> rfl) | rfl) (by kernel_rfl) (by kernel_rfl) (by kernel_rfl) (by exact fun _ _ _ h => h) (Or.inl ⟨by rfl, ?_⟩) hHeld0 ?_
                      rotate_left 1
                      · intro w hSw
                        try dsimp only at hSw
                        (go_simp) <;> (with_reducible rfl)
                      try simp only [Act.put, List.setIfInBounds_toArray, List.set_cons_zero, List.set_cons_succ]
                      refine wpAnyH_take (i := 40) (v := ?_) (by first | (simp only [List.getElem?_toArray, List.getElem?_cons_succ, List.getElem?_cons_zero] <;> rfl) | rfl) (by kernel_rfl) (by kernel_rfl) (by kernel_rfl) (by exact fun _ _ _ h => h) (Or.inl ⟨by rfl, ?_⟩) hHeld0 ?_
                      rotate_left 1
                      · intro w hSw
                        try dsimp only at hSw
                        (go_simp) <;> (with_reducible rfl)
                      try simp only [Act.put, List.setIfInBounds_toArray, List.set_cons_zero, List.set_cons_succ]
                      refine wpAnyH_ready (rs := [41]) (by kernel_rfl) (by simp) ?_
                      refine AllReadyH.cons (by first | (simp only [List.getElem?_toArray, List.getElem?_cons_succ, List.getElem?_cons_zero] <;> rfl) | rfl) (fun K hK => ?_) ?_
                      · go_simp
                        refine (new_nil _).mono ?_
                        rintro e w' ⟨rfl, rfl⟩
                        refine hK.out _ _ (HmkS.out _ HBv.out) (fun hHeld1 => ?_)
                        clear hK K hHeld0
                        try simp only [Act.put, List.setIfInBounds_toArray, List.set_cons_zero, List.set_cons_succ]
                        refine wpAnyH_take (i := 42) (v := ?_) (by first | (simp only [List.getElem?_toArray, List.getElem?_cons_succ, List.getElem?_cons_zero] <;> rfl) | rfl) (by kernel_rfl) (by kernel_rfl) (by kernel_rfl) (by exact fun _ _ _ h => h) (Or.inl ⟨by rfl, ?_⟩) hHeld1 ?_
                        rotate_left 1
                        · intro w hSw
                          try dsimp only at hSw
                          (go_simp) <;> (with_reducible rfl)
                        try simp only [Act.put, List.setIfInBounds_toArray, List.set_cons_zero, List.set_cons_succ]
                        refine wpAnyH_take (i := 43) (v := ?_) (by first | (simp only [List.getElem?_toArray, List.getElem?_cons_succ, List.getElem?_cons_zero] <;> rfl) | rfl) (by kernel_rfl) (by kernel_rfl) (by kernel_rfl) (by exact fun _ _ _ h => h) (Or.inl ⟨by rfl, ?_⟩) hHeld1 ?_
                        rotate_left 1
                        · intro w hSw
                          try dsimp only at hSw
                          (go_simp) <;> (with_reducible rfl)
                        try simp only [Act.put, List.setIfInBounds_toArray, List.set_cons_zero, List.set_cons_succ]
                        refine wpAnyH_take (i := 44) (v := ?_) (by first | (simp only [List.getElem?_toArray, List.getElem?_cons_succ, List.getElem?_cons_zero] <;> rfl) | rfl) (by kernel_rfl) (by kernel_rfl) (by kernel_rfl) (by exact fun _ _ _ h => h) (Or.inl ⟨by rfl, ?_⟩) hHeld1 ?_
                        rotate_left 1
                        · intro w hSw
                          try dsimp only at hSw
                          (go_simp) <;> (with_reducible rfl)
                        try simp only [Act.put, List.setIfInBounds_toArray, List.set_cons_zero, List.set_cons_succ]
                        refine wpAnyH_take (i := 45) (v := ?_) (by first | (simp only [List.getElem?_toArray, List.getElem?_cons_succ, List.getElem?_cons_zero] <;> rfl) | rfl) (by kernel_rfl) (by kernel_rfl) (by kernel_rfl) (by exact fun _ _ _ h => h) (Or.inl ⟨by rfl, ?_⟩) hHeld1 ?_
                        rotate_left 1
                        · intro w hSw
                          try dsimp only at hSw
                          (go_simp) <;> (with_reducible rfl)
                        try simp only [Act.put, List.setIfInBounds_toArray, List.set_cons_zero, List.set_cons_succ]
                        refine wpAnyH_ready (rs := [46]) (by kernel_rfl) (by simp) ?_
                        refine AllReadyH.cons (by first | (simp only [List.getElem?_toArray, List.getElem?_cons_succ, List.getElem?_cons_zero] <;> rfl) | rfl) (fun K hK => ?_) ?_
                        · go_simp
                          refine (parts_nil _).mono ?_
                          rintro e w' ⟨rfl, rfl⟩
                          refine hK.out _ _ (HmkS.out _ HBv.out) (fun hHeld2 => ?_)
                          clear hK K hHeld1
                          try simp only [Act.put, List.setIfInBounds_toArray, List.set_cons_zero, List.set_cons_succ]
                          refine wpAnyH_take (i := 47) (v := ?_) (by first | (simp only [List.getElem?_toArray, List.getElem?_cons_succ, List.getElem?_cons_zero] <;> rfl) | rfl) (by kernel_rfl) (by kernel_rfl) (by kernel_rfl) (by exact fun _ _ _ h => h) (Or.inl ⟨by rfl, ?_⟩) hHeld2 ?_
                          rotate_left 1
                          · intro w hSw
                            try dsimp only at hSw
                            (go_simp) <;> (with_reducible rfl)
                          try simp only [Act.put, List.setIfInBounds_toArray, List.set_cons_zero, List.set_cons_succ]
                          refine wpAnyH_take (i := 48) (v := ?_) (by first | (simp only [List.getElem?_toArray, List.getElem?_cons_succ, List.getElem?_cons_zero] <;> rfl) | rfl) (by kernel_rfl) (by kernel_rfl) (by kernel_rfl) (by exact fun _ _ _ h => h) (Or.inl ⟨by rfl, ?_⟩) hHeld2 ?_
                          rotate_left 1
                          · intro w hSw
                            try dsimp only at hSw
                            (go_simp) <;> (with_reducible rfl)
                          try simp only [Act.put, List.setIfInBounds_toArray, List.set_cons_zero, List.set_cons_succ]
                          refine wpAnyH_take (i := 49) (v := ?_) (by first | (simp only [List.getElem?_toArray, List.getElem?_cons_succ, List.getElem?_cons_zero] <;> rfl) | rfl) (by kernel_rfl) (by kernel_rfl) (by kernel_rfl) (by exact fun _ _ _ h => h) (Or.inl ⟨by rfl, ?_⟩) hHeld2 ?_
                          rotate_left 1
                          · intro w hSw
                            try dsimp only at hSw
                            (go_simp) <;> (with_reducible rfl)
                          try simp only [Act.put, List.setIfInBounds_toArray, List.set_cons_zero, List.set_cons_succ]
                          refine wpAnyH_take (i := 50) (v := ?_) (by first | (simp only [List.getElem?_toArray, List.getElem?_cons_succ, List.getElem?_cons_zero] <;> rfl) | rfl) (by kernel_rfl) (by kernel_rfl) (by kernel_rfl) (by exact fun _ _ _ h => h) (Or.inl ⟨by rfl, ?_⟩) hHeld2 ?_
                          rotate_left 1
                          · intro w hSw
                            try dsimp only at hSw
                            (go_simp) <;> (with_reducible rfl)
                          try simp only [Act.put, List.setIfInBounds_toArray, List.set_cons_zero, List.set_cons_succ]
                          refine wpAnyH_take (i := 51) (v := ?_) (by first | (simp only [List.getElem?_toArray, List.getElem?_cons_succ, List.getElem?_cons_zero] <;> rfl) | rfl) (by kernel_rfl) (by kernel_rfl) (by kernel_rfl) (by exact fun _ _ _ h => h) (Or.inl ⟨by rfl, ?_⟩) hHeld2 ?_
                          rotate_left 1
                          · intro w hSw
                            try dsimp only at hSw
                            (go_simp) <;> (with_reducible rfl)
                          try simp only [Act.put, List.setIfInBounds_toArray, List.set_cons_zero, List.set_cons_succ]
                          refine wpAnyH_take (i := 54) (v := ?_) (by first | (simp only [List.getElem?_toArray, List.getElem?_cons_succ, List.getElem?_cons_zero] <;> rfl) | rfl) (by kernel_rfl) (by kernel_rfl) (by kernel_rfl) (by exact fun _ _ _ h => h) (Or.inl ⟨by rfl, ?_⟩) hHeld2 ?_
                          rotate_left 1
                          · intro w hSw
                            try dsimp only at hSw
                            (go_simp) <;> (with_reducible rfl)
                          try simp only [Act.put, List.setIfInBounds_toArray, List.set_cons_zero, List.set_cons_succ]
                          refine wpAnyH_take (i := 55) (v := ?_) (by first | (simp only [List.getElem?_toArray, List.getElem?_cons_succ, List.getElem?_cons_zero] <;> rfl) | rfl) (by kernel_rfl) (by kernel_rfl) (by kernel_rfl) (by exact fun _ _ _ h => h) (Or.inl ⟨by rfl, ?_⟩) hHeld2 ?_
                          rotate_left 1
                          · intro w hSw
                            try dsimp only at hSw
                            (go_simp) <;> (with_reducible rfl)
                          try simp only [Act.put, List.setIfInBounds_toArray, List.set_cons_zero, List.set_cons_succ]
                          refine wpAnyH_ready (rs := [52]) (by kernel_rfl) (by simp) ?_
                          refine AllReadyH.cons (by first | (simp only [List.getElem?_toArray, List.getElem?_cons_succ, List.getElem?_cons_zero] <;> rfl) | rfl) (fun K hK => ?_) ?_
                          · go_simp
                            refine (HRef.out _).mono ?_
                            rintro e vh3 ⟨rfl, hbb⟩
                            have HBn := Lib.hid (HBv.out.trans (hbb.mono HBv.out.size))
                            clear hbb
                            refine hK.out _ _ (HmkS.out _ HBn.out) (fun hHeld3 => ?_)
                            clear hK K
                            have HBv := HBn
                            clear HBn hHeld2
                            try simp only [Act.put, List.setIfInBounds_toArray, List.set_cons_zero, List.set_cons_succ]
                            refine wpAnyH_take (i := 53) (v := ?_) (by first | (simp only [List.getElem?_toArray, List.getElem?_cons_succ, List.getElem?_cons_zero] <;> rfl) | rfl) (by kernel_rfl) (by kernel_rfl) (by kernel_rfl) (by exact fun _ _ _ h => h) (Or.inl ⟨by rfl, ?_⟩) hHeld3 ?_
                            rotate_left 1
                            · intro w hSw
                              try dsimp only at hSw
                              (go_simp) <;> (with_reducible rfl)
                            try simp only [Act.put, List.setIfInBounds_toArray, List.set_cons_zero, List.set_cons_succ]
                            refine wpAnyH_take (i := 56) (v := ?_) (by first | (simp only [List.getElem?_toArray, List.getElem?_cons_succ, List.getElem?_cons_zero] <;> rfl) | rfl) (by kernel_rfl) (by kernel_rfl) (by kernel_rfl) (by exact fun _ _ _ h => h) (Or.inl ⟨by rfl, ?_⟩) hHeld3 ?_
                            rotate_left 1
                            · intro w hSw
                              try dsimp only at hSw
                              (go_simp) <;> (with_reducible rfl)
                            try simp only [Act.put, List.setIfInBounds_toArray, List.set_cons_zero, List.set_cons_succ]
                            refine wpAnyH_take (i := 57) (v := ?_) (by first | (simp only [List.getElem?_toArray, List.getElem?_cons_succ, List.getElem?_cons_zero] <;> rfl) | rfl) (by kernel_rfl) (by kernel_rfl) (by kernel_rfl) (by exact fun _ _ _ h => h) (Or.inl ⟨by rfl, ?_⟩) hHeld3 ?_
                            rotate_left 1
                            · intro w hSw
                              try dsimp only at hSw
                              (go_simp) <;> (with_reducible rfl)
                            try simp only [Act.put, List.setIfInBounds_toArray, List.set_cons_zero, List.set_cons_succ]
                            refine wpAnyH_take (i := 58) (v := ?_) (by first | (simp only [List.getElem?_toArray, List.getElem?_cons_succ, List.getElem?_cons_zero] <;> rfl) | rfl) (by kernel_rfl) (by kernel_rfl) (by kernel_rfl) (by exact fun _ _ _ h => h) (Or.inl ⟨by rfl, ?_⟩) hHeld3 ?_
                            rotate_left 1
                            · intro w hSw
                              try dsimp only at hSw
                              (go_simp) <;> (with_reducible rfl)
                            try simp only [Act.put, List.setIfInBounds_toArray, List.set_cons_zero, List.set_cons_succ]
                            refine wpAnyH_done (by kernel_rfl) ?_ _
                            clear hHeld3
                            go_wp2_with fail
                            go_ret
                            exact ⟨rfl, HB.out.trans (HBv.out.mono HB.out.size)⟩
                          exact AllReadyH.nil
                        exact AllReadyH.nil
                      exact AllReadyH.nil
                    · have j1 : ((z5 : Int) == 5) = false := by rw [beq_eq_false_iff_ne]; omega
                      have j2 : ((ea : Int) == 210) = false := by rw [HEA.out, if_neg h5]; rfl
                      have j3 : ((ea : Int) == 0) = true := by rw [HEA.out, if_neg h5]; rfl
                      clear h5
                      refine wp_region_held_drew (S := (fun W => W.cell? ⟨xb, 0, none⟩ = some (.int .u16 i.c) ∧ W.cell? ⟨xb, 1, none⟩ = some (.int .u8 i.t) ∧ W.cell? ⟨xb, 2, none⟩ = some (.int .u8 i.f) ∧ W.cell? ⟨xb, 3, none⟩ = some (.int .u32 i.k) ∧ xb < W.heap.size)) (by kernel_rfl) ?_ (fun hHeld0 => ?_)
                      · exact HmkS.out _ HBv.out
                      refine wpAnyH_take (i := 0) (v := ?_) (by first | (simp only [List.getElem?_toArray, List.getElem?_cons_zero] <;> rfl) | rfl) (by kernel_rfl) (by kernel_rfl) (by kernel_rfl) (by exact fun _ _ _ h => h) (Or.inl ⟨by rfl, ?_⟩) hHeld0 ?_
                      rotate_left 1
                      · intro w hSw
                        try dsimp only at hSw
                        (go_simp) <;> (with_reducible rfl)
                      try simp only [Act.put, List.setIfInBounds_toArray, List.set_cons_zero, List.set_cons_succ]
                      refine wpAnyH_take (i := 1) (v := ?_) (by first | (simp only [List.getElem?_toArray, List.getElem?_cons_succ, List.getElem?_cons_zero] <;> rfl) | rfl) (by kernel_rfl) (by kernel_rfl) (by kernel_rfl) (by exact fun _ _ _ h => h) (Or.inl ⟨by rfl, ?_⟩) hHeld0 ?_
                      rotate_left 1
                      · intro w hSw
                        try dsimp only at hSw
                        (go_simp) <;> (with_reducible rfl)
                      try simp only [Act.put, List.setIfInBounds_toArray, List.set_cons_zero, List.set_cons_succ]
                      refine wpAnyH_take (i := 2) (v := ?_) (by first | (simp only [List.getElem?_toArray, List.getElem?_cons_succ, List.getElem?_cons_zero] <;> rfl) | rfl) (by kernel_rfl) (by kernel_rfl) (by kernel_rfl) (by exact fun _ _ _ h => h) (Or.inl ⟨by rfl, ?_⟩) hHeld0 ?_
                      rotate_left 1
                      · intro w hSw
                        try dsimp only at hSw
                        (go_simp) <;> (with_reducible rfl)
                      try simp only [Act.put, List.setIfInBounds_toArray, List.set_cons_zero, List.set_cons_succ]
                      refine wpAnyH_take (i := 3) (v := ?_) (by first | (simp only [List.getElem?_toArray, List.getElem?_cons_succ, List.getElem?_cons_zero] <;> rfl) | rfl) (by kernel_rfl) (by kernel_rfl) (by kernel_rfl) (by exact fun _ _ _ h => h) (Or.inl ⟨by rfl, ?_⟩) hHeld0 ?_
                      rotate_left 1
                      · intro w hSw
                        try dsimp only at hSw
                        (go_simp) <;> (with_reducible rfl)
                      try simp only [Act.put, List.setIfInBounds_toArray, List.set_cons_zero, List.set_cons_succ]
                      refine wpAnyH_take (i := 4) (v := ?_) (by first | (simp only [List.getElem?_toArray, List.getElem?_cons_succ, List.getElem?_cons_zero] <;> rfl) | rfl) (by kernel_rfl) (by kernel_rfl) (by kernel_rfl) (by exact fun _ _ _ h => h) (Or.inl ⟨by rfl, ?_⟩) hHeld0 ?_
                      rotate_left 1
                      · intro w hSw
                        try dsimp only at hSw
                        (go_simp) <;> (with_reducible rfl)
                      try simp only [Act.put, List.setIfInBounds_toArray, List.set_cons_zero, List.set_cons_succ]
                      refine wpAnyH_take (i := 5) (v := ?_) (by first | (simp only [List.getElem?_toArray, List.getElem?_cons_succ, List.getElem?_cons_zero] <;> rfl) | rfl) (by kernel_rfl) (by kernel_rfl) (by kernel_rfl) (by exact fun _ _ _ h => h) (Or.inl ⟨by rfl, ?_⟩) hHeld0 ?_
                      rotate_left 1
                      · intro w hSw
                        try dsimp only at hSw
                        (go_simp) <;> (with_reducible rfl)
                      try simp only [Act.put, List.setIfInBounds_toArray, List.set_cons_zero, List.set_cons_succ]
                      refine wpAnyH_take (i := 6) (v := ?_) (by first | (simp only [List.getElem?_toArray, List.getElem?_cons_succ, List.getElem?_cons_zero] <;> rfl) | rfl) (by kernel_rfl) (by kernel_rfl) (by kernel_rfl) (by exact fun _ _ _ h => h) (Or.inl ⟨by rfl, ?_⟩) hHeld0 ?_
                      rotate_left 1
                      · intro w hSw
                        try dsimp only at hSw
                        (go_simp) <;> (with_reducible rfl)
                      try simp only [Act.put, List.setIfInBounds_toArray, List.set_cons_zero, List.set_cons_succ]
                      refine wpAnyH_take (i := 7) (v := ?_) (by first | (simp only [List.getElem?_toArray, List.getElem?_cons_succ, List.getElem?_cons_zero] <;> rfl) | rfl) (by kernel_rfl) (by kernel_rfl) (by kernel_rfl) (by exact fun _ _ _ h => h) (Or.inl ⟨by rfl, ?_⟩) hHeld0 ?_
                      rotate_left 1
                      · intro w hSw
                        try dsimp only at hSw
                        (go_simp) <;> (with_reducible rfl)
                      try simp only [Act.put, List.setIfInBounds_toArray, List.set_cons_zero, List.set_cons_succ]
                      refine wpAnyH_take (i := 8) (v := ?_) (by first | (simp only [List.getElem?_toArray, List.getElem?_cons_succ, List.getElem?_cons_zero] <;> rfl) | rfl) (by kernel_rfl) (by kernel_rfl) (by kernel_rfl) (by exact fun _ _ _ h => h) (Or.inl ⟨by rfl, ?_⟩) hHeld0 ?_
                      rotate_left 1
                      · intro w hSw
                        try dsimp only at hSw
                        (go_simp) <;> (with_reducible rfl)
                      try simp only [Act.put, List.setIfInBounds_toArray, List.set_cons_zero, List.set_cons_succ]
                      refine wpAnyH_take (i := 9) (v := ?_) (by first | (simp only [List.getElem?_toArray, List.getElem?_cons_succ, List.getElem?_cons_zero] <;> rfl) | rfl) (by kernel_rfl) (by kernel_rfl) (by kernel_rfl) (by exact fun _ _ _ h => h) (Or.inl ⟨by rfl, ?_⟩) hHeld0 ?_
                      rotate_left 1
                      · intro w hSw
                        try dsimp only at hSw
                        (go_simp) <;> (with_reducible rfl)
                      try simp only [Act.put, List.setIfInBounds_toArray, List.set_cons_zero, List.set_cons_succ]
                      refine wpAnyH_take (i := 10) (v := ?_) (by first | (simp only [List.getElem?_toArray, List.getElem?_cons_succ, List.getElem?_cons_zero] <;> rfl) | rfl) (by kernel_rfl) (by kernel_rfl) (by kernel_rfl) (by exact fun _ _ _ h => h) (Or.inl ⟨by rfl, ?_⟩) hHeld0 ?_
                      rotate_left 1
                      · intro w hSw
                        try dsimp only at hSw
                        (go_simp) <;> (with_reducible rfl)
                      try simp only [Act.put, List.setIfInBounds_toArray, List.set_cons_zero, List.set_cons_succ]
                      refine wpAnyH_take (i := 11) (v := ?_) (by first | (simp only [List.getElem?_toArray, List.getElem?_cons_succ, List.getElem?_cons_zero] <;> rfl) | rfl) (by kernel_rfl) (by kernel_rfl) (by kernel_rfl) (by exact fun _ _ _ h => h) (Or.inl ⟨by rfl, ?_⟩) hHeld0 ?_
                      rotate_left 1
                      · intro w hSw
                        try dsimp only at hSw
                        (go_simp) <;> (with_reducible rfl)
                      try simp only [Act.put, List.setIfInBounds_toArray, List.set_cons_zero, List.set_cons_succ]
                      refine wpAnyH_take (i := 12) (v := ?_) (by first | (simp only [List.getElem?_toArray, List.getElem?_cons_succ, List.getElem?_cons_zero] <;> rfl) | rfl) (by kernel_rfl) (by kernel_rfl) (by kernel_rfl) (by exact fun _ _ _ h => h) (Or.inl ⟨by rfl, ?_⟩) hHeld0 ?_
                      rotate_left 1
                      · intro w hSw
                        try dsimp only at hSw
                        (go_simp) <;> (with_reducible rfl)
                      try simp only [Act.put, List.setIfInBounds_toArray, List.set_cons_zero, List.set_cons_succ]
                      refine wpAnyH_take (i := 13) (v := ?_) (by first | (simp only [List.getElem?_toArray, List.getElem?_cons_succ, List.getElem?_cons_zero] <;> rfl) | rfl) (by kernel_rfl) (by kernel_rfl) (by kernel_rfl) (by exact fun _ _ _ h => h) (Or.inl ⟨by rfl, ?_⟩) hHeld0 ?_
                      rotate_left 1
                      · intro w hSw
                        try dsimp only at hSw
                        (go_simp) <;> (with_reducible rfl)
                      try simp only [Act.put, List.setIfInBounds_toArray, List.set_cons_zero, List.set_cons_succ]
                      refine wpAnyH_take (i := 14) (v := ?_) (by first | (simp only [List.getElem?_toArray, List.getElem?_cons_succ, List.getElem?_cons_zero] <;> rfl) | rfl) (by kernel_rfl) (by kernel_rfl) (by kernel_rfl) (by exact fun _ _ _ h => h) (Or.inl ⟨by rfl, ?_⟩) hHeld0 ?_
                      rotate_left 1
                      · intro w hSw
                        try dsimp only at hSw
                        (go_simp) <;> (with_reducible rfl)
                      try simp only [Act.put, List.setIfInBounds_toArray, List.set_cons_zero, List.set_cons_succ]
                      refine wpAnyH_take (i := 15) (v := ?_) (by first | (simp only [List.getElem?_toArray, List.getElem?_cons_succ, List.getElem?_cons_zero] <;> rfl) | rfl) (by kernel_rfl) (by kernel_rfl) (by kernel_rfl) (by exact fun _ _ _ h => h) (Or.inl ⟨by rfl, ?_⟩) hHeld0 ?_
                      rotate_left 1
                      · intro w hSw
                        try dsimp only at hSw
                        (go_simp) <;> (with_reducible rfl)
                      try simp only [Act.put, List.setIfInBounds_toArray, List.set_cons_zero, List.set_cons_succ]
                      refine wpAnyH_take (i := 16) (v := ?_) (by first | (simp only [List.getElem?_toArray, List.getElem?_cons_succ, List.getElem?_cons_zero] <;> rfl) | rfl) (by kernel_rfl) (by kernel_rfl) (by kernel_rfl) (by exact fun _ _ _ h => h) (Or.inl ⟨by rfl, ?_⟩) hHeld0 ?_
                      rotate_left 1
                      · intro w hSw
                        try dsimp only at hSw
                        (go_simp) <;> (with_reducible rfl)
                      try simp only [Act.put, List.setIfInBounds_toArray, List.set_cons_zero, List.set_cons_succ]
                      refine wpAnyH_take (i := 17) (v := ?_) (by first | (simp only [List.getElem?_toArray, List.getElem?_cons_succ, List.getElem?_cons_zero] <;> rfl) | rfl) (by kernel_rfl) (by kernel_rfl) (by kernel_rfl) (by exact fun _ _ _ h => h) (Or.inl ⟨by rfl, ?_⟩) hHeld0 ?_
                      rotate_left 1
                      · intro w hSw
                        try dsimp only at hSw
                        (go_simp) <;> (with_reducible rfl)
                      try simp only [Act.put, List.setIfInBounds_toArray, List.set_cons_zero, List.set_cons_succ]
                      refine wpAnyH_take (i := 18) (v := ?_) (by first | (simp only [List.getElem?_toArray, List.getElem?_cons_succ, List.getElem?_cons_zero] <;> rfl) | rfl) (by kernel_rfl) (by kernel_rfl) (by kernel_rfl) (by exact fun _ _ _ h => h) (Or.inl ⟨by rfl, ?_⟩) hHeld0 ?_
                      rotate_left 1
                      · intro w hSw
                        try dsimp only at hSw
                        (go_simp) <;> (with_reducible rfl)
                      try simp only [Act.put, List.setIfInBounds_toArray, List.set_cons_zero, List.set_cons_succ]
                      refine wpAnyH_take (i := 19) (v := ?_) (by first | (simp only [List.getElem?_toArray, List.getElem?_cons_succ, List.getElem?_cons_zero] <;> rfl) | rfl) (by kernel_rfl) (by kernel_rfl) (by kernel_rfl) (by exact fun _ _ _ h => h) (Or.inl ⟨by rfl, ?_⟩) hHeld0 ?_
                      rotate_left 1
                      · intro w hSw
                        try dsimp only at hSw
                        (go_simp) <;> (with_reducible rfl)
                      try simp only [Act.put, List.setIfInBounds_toArray, List.set_cons_zero, List.set_cons_succ]
                      refine wpAnyH_take (i := 20) (v := ?_) (by first | (simp only [List.getElem?_toArray, List.getElem?_cons_succ, List.getElem?_cons_zero] <;> rfl) | rfl) (by kernel_rfl) (by kernel_rfl) (by kernel_rfl) (by exact fun _ _ _ h => h) (Or.inl ⟨by rfl, ?_⟩) hHeld0 ?_
                      rotate_left 1
                      · intro w hSw
                        try dsimp only at hSw
                        (go_simp) <;> (with_reducible rfl)
                      try simp only [Act.put, List.setIfInBounds_toArray, List.set_cons_zero, List.set_cons_succ]
                      refine wpAnyH_take (i := 21) (v := ?_) (by first | (simp only [List.getElem?_toArray, List.getElem?_cons_succ, List.getElem?_cons_zero] <;> rfl) | rfl) (by kernel_rfl) (by kernel_rfl) (by kernel_rfl) (by exact fun _ _ _ h => h) (Or.inl ⟨by rfl, ?_⟩) hHeld0 ?_
                      rotate_left 1
                      · intro w hSw
                        try dsimp only at hSw
                        (go_simp) <;> (with_reducible rfl)
                      try simp only [Act.put, List.setIfInBounds_toArray, List.set_cons_zero, List.set_cons_succ]
                      refine wpAnyH_take (i := 22) (v := ?_) (by first | (simp only [List.getElem?_toArray, List.getElem?_cons_succ, List.getElem?_cons_zero] <;> rfl) | rfl) (by kernel_rfl) (by kernel_rfl) (by kernel_rfl) (by exact fun _ _ _ h => h) (Or.inl ⟨by rfl, ?_⟩) hHeld0 ?_
                      rotate_left 1
                      · intro w hSw
                        try dsimp only at hSw
                        (go_simp) <;> (with_reducible rfl)
                      try simp only [Act.put, List.setIfInBounds_toArray, List.set_cons_zero, List.set_cons_succ]
                      refine wpAnyH_take (i := 23) (v := ?_) (by first | (simp only [List.getElem?_toArray, List.getElem?_cons_succ, List.getElem?_cons_zero] <;> rfl) | rfl) (by kernel_rfl) (by kernel_rfl) (by kernel_rfl) (by exact fun _ _ _ h => h) (Or.inl ⟨by rfl, ?_⟩) hHeld0 ?_
                      rotate_left 1
                      · intro w hSw
                        try dsimp only at hSw
                        (go_simp) <;> (with_reducible rfl)
                      try simp only [Act.put, List.setIfInBounds_toArray, List.set_cons_zero, List.set_cons_succ]
                      refine wpAnyH_take (i := 24) (v := ?_) (by first | (simp only [List.getElem?_toArray, List.getElem?_cons_succ, List.getElem?_cons_zero] <;> rfl) | rfl) (by kernel_rfl) (by kernel_rfl) (by kernel_rfl) (by exact fun _ _ _ h => h) (Or.inl ⟨by rfl, ?_⟩) hHeld0 ?_
                      rotate_left 1
                      · intro w hSw
                        try dsimp only at hSw
                        (go_simp) <;> (with_reducible rfl)
                      try simp only [Act.put, List.setIfInBounds_toArray, List.set_cons_zero, List.set_cons_succ]
                      refine wpAnyH_take (i := 25) (v := ?_) (by first | (simp only [List.getElem?_toArray, List.getElem?_cons_succ, List.getElem?_cons_zero] <;> rfl) | rfl) (by kernel_rfl) (by kernel_rfl) (by kernel_rfl) (by exact fun _ _ _ h => h) (Or.inl ⟨by rfl, ?_⟩) hHeld0 ?_
                      rotate_left 1
                      · intro w hSw
                        try dsimp only at hSw
                        (go_simp) <;> (with_reducible rfl)
                      try simp only [Act.put, List.setIfInBounds_toArray, List.set_cons_zero, List.set_cons_succ]
                      refine wpAnyH_take (i := 26) (v := ?_) (by first | (simp only [List.getElem?_toArray, List.getElem?_cons_succ, List.getElem?_cons_zero] <;> rfl) | rfl) (by kernel_rfl) (by kernel_rfl) (by kernel_rfl) (by exact fun _ _ _ h => h) (Or.inl ⟨by rfl, ?_⟩) hHeld0 ?_
                      rotate_left 1
                      · intro w hSw
                        try dsimp only at hSw
                        (go_simp) <;> (with_reducible rfl)
                      try simp only [Act.put, List.setIfInBounds_toArray, List.set_cons_zero, List.set_cons_succ]
                      refine wpAnyH_take (i := 27) (v := ?_) (by first | (simp only [List.getElem?_toArray, List.getElem?_cons_succ, List.getElem?_cons_zero] <;> rfl) | rfl) (by kernel_rfl) (by kernel_rfl) (by kernel_rfl) (by exact fun _ _ _ h => h) (Or.inl ⟨by rfl, ?_⟩) hHeld0 ?_
                      rotate_left 1
                      · intro w hSw
                        try dsimp only at hSw
                        (go_simp) <;> (with_reducible rfl)
                      try simp only [Act.put, List.setIfInBounds_toArray, List.set_cons_zero, List.set_cons_succ]
                      refine wpAnyH_take (i := 28) (v := ?_) (by first | (simp only [List.getElem?_toArray, List.getElem?_cons_succ, List.getElem?_cons_zero] <;> rfl) | rfl) (by kernel_rfl) (by kernel_rfl) (by kernel_rfl) (by exact fun _ _ _ h => h) (Or.inl ⟨by rfl, ?_⟩) hHeld0 ?_
                      rotate_left 1
                      · intro w hSw
                        try dsimp only at hSw
                        (go_simp) <;> (with_reducible rfl)
                      try simp only [Act.put, List.setIfInBounds_toArray, List.set_cons_zero, List.set_cons_succ]
                      refine wpAnyH_take (i := 29) (v := ?_) (by first | (simp only [List.getElem?_toArray, List.getElem?_cons_succ, List.getElem?_cons_zero] <;> rfl) | rfl) (by kernel_rfl) (by kernel_rfl) (by kernel_rfl) (by exact fun _ _ _ h => h) (Or.inl ⟨by rfl, ?_⟩) hHeld0 ?_
                      rotate_left 1
                      · intro w hSw
                        try dsimp only at hSw
                        (go_simp) <;> (with_reducible rfl)
                      try simp only [Act.put, List.setIfInBounds_toArray, List.set_cons_zero, List.set_cons_succ]
                      refine wpAnyH_take (i := 30) (v := ?_) (by first | (simp only [List.getElem?_toArray, List.getElem?_cons_succ, List.getElem?_cons_zero] <;> rfl) | rfl) (by kernel_rfl) (by kernel_rfl) (by kernel_rfl) (by exact fun _ _ _ h => h) (Or.inl ⟨by rfl, ?_⟩) hHeld0 ?_
                      rotate_left 1
                      · intro w hSw
                        try dsimp only at hSw
                        (go_simp) <;> (with_reducible rfl)
                      try simp only [Act.put, List.setIfInBounds_toArray, List.set_cons_zero, List.set_cons_succ]
                      refine wpAnyH_take (i := 31) (v := ?_) (by first | (simp only [List.getElem?_toArray, List.getElem?_cons_succ, List.getElem?_cons_zero] <;> rfl) | rfl) (by kernel_rfl) (by kernel_rfl) (by kernel_rfl) (by exact fun _ _ _ h => h) (Or.inl ⟨by rfl, ?_⟩) hHeld0 ?_
                      rotate_left 1
                      · intro w hSw
                        try dsimp only at hSw
                        (go_simp) <;> (with_reducible rfl)
                      try simp only [Act.put, List.setIfInBounds_toArray, List.set_cons_zero, List.set_cons_succ]
                      refine wpAnyH_take (i := 32) (v := ?_) (by first | (simp only [List.getElem?_toArray, List.getElem?_cons_succ, List.getElem?_cons_zero] <;> rfl) | rfl) (by kernel_rfl) (by kernel_rfl) (by kernel_rfl) (by exact fun _ _ _ h => h) (Or.inl ⟨by rfl, ?_⟩) hHeld0 ?_
                      rotate_left 1
                      · intro w hSw
                        try dsimp only at hSw
                        (go_simp) <;> (with_reducible rfl)
                      try simp only [Act.put, List.setIfInBounds_toArray, List.set_cons_zero, List.set_cons_succ]
                      refine wpAnyH_take (i := 33) (v := ?_) (by first | (simp only [List.getElem?_toArray, List.getElem?_cons_succ, List.getElem?_cons_zero] <;> rfl) | rfl) (by kernel_rfl) (by kernel_rfl) (by kernel_rfl) (by exact fun _ _ _ h => h) (Or.inl ⟨by rfl, ?_⟩) hHeld0 ?_
                      rotate_left 1
                      · intro w hSw
                        try dsimp only at hSw
                        (go_simp) <;> (with_reducible rfl)
                      try simp only [Act.put, List.setIfInBounds_toArray, List.set_cons_zero, List.set_cons_succ]
                      refine wpAnyH_take (i := 34) (v := ?_) (by first | (simp only [List.getElem?_toArray, List.getElem?_cons_succ, List.getElem?_cons_zero] <;> rfl) | rfl) (by kernel_rfl) (by kernel_rfl) (by kernel_rfl) (by exact fun _ _ _ h => h) (Or.inl ⟨by rfl, ?_⟩) hHeld0 ?_
                      rotate_left 1
                      · intro w hSw
                        try dsimp only at hSw
                        (go_simp) <;> (with_reducible rfl)
                      try simp only [Act.put, List.setIfInBounds_toArray, List.set_cons_zero, List.set_cons_succ]
                      refine wpAnyH_take (i := 35) (v := ?_) (by first | (simp only [List.getElem?_toArray, List.getElem?_cons_succ, List.getElem?_cons_zero] <;> rfl) | rfl) (by kernel_rfl) (by kernel_rfl) (by kernel_rfl) (by exact fun _ _ _ h => h) (Or.inl ⟨by rfl, ?_⟩) hHeld0 ?_
                      rotate_left 1
                      · intro w hSw
                        try dsimp only at hSw
                        (go_simp) <;> (with_reducible rfl)
                      try simp only [Act.put, List.setIfInBounds_toArray, List.set_cons_zero, List.set_cons_succ]
                      refine wpAnyH_take (i := 36) (v := ?_) (by first | (simp only [List.getElem?_toArray, List.getElem?_cons_succ, List.getElem?_cons_zero] <;> rfl) | rfl) (by kernel_rfl) (by kernel_rfl) (by kernel_rfl) (by exact fun _ _ _ h => h) (Or.inl ⟨by rfl, ?_⟩) hHeld0 ?_
                      rotate_left 1
                      · intro w hSw
                        try dsimp only at hSw
                        (go_simp) <;> (with_reducible rfl)
                      try simp only [Act.put, List.setIfInBounds_toArray, List.set_cons_zero, List.set_cons_succ]
                      refine wpAnyH_take (i := 37) (v := ?_) (by first | (simp only [List.getElem?_toArray, List.getElem?_cons_succ, List.getElem?_cons_zero] <;> rfl) | rfl) (by kernel_rfl) (by kernel_rfl) (by kernel_rfl) (by exact fun _ _ _ h => h) (Or.inl ⟨by rfl, ?_⟩) hHeld0 ?_
                      rotate_left 1
                      · intro w hSw
                        try dsimp only at hSw
                        (go_simp) <;> (with_reducible rfl)
                      try simp only [Act.put, List.setIfInBounds_toArray, List.set_cons_zero, List.set_cons_succ]
                      refine wpAnyH_take (i := 38) (v := ?_) (by first | (simp only [List.getElem?_toArray, List.getElem?_cons_succ, List.getElem?_cons_zero] <;> rfl) | rfl) (by kernel_rfl) (by kernel_rfl) (by kernel_rfl) (by exact fun _ _ _ h => h) (Or.inl ⟨by rfl, ?_⟩) hHeld0 ?_
                      rotate_left 1
                      · intro w hSw
                        try dsimp only at hSw
                        (go_simp) <;> (with_reducible rfl)
                      try simp only [Act.put, List.setIfInBounds_toArray, List.set_cons_zero, List.set_cons_succ]
                      refine wpAnyH_take (i := 39) (v := ?_) (by first | (simp only [List.getElem?_toArray, List.getElem?_cons_succ, List.getElem?_cons_zero] <;> rfl) | rfl) (by kernel_rfl) (by kernel_rfl) (by kernel_rfl) (by exact fun _ _ _ h => h) (Or.inl ⟨by rfl, ?_⟩) hHeld0 ?_
                      rotate_left 1
                      · intro w hSw
                        try dsimp only at hSw
                        (go_simp) <;> (with_reducible rfl)
                      try simp only [Act.put, List.setIfInBounds_toArray, List.set_cons_zero, List.set_cons_succ]
                      refine wpAnyH_take (i := 40) (v := ?_) (by first | (simp only [List.getElem?_toArray, List.getElem?_cons_succ, List.getElem?_cons_zero] <;> rfl) | rfl) (by kernel_rfl) (by kernel_rfl) (by kernel_rfl) (by exact fun _ _ _ h => h) (Or.inl ⟨by rfl, ?_⟩) hHeld0 ?_
                      rotate_left 1
                      · intro w hSw
                        try dsimp only at hSw
                        (go_simp) <;> (with_reducible rfl)
                      try simp only [Act.put, List.setIfInBounds_toArray, List.set_cons_zero, List.set_cons_succ]
                      refine wpAnyH_ready (rs := [41]) (by kernel_rfl) (by simp) ?_
                      refine AllReadyH.cons (by first | (simp only [List.getElem?_toArray, List.getElem?_cons_succ, List.getElem?_cons_zero] <;> rfl) | rfl) (fun K hK => ?_) ?_
                      · go_simp
                        refine (new_nil _).mono ?_
                        rintro e w' ⟨rfl, rfl⟩
                        refine hK.out _ _ (HmkS.out _ HBv.out) (fun hHeld1 => ?_)
                        clear hK K hHeld0
                        try simp only [Act.put, List.setIfInBounds_toArray, List.set_cons_zero, List.set_cons_succ]
                        refine wpAnyH_take (i := 42) (v := ?_) (by first | (simp only [List.getElem?_toArray, List.getElem?_cons_succ, List.getElem?_cons_zero] <;> rfl) | rfl) (by kernel_rfl) (by kernel_rfl) (by kernel_rfl) (by exact fun _ _ _ h => h) (Or.inl ⟨by rfl, ?_⟩) hHeld1 ?_
                        rotate_left 1
                        · intro w hSw
                          try dsimp only at hSw
                          (go_simp) <;> (with_reducible rfl)
                        try simp only [Act.put, List.setIfInBounds_toArray, List.set_cons_zero, List.set_cons_succ]
                        refine wpAnyH_take (i := 43) (v := ?_) (by first | (simp only [List.getElem?_toArray, List.getElem?_cons_succ, List.getElem?_cons_zero] <;> rfl) | rfl) (by kernel_rfl) (by kernel_rfl) (by kernel_rfl) (by exact fun _ _ _ h => h) (Or.inl ⟨by rfl, ?_⟩) hHeld1 ?_
                        rotate_left 1
                        · intro w hSw
                          try dsimp only at hSw
                          (go_simp) <;> (with_reducible rfl)
                        try simp only [Act.put, List.setIfInBounds_toArray, List.set_cons_zero, List.set_cons_succ]
                        refine wpAnyH_take (i := 44) (v := ?_) (by first | (simp only [List.getElem?_toArray, List.getElem?_cons_succ, List.getElem?_cons_zero] <;> rfl) | rfl) (by kernel_rfl) (by kernel_rfl) (by kernel_rfl) (by exact fun _ _ _ h => h) (Or.inl ⟨by rfl, ?_⟩) hHeld1 ?_
                        rotate_left 1
                        · intro w hSw
                          try dsimp only at hSw
                          (go_simp) <;> (with_reducible rfl)
                        try simp only [Act.put, List.setIfInBounds_toArray, List.set_cons_zero, List.set_cons_succ]
                        refine wpAnyH_take (i := 45) (v := ?_) (by first | (simp only [List.getElem?_toArray, List.getElem?_cons_succ, List.getElem?_cons_zero] <;> rfl) | rfl) (by kernel_rfl) (by kernel_rfl) (by kernel_rfl) (by exact fun _ _ _ h => h) (Or.inl ⟨by rfl, ?_⟩) hHeld1 ?_
                        rotate_left 1
                        · intro w hSw
                          try dsimp only at hSw
                          (go_simp) <;> (with_reducible rfl)
                        try simp only [Act.put, List.setIfInBounds_toArray, List.set_cons_zero, List.set_cons_succ]
                        refine wpAnyH_ready (rs := [46]) (by kernel_rfl) (by simp) ?_
                        refine AllReadyH.cons (by first | (simp only [List.getElem?_toArray, List.getElem?_cons_succ, List.getElem?_cons_zero] <;> rfl) | rfl) (fun K hK => ?_) ?_
                        · go_simp
                          refine (parts_nil _).mono ?_
                          rintro e w' ⟨rfl, rfl⟩
                          refine hK.out _ _ (HmkS.out _ HBv.out) (fun hHeld2 => ?_)
                          clear hK K hHeld1
                          try simp only [Act.put, List.setIfInBounds_toArray, List.set_cons_zero, List.set_cons_succ]
                          refine wpAnyH_take (i := 47) (v := ?_) (by first | (simp only [List.getElem?_toArray, List.getElem?_cons_succ, List.getElem?_cons_zero] <;> rfl) | rfl) (by kernel_rfl) (by kernel_rfl) (by kernel_rfl) (by exact fun _ _ _ h => h) (Or.inl ⟨by rfl, ?_⟩) hHeld2 ?_
                          rotate_left 1
                          · intro w hSw
                            try dsimp only at hSw
                            (go_simp) <;> (with_reducible rfl)
                          try simp only [Act.put, List.setIfInBounds_toArray, List.set_cons_zero, List.set_cons_succ]
                          refine wpAnyH_take (i := 48) (v := ?_) (by first | (simp only [List.getElem?_toArray, List.getElem?_cons_succ, List.getElem?_cons_zero] <;> rfl) | rfl) (by kernel_rfl) (by kernel_rfl) (by kernel_rfl) (by exact fun _ _ _ h => h) (Or.inl ⟨by rfl, ?_⟩) hHeld2 ?_
                          rotate_left 1
                          · intro w hSw
                            try dsimp only at hSw
                            (go_simp) <;> (with_reducible rfl)
                          try simp only [Act.put, List.setIfInBounds_toArray, List.set_cons_zero, List.set_cons_succ]
                          refine wpAnyH_take (i := 49) (v := ?_) (by first | (simp only [List.getElem?_toArray, List.getElem?_cons_succ, List.getElem?_cons_zero] <;> rfl) | rfl) (by kernel_rfl) (by kernel_rfl) (by kernel_rfl) (by exact fun _ _ _ h => h) (Or.inl ⟨by rfl, ?_⟩) hHeld2 ?_
                          rotate_left 1
                          · intro w hSw
                            try dsimp only at hSw
                            (go_simp) <;> (with_reducible rfl)
                          try simp only [Act.put, List.setIfInBounds_toArray, List.set_cons_zero, List.set_cons_succ]
                          refine wpAnyH_take (i := 50) (v := ?_) (by first | (simp only [List.getElem?_toArray, List.getElem?_cons_succ, List.getElem?_cons_zero] <;> rfl) | rfl) (by kernel_rfl) (by kernel_rfl) (by kernel_rfl) (by exact fun _ _ _ h => h) (Or.inl ⟨by rfl, ?_⟩) hHeld2 ?_
                          rotate_left 1
                          · intro w hSw
                            try dsimp only at hSw
                            (go_simp) <;> (with_reducible rfl)
                          try simp only [Act.put, List.setIfInBounds_toArray, List.set_cons_zero, List.set_cons_succ]
                          refine wpAnyH_take (i := 51) (v := ?_) (by first | (simp only [List.getElem?_toArray, List.getElem?_cons_succ, List.getElem?_cons_zero] <;> rfl) | rfl) (by kernel_rfl) (by kernel_rfl) (by kernel_rfl) (by exact fun _ _ _ h => h) (Or.inl ⟨by rfl, ?_⟩) hHeld2 ?_
                          rotate_left 1
                          · intro w hSw
                            try dsimp only at hSw
                            (go_simp) <;> (with_reducible rfl)
                          try simp only [Act.put, List.setIfInBounds_toArray, List.set_cons_zero, List.set_cons_succ]
                          refine wpAnyH_take (i := 54) (v := ?_) (by first | (simp only [List.getElem?_toArray, List.getElem?_cons_succ, List.getElem?_cons_zero] <;> rfl) | rfl) (by kernel_rfl) (by kernel_rfl) (by kernel_rfl) (by exact fun _ _ _ h => h) (Or.inl ⟨by rfl, ?_⟩) hHeld2 ?_
                          rotate_left 1
                          · intro w hSw
                            try dsimp only at hSw
                            (go_simp) <;> (with_reducible rfl)
                          try simp only [Act.put, List.setIfInBounds_toArray, List.set_cons_zero, List.set_cons_succ]
                          refine wpAnyH_take (i := 55) (v := ?_) (by first | (simp only [List.getElem?_toArray, List.getElem?_cons_succ, List.getElem?_cons_zero] <;> rfl) | rfl) (by kernel_rfl) (by kernel_rfl) (by kernel_rfl) (by exact fun _ _ _ h => h) (Or.inl ⟨by rfl, ?_⟩) hHeld2 ?_
                          rotate_left 1
                          · intro w hSw
                            try dsimp only at hSw
                            (go_simp) <;> (with_reducible rfl)
                          try simp only [Act.put, List.setIfInBounds_toArray, List.set_cons_zero, List.set_cons_succ]
                          refine wpAnyH_ready (rs := [52]) (by kernel_rfl) (by simp) ?_
                          refine AllReadyH.cons (by first | (simp only [List.getElem?_toArray, List.getElem?_cons_succ, List.getElem?_cons_zero] <;> rfl) | rfl) (fun K hK => ?_) ?_
                          · go_simp
                            refine (HRef.out _).mono ?_
                            rintro e vh3 ⟨rfl, hbb⟩
                            have HBn := Lib.hid (HBv.out.trans (hbb.mono HBv.out.size))
                            clear hbb
                            refine hK.out _ _ (HmkS.out _ HBn.out) (fun hHeld3 => ?_)
                            clear hK K
                            have HBv := HBn
                            clear HBn hHeld2
                            try simp only [Act.put, List.setIfInBounds_toArray, List.set_cons_zero, List.set_cons_succ]
                            refine wpAnyH_take (i := 53) (v := ?_) (by first | (simp only [List.getElem?_toArray, List.getElem?_cons_succ, List.getElem?_cons_zero] <;> rfl) | rfl) (by kernel_rfl) (by kernel_rfl) (by kernel_rfl) (by exact fun _ _ _ h => h) (Or.inl ⟨by rfl, ?_⟩) hHeld3 ?_
                            rotate_left 1
                            · intro w hSw
                              try dsimp only at hSw
                              (go_simp) <;> (with_reducible rfl)
                            try simp only [Act.put, List.setIfInBounds_toArray, List.set_cons_zero, List.set_cons_succ]
                            refine wpAnyH_take (i := 56) (v := ?_) (by first | (simp only [List.getElem?_toArray, List.getElem?_cons_succ, List.getElem?_cons_zero] <;> rfl) | rfl) (by kernel_rfl) (by kernel_rfl) (by kernel_rfl) (by exact fun _ _ _ h => h) (Or.inl ⟨by rfl, ?_⟩) hHeld3 ?_
                            rotate_left 1
                            · intro w hSw
                              try dsimp only at hSw
                              (go_simp) <;> (with_reducible rfl)
                            try simp only [Act.put, List.setIfInBounds_toArray, List.set_cons_zero, List.set_cons_succ]
                            refine wpAnyH_take (i := 57) (v := ?_) (by first | (simp only [List.getElem?_toArray, List.getElem?_cons_succ, List.getElem?_cons_zero] <;> rfl) | rfl) (by kernel_rfl) (by kernel_rfl) (by kernel_rfl) (by exact fun _ _ _ h => h) (Or.inl ⟨by rfl, ?_⟩) hHeld3 ?_
                            rotate_left 1
                            · intro w hSw
                              try dsimp only at hSw
                              (go_simp) <;> (with_reducible rfl)
                            try simp only [Act.put, List.setIfInBounds_toArray, List.set_cons_zero, List.set_cons_succ]
                            refine wpAnyH_take (i := 58) (v := ?_) (by first | (simp only [List.getElem?_toArray, List.getElem?_cons_succ, List.getElem?_cons_zero] <;> rfl) | rfl) (by kernel_rfl) (by kernel_rfl) (by kernel_rfl) (by exact fun _ _ _ h => h) (Or.inl ⟨by rfl, ?_⟩) hHeld3 ?_
                            rotate_left 1
                            · intro w hSw
                              try dsimp only at hSw
                              (go_simp) <;> (with_reducible rfl)
                            try simp only [Act.put, List.setIfInBounds_toArray, List.set_cons_zero, List.set_cons_succ]
                            refine wpAnyH_done (by kernel_rfl) ?_ _
                            clear hHeld3
                            go_wp2_with fail
                            go_ret
                            exact ⟨rfl, HB.out.trans (HBv.out.mono HB.out.size)⟩
                          exact AllReadyH.nil
                        exact AllReadyH.nil
                      exact AllReadyH.nil
              exact AllReadyH.nil
            exact AllReadyH.nil
          exact AllReadyH.nil
        exact AllReadyH.nil
      exact AllReadyH.nil
    exact AllReadyH.nil
end Go.Proofs.Ytjgackejkkglcaa.Ju
