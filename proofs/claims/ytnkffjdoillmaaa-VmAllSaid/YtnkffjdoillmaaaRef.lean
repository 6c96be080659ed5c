/- The document's record: sixteen numbers of four bytes; where halves stand. -/
import Derived.Test.YtnkffjdoillmaaaWord
namespace Go.Proofs.Ytnkffjdoillmaaa.Rec
open Go.RowKit
/-- The sixteen numbers of sixty-four bytes. -/
def ws (bs : List Nat) : List Nat := [leN bs 0 4, leN bs 4 4, leN bs 8 4, leN bs 12 4, leN bs 16 4, leN bs 20 4, leN bs 24 4, leN bs 28 4, leN bs 32 4, leN bs 36 4, leN bs 40 4, leN bs 44 4, leN bs 48 4, leN bs 52 4, leN bs 56 4, leN bs 60 4]
def wsK (bs : List Nat) (k : Nat) : List Value := u32s ((ws bs).take (4 + 2 * k) ++ List.replicate (12 - 2 * k) 0)
theorem ws_at (bs : List Nat) (i : Nat) (h : i < 16) : (ws bs)[i]? = some (leN bs (4 * i) 4) := by
  rcases (by omega : i = 0 ∨ i = 1 ∨ i = 2 ∨ i = 3 ∨ i = 4 ∨ i = 5 ∨ i = 6 ∨ i = 7 ∨ i = 8 ∨ i = 9 ∨ i = 10 ∨ i = 11 ∨ i = 12 ∨ i = 13 ∨ i = 14 ∨ i = 15) with rfl | rfl | rfl | rfl | rfl | rfl | rfl | rfl | rfl | rfl | rfl | rfl | rfl | rfl | rfl | rfl <;> rfl
theorem lo_of (bs : List Nat) (hb : Small8 bs) (o : Nat) : leN bs o 8 % 4294967296 = leN bs o 4 := by
  have h1 := leN_8 bs o
  have h2 := leN4_lt hb o
  omega
theorem hi_of (bs : List Nat) (hb : Small8 bs) (o : Nat) : leN bs o 8 / 4294967296 = leN bs (o + 4) 4 := by
  have h1 := leN_8 bs o
  have h2 := leN4_lt hb o
  omega
def zs16 : List Value := u32s (List.replicate 16 0)
theorem zs16_eq : (#[.int .u32 0, .int .u32 0, .int .u32 0, .int .u32 0, .int .u32 0, .int .u32 0, .int .u32 0, .int .u32 0, .int .u32 0, .int .u32 0, .int .u32 0, .int .u32 0, .int .u32 0, .int .u32 0, .int .u32 0, .int .u32 0] : Array Value) = zs16.toArray := by rfl
/-- The memory on the way. -/
structure RMem (w wx : World) (A : List Value) (bs : List Nat) (k : Nat) : Prop where
  rc : Bk wx w.heap.size 37 A
  ans : Bk wx (w.heap.size + 1) 48 zs16
  loc : Bk wx (w.heap.size + 1 + 1) 48 (wsK bs k)
  bel : Below w.heap.size w wx
theorem rmem_of (w : World) (a : Array Value) (A : List Value) (bs : List Nat) (c : Array Value) (h : a = A.toArray) (hc : c = (wsK bs 0).toArray) : RMem w (((w.alloc (.cells a 37)).alloc (.cells zs16.toArray 48)).alloc (.cells c 48)) A bs 0 := by
  have b1 := (Below.refl w.heap.size w).alloc (Nat.le_refl _) (.cells a 37)
  have b2 := b1.alloc b1.size (.cells zs16.toArray 48)
  have b3 := b2.alloc b2.size (.cells c 48)
  refine ⟨((Bk.new w _ a h).alloc _).alloc _, ?_, ?_, b3⟩
  · have := (Bk.new (w.alloc (.cells a 37)) 48 zs16.toArray rfl).alloc (.cells c 48)
    simpa using this
  · have := Bk.new ((w.alloc (.cells a 37)).alloc (.cells zs16.toArray 48)) 48 c hc
    simpa using this
theorem RMem.two {w wx : World} {A : List Value} {bs : List Nat} {k k' i j : Nat} {u v : Value} (h : RMem w wx A bs k) (hv : ((wsK bs k).set i u).set j v = wsK bs k') : RMem w ((wx.setCell ⟨w.heap.size + 1 + 1, i, none⟩ u).setCell ⟨w.heap.size + 1 + 1, j, none⟩ v) A bs k' := by
  have hg := only_trans (only_set wx (w.heap.size + 1 + 1) i u) (only_set (wx.setCell ⟨w.heap.size + 1 + 1, i, none⟩ u) (w.heap.size + 1 + 1) j v)
  refine ⟨h.rc.grown hg (by simp; omega), h.ans.grown hg (by simp), ?_, only_below h.bel hg h.bel.size (by omega)⟩
  rw [← hv]; exact (h.loc.set i u).set j v
theorem u32s_all (l : List Nat) : (u32s l).toArray.all (·.oneCell') = true := by
  simp only [u32s, List.all_toArray, List.all_map, List.all_eq_true]
  intro x _
  rfl
theorem ws_len (bs : List Nat) : (u32s (ws bs)).length = 16 := rfl
set_option maxRecDepth 100000 in
set_option maxHeartbeats 1000000 in
theorem refOf_of (bs : List Nat) (n0 n1 n2 n3 n4 n5 n6 n7 n8 : Nat) (w : World) (hb : Small8 bs) (h0 : n0 = leN bs 0 4) (h1 : n1 = leN bs 4 4) (h2 : n2 = leN bs 8 8) (h3 : n3 = leN bs 16 8) (h4 : n4 = leN bs 24 8) (h5 : n5 = leN bs 32 8) (h6 : n6 = leN bs 40 8) (h7 : n7 = leN bs 48 8) (h8 : n8 = leN bs 56 8) :
    Calls Try.prog 43 #[.int .u32 n0, .int .u32 n1, .int .u64 n2, .agg #[.int .u64 n3, .int .u64 n4, .int .u64 n5, .int .u64 n6, .int .u64 n7, .int .u64 n8]] w fun e w' =>
      e = .returned (.agg (u32s (ws bs)).toArray) ∧ Below w.heap.size w w' := by
  have hlo2 := lo_of bs hb 8
  have hhi2 := hi_of bs hb 8
  rw [← h2] at hlo2 hhi2
  have hlo3 := lo_of bs hb 16
  have hhi3 := hi_of bs hb 16
  rw [← h3] at hlo3 hhi3
  have hlo4 := lo_of bs hb 24
  have hhi4 := hi_of bs hb 24
  rw [← h4] at hlo4 hhi4
  have hlo5 := lo_of bs hb 32
  have hhi5 := hi_of bs hb 32
  rw [← h5] at hlo5 hhi5
  have hlo6 := lo_of bs hb 40
  have hhi6 := hi_of bs hb 40
  rw [← h6] at hlo6 hhi6
  have hlo7 := lo_of bs hb 48
  have hhi7 := hi_of bs hb 48
  rw [← h7] at hlo7 hhi7
  have hlo8 := lo_of bs hb 56
  have hhi8 := hi_of bs hb 56
  rw [← h8] at hlo8 hhi8
  obtain ⟨p, hp⟩ : ∃ p, p = leN bs 8 4 := ⟨_, rfl⟩
  obtain ⟨q, hq⟩ : ∃ q, q = leN bs 12 4 := ⟨_, rfl⟩
  rw [← hp] at hlo2
  rw [show 8 + 4 = 12 from rfl, ← hq] at hhi2
  have e1 : (n2 : Int) % 4294967296 = p := by omega
  have e2 : (n2 : Int) / 4294967296 = q := by omega
  have hpl : p < 4294967296 := by omega
  have hql : q < 4294967296 := by have := leN4_lt hb 12; omega
  have Hb := Lib.hid hb
  have H := Lib.hid (And.intro h0 (And.intro h1 (And.intro hp hq)))
  have L0 := Lib.hid (And.intro hlo3 hhi3)
  have L1 := Lib.hid (And.intro hlo4 hhi4)
  have L2 := Lib.hid (And.intro hlo5 hhi5)
  have L3 := Lib.hid (And.intro hlo6 hhi6)
  have L4 := Lib.hid (And.intro hlo7 hhi7)
  have L5 := Lib.hid (And.intro hlo8 hhi8)
  clear hlo2 hhi2 hlo3 hhi3 hlo4 hhi4 hlo5 hhi5 hlo6 hhi6 hlo7 hhi7 hlo8 hhi8 hb hp hq h0 h1 h2 h3 h4 h5 h6 h7 h8
  go_enter Try.func43, Try.ntmps43
  go_wp2_with fail
  rw [zs16_eq]
  have HM := Lib.hid (rmem_of w #[.int .u64 n3, .int .u64 n4, .int .u64 n5, .int .u64 n6, .int .u64 n7, .int .u64 n8] [.int .u64 n3, .int .u64 n4, .int .u64 n5, .int .u64 n6, .int .u64 n7, .int .u64 n8] bs #[.int .u32 n0, .int .u32 n1, .int .u32 p, .int .u32 q, .int .u32 0, .int .u32 0, .int .u32 0, .int .u32 0, .int .u32 0, .int .u32 0, .int .u32 0, .int .u32 0, .int .u32 0, .int .u32 0, .int .u32 0, .int .u32 0] rfl (by rw [H.out.1, H.out.2.1, H.out.2.2.1, H.out.2.2.2]; rfl))
  revert HM
  generalize (((w.alloc (.cells #[.int .u64 n3, .int .u64 n4, .int .u64 n5, .int .u64 n6, .int .u64 n7, .int .u64 n8] 37)).alloc (.cells zs16.toArray 48)).alloc (.cells #[.int .u32 n0, .int .u32 n1, .int .u32 p, .int .u32 q, .int .u32 0, .int .u32 0, .int .u32 0, .int .u32 0, .int .u32 0, .int .u32 0, .int .u32 0, .int .u32 0, .int .u32 0, .int .u32 0, .int .u32 0, .int .u32 0] 48)) = w3
  intro HM
  clear e1 e2
  go_loopw [10] (fun i wr => ∃ k : Nat, k ≤ 6 ∧ i = .int .i64 k ∧ Hid (RMem w wr [.int .u64 n3, .int .u64 n4, .int .u64 n5, .int .u64 n6, .int .u64 n7, .int .u64 n8] bs k)) (fun i _ => 6 - (intOf i).toNat)
  case atStart => exact ⟨0, by omega, rfl, HM⟩
  case round =>
    obtain ⟨k, hk, rfl, HR⟩ := hrel
    clear HM
    rcases (by omega : k = 0 ∨ k = 1 ∨ k = 2 ∨ k = 3 ∨ k = 4 ∨ k = 5 ∨ k = 6) with rfl | rfl | rfl | rfl | rfl | rfl | rfl
    · have hlo := L0.out.1
      have hhi := L0.out.2
      have HN := Lib.hid (HR.out.two (show ((wsK bs 0).set 4 (.int .u32 (leN bs 16 4 : Nat))).set 5 (.int .u32 (leN bs 20 4 : Nat)) = wsK bs 1 from rfl))
      have hal := leN4_lt Hb.out 16
      have hbl := leN4_lt Hb.out 20
      obtain ⟨x, hx⟩ : ∃ x, x = leN bs 16 4 := ⟨_, rfl⟩
      obtain ⟨y, hy⟩ : ∃ y, y = leN bs 20 4 := ⟨_, rfl⟩
      rw [← hx] at hlo HN hal
      rw [show 16 + 4 = 20 from rfl, ← hy] at hhi
      rw [← hy] at HN hbl
      have e1 : (n3 : Int) % 4294967296 = x := by omega
      have e2 : (n3 : Int) / 4294967296 = y := by omega
      clear hlo hhi hx hy
      have hc := HR.out.rc.cell 0 rfl
      have c1 := HR.out.loc.cell 4 (show (wsK bs 0)[4]? = some (.int .u32 0) from rfl)
      have c2 := HR.out.loc.cell 5 (show (wsK bs 0)[5]? = some (.int .u32 0) from rfl)
      have f1 := HR.out.loc.fz 4
      have f2 := HR.out.loc.fz 5
      go_wp2_with fail
      go_roundw
      case rel => exact ⟨1, by omega, rfl, HN⟩
      case measure => simp [intOf]
    · have hlo := L1.out.1
      have hhi := L1.out.2
      have HN := Lib.hid (HR.out.two (show ((wsK bs 1).set 6 (.int .u32 (leN bs 24 4 : Nat))).set 7 (.int .u32 (leN bs 28 4 : Nat)) = wsK bs 2 from rfl))
      have hal := leN4_lt Hb.out 24
      have hbl := leN4_lt Hb.out 28
      obtain ⟨x, hx⟩ : ∃ x, x = leN bs 24 4 := ⟨_, rfl⟩
      obtain ⟨y, hy⟩ : ∃ y, y = leN bs 28 4 := ⟨_, rfl⟩
      rw [← hx] at hlo HN hal
      rw [show 24 + 4 = 28 from rfl, ← hy] at hhi
      rw [← hy] at HN hbl
      have e1 : (n4 : Int) % 4294967296 = x := by omega
      have e2 : (n4 : Int) / 4294967296 = y := by omega
      clear hlo hhi hx hy
      have hc := HR.out.rc.cell 1 rfl
      have c1 := HR.out.loc.cell 6 (show (wsK bs 1)[6]? = some (.int .u32 0) from rfl)
      have c2 := HR.out.loc.cell 7 (show (wsK bs 1)[7]? = some (.int .u32 0) from rfl)
      have f1 := HR.out.loc.fz 6
      have f2 := HR.out.loc.fz 7
      go_wp2_with fail
      go_roundw
      case rel => exact ⟨2, by omega, rfl, HN⟩
      case measure => simp [intOf]
    · have hlo := L2.out.1
      have hhi := L2.out.2
      have HN := Lib.hid (HR.out.two (show ((wsK bs 2).set 8 (.int .u32 (leN bs 32 4 : Nat))).set 9 (.int .u32 (leN bs 36 4 : Nat)) = wsK bs 3 from rfl))
      have hal := leN4_lt Hb.out 32
      have hbl := leN4_lt Hb.out 36
      obtain ⟨x, hx⟩ : ∃ x, x = leN bs 32 4 := ⟨_, rfl⟩
      obtain ⟨y, hy⟩ : ∃ y, y = leN bs 36 4 := ⟨_, rfl⟩
      rw [← hx] at hlo HN hal
      rw [show 32 + 4 = 36 from rfl, ← hy] at hhi
      rw [← hy] at HN hbl
      have e1 : (n5 : Int) % 4294967296 = x := by omega
      have e2 : (n5 : Int) / 4294967296 = y := by omega
      clear hlo hhi hx hy
      have hc := HR.out.rc.cell 2 rfl
      have c1 := HR.out.loc.cell 8 (show (wsK bs 2)[8]? = some (.int .u32 0) from rfl)
      have c2 := HR.out.loc.cell 9 (show (wsK bs 2)[9]? = some (.int .u32 0) from rfl)
      have f1 := HR.out.loc.fz 8
      have f2 := HR.out.loc.fz 9
      go_wp2_with fail
      go_roundw
      case rel => exact ⟨3, by omega, rfl, HN⟩
      case measure => simp [intOf]
    · have hlo := L3.out.1
      have hhi := L3.out.2
      have HN := Lib.hid (HR.out.two (show ((wsK bs 3).set 10 (.int .u32 (leN bs 40 4 : Nat))).set 11 (.int .u32 (leN bs 44 4 : Nat)) = wsK bs 4 from rfl))
      have hal := leN4_lt Hb.out 40
      have hbl := leN4_lt Hb.out 44
      obtain ⟨x, hx⟩ : ∃ x, x = leN bs 40 4 := ⟨_, rfl⟩
      obtain ⟨y, hy⟩ : ∃ y, y = leN bs 44 4 := ⟨_, rfl⟩
      rw [← hx] at hlo HN hal
      rw [show 40 + 4 = 44 from rfl, ← hy] at hhi
      rw [← hy] at HN hbl
      have e1 : (n6 : Int) % 4294967296 = x := by omega
      have e2 : (n6 : Int) / 4294967296 = y := by omega
      clear hlo hhi hx hy
      have hc := HR.out.rc.cell 3 rfl
      have c1 := HR.out.loc.cell 10 (show (wsK bs 3)[10]? = some (.int .u32 0) from rfl)
      have c2 := HR.out.loc.cell 11 (show (wsK bs 3)[11]? = some (.int .u32 0) from rfl)
      have f1 := HR.out.loc.fz 10
      have f2 := HR.out.loc.fz 11
      go_wp2_with fail
      go_roundw
      case rel => exact ⟨4, by omega, rfl, HN⟩
      case measure => simp [intOf]
    · have hlo := L4.out.1
      have hhi := L4.out.2
      have HN := Lib.hid (HR.out.two (show ((wsK bs 4).set 12 (.int .u32 (leN bs 48 4 : Nat))).set 13 (.int .u32 (leN bs 52 4 : Nat)) = wsK bs 5 from rfl))
      have hal := leN4_lt Hb.out 48
      have hbl := leN4_lt Hb.out 52
      obtain ⟨x, hx⟩ : ∃ x, x = leN bs 48 4 := ⟨_, rfl⟩
      obtain ⟨y, hy⟩ : ∃ y, y = leN bs 52 4 := ⟨_, rfl⟩
      rw [← hx] at hlo HN hal
      rw [show 48 + 4 = 52 from rfl, ← hy] at hhi
      rw [← hy] at HN hbl
      have e1 : (n7 : Int) % 4294967296 = x := by omega
      have e2 : (n7 : Int) / 4294967296 = y := by omega
      clear hlo hhi hx hy
      have hc := HR.out.rc.cell 4 rfl
      have c1 := HR.out.loc.cell 12 (show (wsK bs 4)[12]? = some (.int .u32 0) from rfl)
      have c2 := HR.out.loc.cell 13 (show (wsK bs 4)[13]? = some (.int .u32 0) from rfl)
      have f1 := HR.out.loc.fz 12
      have f2 := HR.out.loc.fz 13
      go_wp2_with fail
      go_roundw
      case rel => exact ⟨5, by omega, rfl, HN⟩
      case measure => simp [intOf]
    · have hlo := L5.out.1
      have hhi := L5.out.2
      have HN := Lib.hid (HR.out.two (show ((wsK bs 5).set 14 (.int .u32 (leN bs 56 4 : Nat))).set 15 (.int .u32 (leN bs 60 4 : Nat)) = wsK bs 6 from rfl))
      have hal := leN4_lt Hb.out 56
      have hbl := leN4_lt Hb.out 60
      obtain ⟨x, hx⟩ : ∃ x, x = leN bs 56 4 := ⟨_, rfl⟩
      obtain ⟨y, hy⟩ : ∃ y, y = leN bs 60 4 := ⟨_, rfl⟩
      rw [← hx] at hlo HN hal
      rw [show 56 + 4 = 60 from rfl, ← hy] at hhi
      rw [← hy] at HN hbl
      have e1 : (n8 : Int) % 4294967296 = x := by omega
      have e2 : (n8 : Int) / 4294967296 = y := by omega
      clear hlo hhi hx hy
      have hc := HR.out.rc.cell 5 rfl
      have c1 := HR.out.loc.cell 14 (show (wsK bs 5)[14]? = some (.int .u32 0) from rfl)
      have c2 := HR.out.loc.cell 15 (show (wsK bs 5)[15]? = some (.int .u32 0) from rfl)
      have f1 := HR.out.loc.fz 14
      have f2 := HR.out.loc.fz 15
      go_wp2_with fail
      go_roundw
      case rel => exact ⟨6, by omega, rfl, HN⟩
      case measure => simp [intOf]
    · have Hloc := Lib.hid (show Bk wr (w.heap.size + 1 + 1) 48 (u32s (ws bs)) from HR.out.loc)
      have Han := Lib.hid HR.out.ans
      have Hres := Lib.hid (HR.out.ans.row (u32s (ws bs)))
      have Hbel := Lib.hid (only_below HR.out.bel (only_row wr (w.heap.size + 1) (u32s (ws bs)).toArray) HR.out.bel.size (by omega))
      go_wp2_with (first | (refine ld_row Hloc.out rfl _ rfl rfl Try.underlying48 size16 (ws_len bs) ?_) | (refine st_row Han.out rfl _ _ rfl rfl rfl size16 rfl (ws_len bs) (u32s_all (ws bs)) ?_))
      exact bodyPost_ret (v := .agg (u32s (ws bs)).toArray) (results_cell_row Try.results43 _ _ (w.heap.size + 1) _ _ (0, 0) _ rfl Hres.out Try.underlying48 rfl (by rw [size16, List.size_toArray, ws_len bs])) rfl ⟨rfl, Hbel.out⟩
set_option maxRecDepth 100000 in
set_option maxHeartbeats 1000000 in
theorem lawRef_of (bs : List Nat) (n0 n1 n2 n3 n4 n5 n6 n7 n8 : Nat) (w : World) (hb : Small8 bs) (h0 : n0 = leN bs 0 4) (h1 : n1 = leN bs 4 4) (h2 : n2 = leN bs 8 8) (h3 : n3 = leN bs 16 8) (h4 : n4 = leN bs 24 8) (h5 : n5 = leN bs 32 8) (h6 : n6 = leN bs 40 8) (h7 : n7 = leN bs 48 8) (h8 : n8 = leN bs 56 8) :
    Calls Try.prog 17 #[.agg #[.int .u32 n0, .int .u32 n1, .int .u64 n2, .int .u64 n3, .int .u64 n4, .int .u64 n5, .int .u64 n6, .int .u64 n7, .int .u64 n8]] w fun e w' =>
      e = .returned (.agg (u32s (ws bs)).toArray) ∧ Below w.heap.size w w' := by
  have R := Lib.hid (fun w => refOf_of bs n0 n1 n2 n3 n4 n5 n6 n7 n8 w hb h0 h1 h2 h3 h4 h5 h6 h7 h8)
  clear hb h0 h1 h2 h3 h4 h5 h6 h7 h8
  go_enter Try.func17, Try.ntmps17
  go_wp2_with fail
  refine (R.out _).mono ?_
  rintro e w1 ⟨rfl, hb1⟩
  have hz : Bk ((w.alloc (.cells #[.int .u32 n0, .int .u32 n1, .int .u64 n2, .int .u64 n3, .int .u64 n4, .int .u64 n5, .int .u64 n6, .int .u64 n7, .int .u64 n8] 39)).alloc (.cells zs16.toArray 48)) (w.heap.size + 1) 48 zs16 := by
    have h := Bk.new (w.alloc (.cells #[.int .u32 n0, .int .u32 n1, .int .u64 n2, .int .u64 n3, .int .u64 n4, .int .u64 n5, .int .u64 n6, .int .u64 n7, .int .u64 n8] 39)) 48 zs16.toArray rfl
    simpa using h
  have Hz := Lib.hid (hz.kept hb1)
  have HB1 := Lib.hid ((((Below.refl w.heap.size w).alloc (Nat.le_refl _) _).alloc (by simp) _).trans (hb1.mono (by simp; omega)))
  clear hz hb1
  have Hres := Lib.hid (Hz.out.row (u32s (ws bs)))
  have Hbel := Lib.hid (only_below HB1.out (only_row w1 _ (u32s (ws bs)).toArray) HB1.out.size (show w.heap.size ≤ w.heap.size + 1 by omega))
  go_wp2_with (refine st_row Hz.out rfl _ _ rfl rfl rfl size16 rfl (ws_len bs) (u32s_all (ws bs)) ?_)
  exact bodyPost_ret (v := .agg (u32s (ws bs)).toArray) (results_cell_row Try.results17 _ _ (w.heap.size + 1) _ _ (0, 0) _ rfl Hres.out Try.underlying48 rfl (by rw [size16, List.size_toArray, ws_len bs])) rfl ⟨rfl, Hbel.out⟩
theorem ref_any (bs : List Nat) (w : World) (hb : Small8 bs) : Calls Try.prog 17 #[.agg (recL bs).toArray] w fun e w' => e = .returned (.agg (u32s (ws bs)).toArray) ∧ Below w.heap.size w w' :=
  lawRef_of bs _ _ _ _ _ _ _ _ _ w hb rfl rfl rfl rfl rfl rfl rfl rfl rfl
/-- Which argument is meant. -/
def arg5 (a : Int) : Nat := (min (max a 0) 5).toNat
theorem arg5_le (a : Int) : arg5 a ≤ 5 := by unfold arg5; omega
theorem arg5_low {a : Int} (h : a ≤ 0) : arg5 a = 0 := by unfold arg5; omega
theorem arg5_high {a : Int} (h : 5 ≤ a) : arg5 a = 5 := by unfold arg5; omega
theorem arg5_mid {n : Nat} (h : n ≤ 5) : arg5 n = n := by unfold arg5; omega
end Go.Proofs.Ytnkffjdoillmaaa.Rec

