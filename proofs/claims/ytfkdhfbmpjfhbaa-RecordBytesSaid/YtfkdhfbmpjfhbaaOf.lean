/- A record of bytes; its words; halves. -/
import Derived.Test.YtfkdhfbmpjfhbaaBytes
import Derived.Deep.RegionWith
import Derived.BigRegion
namespace Go.Proofs.Ytfkdhfbmpjfhbaa
open Go.RowKit
/-- The memory on the way: the bytes, the answer; as far as is needed of what is made behind. -/
structure OMem (w wx : World) (bs : List Nat) : Prop where
  rc : Bk wx w.heap.size 27 (u8s bs)
  ans : Bk wx (w.heap.size + 1) 26 [.int .u32 0, .int .u32 0, .int .u64 0, .int .u64 0, .int .u64 0, .int .u64 0, .int .u64 0, .int .u64 0, .int .u64 0]
  bel : Below w.heap.size w wx
theorem omem_of (w : World) (bs : List Nat) : OMem w ((w.alloc (.cells (u8s bs).toArray 27)).alloc (.cells #[.int .u32 0, .int .u32 0, .int .u64 0, .int .u64 0, .int .u64 0, .int .u64 0, .int .u64 0, .int .u64 0, .int .u64 0] 26)) bs := by
  have b1 := (Below.refl w.heap.size w).alloc (Nat.le_refl _) (.cells (u8s bs).toArray 27)
  have b2 := b1.alloc b1.size (.cells #[.int .u32 0, .int .u32 0, .int .u64 0, .int .u64 0, .int .u64 0, .int .u64 0, .int .u64 0, .int .u64 0, .int .u64 0] 26)
  refine ⟨(Bk.new w _ _ rfl).alloc _, ?_, b2⟩
  have := Bk.new (w.alloc (.cells (u8s bs).toArray 27)) 26 #[.int .u32 0, .int .u32 0, .int .u64 0, .int .u64 0, .int .u64 0, .int .u64 0, .int .u64 0, .int .u64 0, .int .u64 0] rfl
  simpa using this
/-- A record, its arguments laid as far as k. -/
def recK (bs : List Nat) (k : Nat) : List Value := (recL bs).take (3 + k) ++ List.replicate (6 - k) (.int .u64 0)
structure OLoc (w wx : World) (bs : List Nat) (k : Nat) : Prop where
  mem : OMem w wx bs
  loc : Bk wx (w.heap.size + 1 + 1) 26 (recK bs k)
theorem oloc_of {w w3 : World} {bs : List Nat} {a : Array Value} (h : OMem w w3 bs) (hs : w3.heap.size = w.heap.size + 1 + 1) (ha : a = (recK bs 0).toArray) : OLoc w (w3.alloc (.cells a 26)).drew bs 0 := by
  refine ⟨⟨(h.rc.alloc _).drew, (h.ans.alloc _).drew, (h.bel.alloc h.bel.size _).drew⟩, ?_⟩
  have := Bk.new w3 26 a ha
  rw [hs] at this
  exact this.drew
theorem OLoc.set {w wx : World} {bs : List Nat} {k k' j : Nat} {v : Value} (h : OLoc w wx bs k) (hv : (recK bs k).set j v = recK bs k') : OLoc w (wx.setCell ⟨w.heap.size + 1 + 1, j, none⟩ v) bs k' := by
  have hg := only_set wx (w.heap.size + 1 + 1) j v
  refine ⟨⟨h.mem.rc.grown hg (by simp; omega), h.mem.ans.grown hg (by simp), only_below h.mem.bel hg (h.mem.bel.size) (by omega)⟩, ?_⟩
  rw [← hv]; exact h.loc.set j v
theorem recL_len (bs : List Nat) : (recL bs).length = 9 := rfl
theorem recL_all (bs : List Nat) : (recL bs).toArray.all (·.oneCell') = true := by simp [recL, Value.oneCell']
theorem recK_all (bs : List Nat) : recK bs 6 = recL bs := rfl
set_option maxRecDepth 100000 in
set_option maxHeartbeats 1000000 in
theorem of_any (bs : List Nat) (w : World) (hl : bs.length = 64) (hb : Small8 bs) :
    Calls Try.prog 10 #[.agg (u8s bs).toArray] w fun e w' => e = .returned (.agg (recL bs).toArray) ∧ Below w.heap.size w w' := by
  have Hl := Lib.hid hl
  have Hb := Lib.hid hb
  clear hl hb
  go_enter Try.func10, Try.ntmps10
  go_wp2_with fail
  have hM := omem_of w bs
  have hsz : ((w.alloc (.cells (u8s bs).toArray 27)).alloc (.cells #[.int .u32 0, .int .u32 0, .int .u64 0, .int .u64 0, .int .u64 0, .int .u64 0, .int .u64 0, .int .u64 0, .int .u64 0] 26)).heap.size = w.heap.size + 1 + 1 := by simp
  revert hM hsz
  generalize ((w.alloc (.cells (u8s bs).toArray 27)).alloc (.cells #[.int .u32 0, .int .u32 0, .int .u64 0, .int .u64 0, .int .u64 0, .int .u64 0, .int .u64 0, .int .u64 0, .int .u64 0] 26)) = w3
  intro hM hsz
  have HM := Lib.hid hM
  have A0 := Lib.hid (show ∀ o n, o + n ≤ 64 → At w3.drew w.heap.size bs o n from fun o n h => At.of hM.rc.drew (by rw [Hl.out]; exact h))
  have A1 := Lib.hid (show ∀ ob o n, o + n ≤ 64 → At (w3.alloc ob).drew w.heap.size bs o n from fun ob o n h => At.of (hM.rc.alloc ob).drew (by rw [Hl.out]; exact h))
  clear hM
  obtain ⟨n0, hn0⟩ : ∃ n, n = leN bs 0 4 := ⟨_, rfl⟩
  obtain ⟨n1, hn1⟩ : ∃ n, n = leN bs 4 4 := ⟨_, rfl⟩
  obtain ⟨n2, hn2⟩ : ∃ n, n = leN bs 8 8 := ⟨_, rfl⟩
  have hw0 : IntKind.u32.wrap (n0 : Int) = n0 := IntWalk.u32_in (n0 : Int) (by have := leN4_lt Hb.out 0; omega)
  have hw1 : IntKind.u32.wrap (n1 : Int) = n1 := IntWalk.u32_in (n1 : Int) (by have := leN4_lt Hb.out 4; omega)
  have T0 := Lib.hid (fun cap wx (h : At wx w.heap.size bs 0 4) => take_any bs w.heap.size 0 4 cap wx Hb.out (by omega) h)
  have T1 := Lib.hid (fun cap wx (h : At wx w.heap.size bs 4 4) => take_any bs w.heap.size 4 4 cap wx Hb.out (by omega) h)
  have T2 := Lib.hid (fun cap wx (h : At wx w.heap.size bs 8 8) => take_any bs w.heap.size 8 8 cap wx Hb.out (by omega) h)
  rw [← hn0] at T0
  rw [← hn1] at T1
  rw [← hn2] at T2
  have Hn := Lib.hid (And.intro hn0 (And.intro hn1 hn2))
  clear hn0 hn1 hn2
  refine wp_once ?fr ?wd ?reg ?imp
  case reg =>
    go_region_with (go_at_call 22; (first | (with_reducible refine (T0.out _ _ (A0.out _ _ (by omega))).mono ?_) | (with_reducible refine (T0.out _ _ (A1.out _ _ _ (by omega))).mono ?_) | (with_reducible refine (T1.out _ _ (A0.out _ _ (by omega))).mono ?_) | (with_reducible refine (T1.out _ _ (A1.out _ _ _ (by omega))).mono ?_) | (with_reducible refine (T2.out _ _ (A0.out _ _ (by omega))).mono ?_) | (with_reducible refine (T2.out _ _ (A1.out _ _ _ (by omega))).mono ?_)); rintro e w' ⟨rfl, rfl⟩)
    all_goals exact OnlyTo.here _ _
  case imp =>
    go_wp2_with fail
    have HL := Lib.hid (oloc_of HM.out hsz (show (#[.int .u32 n0, .int .u32 n1, .int .u64 n2, .int .u64 0, .int .u64 0, .int .u64 0, .int .u64 0, .int .u64 0, .int .u64 0] : Array Value) = (recK bs 0).toArray by rw [Hn.out.1, Hn.out.2.1, Hn.out.2.2]; rfl))
    clear A0 A1 T0 T1 T2 hw0 hw1 HM
    revert HL
    generalize (w3.alloc (.cells #[.int .u32 n0, .int .u32 n1, .int .u64 n2, .int .u64 0, .int .u64 0, .int .u64 0, .int .u64 0, .int .u64 0, .int .u64 0] 26)).drew = w4
    intro HL
    clear hsz
    go_loopw [15] (fun i wr => ∃ k : Nat, k ≤ 6 ∧ i = .int .i64 k ∧ Hid (OLoc w wr bs k)) (fun i _ => 6 - (intOf i).toNat)
    case atStart => exact ⟨0, by omega, rfl, HL⟩
    case round =>
      obtain ⟨k, hk, rfl, HR⟩ := hrel
      clear HL
      rcases (by omega : k = 0 ∨ k = 1 ∨ k = 2 ∨ k = 3 ∨ k = 4 ∨ k = 5 ∨ k = 6) with rfl | rfl | rfl | rfl | rfl | rfl | rfl
      · have hc := HR.out.loc.cell 3 (show (recK bs 0)[3]? = some (.int .u64 0) from rfl)
        have hf := HR.out.loc.fz 3
        have T := Lib.hid (take_any bs w.heap.size 16 8 48 wr Hb.out (by omega) (At.of HR.out.mem.rc (by rw [Hl.out]; omega)))
        have HN := Lib.hid (HR.out.set (show (recK bs 0).set 3 (.int .u64 (leN bs 16 8 : Nat)) = recK bs 1 from rfl))
        obtain ⟨v, hv⟩ : ∃ v, v = leN bs 16 8 := ⟨_, rfl⟩
        rw [← hv] at T HN
        clear hv
        go_wp2_with fail
        refine T.out.mono ?_
        rintro e w' ⟨rfl, rfl⟩
        go_wp2_with fail
        go_roundw
        case rel => exact ⟨1, by omega, rfl, HN⟩
        case measure => simp [intOf]
      · have hc := HR.out.loc.cell 4 (show (recK bs 1)[4]? = some (.int .u64 0) from rfl)
        have hf := HR.out.loc.fz 4
        have T := Lib.hid (take_any bs w.heap.size 24 8 40 wr Hb.out (by omega) (At.of HR.out.mem.rc (by rw [Hl.out]; omega)))
        have HN := Lib.hid (HR.out.set (show (recK bs 1).set 4 (.int .u64 (leN bs 24 8 : Nat)) = recK bs 2 from rfl))
        obtain ⟨v, hv⟩ : ∃ v, v = leN bs 24 8 := ⟨_, rfl⟩
        rw [← hv] at T HN
        clear hv
        go_wp2_with fail
        refine T.out.mono ?_
        rintro e w' ⟨rfl, rfl⟩
        go_wp2_with fail
        go_roundw
        case rel => exact ⟨2, by omega, rfl, HN⟩
        case measure => simp [intOf]
      · have hc := HR.out.loc.cell 5 (show (recK bs 2)[5]? = some (.int .u64 0) from rfl)
        have hf := HR.out.loc.fz 5
        have T := Lib.hid (take_any bs w.heap.size 32 8 32 wr Hb.out (by omega) (At.of HR.out.mem.rc (by rw [Hl.out]; omega)))
        have HN := Lib.hid (HR.out.set (show (recK bs 2).set 5 (.int .u64 (leN bs 32 8 : Nat)) = recK bs 3 from rfl))
        obtain ⟨v, hv⟩ : ∃ v, v = leN bs 32 8 := ⟨_, rfl⟩
        rw [← hv] at T HN
        clear hv
        go_wp2_with fail
        refine T.out.mono ?_
        rintro e w' ⟨rfl, rfl⟩
        go_wp2_with fail
        go_roundw
        case rel => exact ⟨3, by omega, rfl, HN⟩
        case measure => simp [intOf]
      · have hc := HR.out.loc.cell 6 (show (recK bs 3)[6]? = some (.int .u64 0) from rfl)
        have hf := HR.out.loc.fz 6
        have T := Lib.hid (take_any bs w.heap.size 40 8 24 wr Hb.out (by omega) (At.of HR.out.mem.rc (by rw [Hl.out]; omega)))
        have HN := Lib.hid (HR.out.set (show (recK bs 3).set 6 (.int .u64 (leN bs 40 8 : Nat)) = recK bs 4 from rfl))
        obtain ⟨v, hv⟩ : ∃ v, v = leN bs 40 8 := ⟨_, rfl⟩
        rw [← hv] at T HN
        clear hv
        go_wp2_with fail
        refine T.out.mono ?_
        rintro e w' ⟨rfl, rfl⟩
        go_wp2_with fail
        go_roundw
        case rel => exact ⟨4, by omega, rfl, HN⟩
        case measure => simp [intOf]
      · have hc := HR.out.loc.cell 7 (show (recK bs 4)[7]? = some (.int .u64 0) from rfl)
        have hf := HR.out.loc.fz 7
        have T := Lib.hid (take_any bs w.heap.size 48 8 16 wr Hb.out (by omega) (At.of HR.out.mem.rc (by rw [Hl.out]; omega)))
        have HN := Lib.hid (HR.out.set (show (recK bs 4).set 7 (.int .u64 (leN bs 48 8 : Nat)) = recK bs 5 from rfl))
        obtain ⟨v, hv⟩ : ∃ v, v = leN bs 48 8 := ⟨_, rfl⟩
        rw [← hv] at T HN
        clear hv
        go_wp2_with fail
        refine T.out.mono ?_
        rintro e w' ⟨rfl, rfl⟩
        go_wp2_with fail
        go_roundw
        case rel => exact ⟨5, by omega, rfl, HN⟩
        case measure => simp [intOf]
      · have hc := HR.out.loc.cell 8 (show (recK bs 5)[8]? = some (.int .u64 0) from rfl)
        have hf := HR.out.loc.fz 8
        have T := Lib.hid (take_any bs w.heap.size 56 8 8 wr Hb.out (by omega) (At.of HR.out.mem.rc (by rw [Hl.out]; omega)))
        have HN := Lib.hid (HR.out.set (show (recK bs 5).set 8 (.int .u64 (leN bs 56 8 : Nat)) = recK bs 6 from rfl))
        obtain ⟨v, hv⟩ : ∃ v, v = leN bs 56 8 := ⟨_, rfl⟩
        rw [← hv] at T HN
        clear hv
        go_wp2_with fail
        refine T.out.mono ?_
        rintro e w' ⟨rfl, rfl⟩
        go_wp2_with fail
        go_roundw
        case rel => exact ⟨6, by omega, rfl, HN⟩
        case measure => simp [intOf]
      · have Hloc := Lib.hid (show Bk wr (w.heap.size + 1 + 1) 26 (recL bs) from HR.out.loc)
        have Han := Lib.hid HR.out.mem.ans
        have Hres := Lib.hid (HR.out.mem.ans.row (recL bs))
        have Hbel := Lib.hid (only_below HR.out.mem.bel (only_row wr (w.heap.size + 1) (recL bs).toArray) HR.out.mem.bel.size (by omega))
        go_wp2_with (first | (refine ld_any Hloc.out rfl _ rfl rfl Try.underlying26 size9 (recL_len bs) ?_) | (refine st_row Han.out rfl _ _ rfl rfl rfl size9 rfl (recL_len bs) (recL_all bs) ?_))
        exact bodyPost_ret (v := .agg (recL bs).toArray) (res_any Try.results10 _ rfl Hres.out Try.underlying26 size9 (recL_len bs)) rfl ⟨rfl, Hbel.out⟩
end Go.Proofs.Ytfkdhfbmpjfhbaa
