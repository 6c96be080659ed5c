/- One step of the machine. -/
import Derived.Test.YtnkffjdoillmaaaLoaded
import Derived.StillTailTactics
import Derived.Deep.RegionWith
import Derived.BigRegion
import Derived.IntWalk
namespace Go.Proofs.Ytnkffjdoillmaaa
open Go.RowKit
theorem box_cell (w : World) (g n1 c t f k j : Nat) (u : Value) (hu : (Ins.cells ⟨c, t, f, k⟩)[j]? = some u) : ((w.setCell ⟨g, 27, none⟩ (.int .i64 n1)).alloc (.cells #[.int .u16 c, .int .u8 t, .int .u8 f, .int .u32 k] 60)).cell? ⟨w.heap.size, j, none⟩ = some u := by
  have e : (w.setCell ⟨g, 27, none⟩ (.int .i64 n1)).heap.size = w.heap.size := by simp [World.setCell]
  have := (Bk.new (l := Ins.cells ⟨c, t, f, k⟩) (w.setCell ⟨g, 27, none⟩ (.int .i64 n1)) 60 _ rfl).cell j hu
  rwa [e] at this
set_option maxRecDepth 100000 in
set_option maxHeartbeats 2000000 in
theorem step_0 (v : Nat) (g : Nat) (R : List Value) (s : Mc) (y : Nat) (i : Ins) (w : World) (h : Mach w g R s false y) (hi : i.ok) (hn : s.nx ≤ 5000) (hc : i.c % 8 = 0)
    (Ld : ∀ w1, Mach w1 g R { s with nx := s.nx + 1 } false y → Calls Try.prog 74 #[.pointer (some ⟨g, 0, none⟩), .agg #[.int .u16 i.c, .int .u8 i.t, .int .u8 i.f, .int .u32 i.k]] w1 (OneN .u32 v w1)) :
    Calls Try.prog 63 #[.pointer (some ⟨g, 0, none⟩), .agg #[.int .u16 i.c, .int .u8 i.t, .int .u8 i.f, .int .u32 i.k]] w (MachTo w g R { s with a := v, nx := s.nx + 1 } false y) := by
  have hgl := h.lt
  have cn := h.cn
  have fn := h.b.fz 27
  have hnn : 0 ≤ (s.nx : Int) := by omega
  have Cl := Lib.hid (fun w => class_any i.c w hi.1)
  rw [hc] at Cl
  obtain ⟨n1, hn1, hn2⟩ : ∃ n1 : Nat, (s.nx : Int) + 1 = n1 ∧ n1 = s.nx + 1 := ⟨s.nx + 1, by omega, rfl⟩
  have H1 := h.sn n1
  have G1 := only_set w g 27 (.int .i64 (n1 : Int))
  rw [hn2] at H1
  rw [← hn2] at H1
  rw [← hn2] at Ld ⊢
  obtain ⟨c, t, f, k⟩ := i
  obtain ⟨a, x, m, nx⟩ := s
  dsimp only at *
  have HA := Lib.hid (H1.alloc (.cells #[.int .u16 c, .int .u8 t, .int .u8 f, .int .u32 k] 60))
  have HG := Lib.hid (only_trans G1 (only_alloc _ g (.cells #[.int .u16 c, .int .u8 t, .int .u8 f, .int .u32 k] 60)))
  have Ld1 := Lib.hid (fun w1 h => Ld w1 h)
  clear h hi hc hn2 H1 G1 Ld
  go_enter Try.func63, Try.ntmps63
  go_wp2_with (go_at_call 31; refine (Cl.out _).mono ?_; rintro e2 w2 ⟨rfl, rfl⟩)
  refine (Ld1.out _ HA.out).mono ?_
  rintro e3 w3 ⟨rfl, hb3⟩
  have HM := Lib.hid (HA.out.kept hb3)
  have ce := HM.out.b.cell 9 (mac_a HM.out.r)
  have fe := HM.out.b.fz 9
  have HE := Lib.hid (HM.out.sa v)
  have HG2 := Lib.hid (only_trans HG.out (only_trans (only_of hb3 g) (only_set w3 g 9 (.int .u32 v))))
  dsimp only at ce
  clear hb3
  go_wp2_with fail
  go_end0
  exact ⟨rfl, HE.out, HG2.out⟩
set_option maxRecDepth 100000 in
set_option maxHeartbeats 2000000 in
theorem step_1 (v : Nat) (g : Nat) (R : List Value) (s : Mc) (y : Nat) (i : Ins) (w : World) (h : Mach w g R s false y) (hi : i.ok) (hn : s.nx ≤ 5000) (hc : i.c % 8 = 1)
    (Ld : ∀ w1, Mach w1 g R { s with nx := s.nx + 1 } false y → Calls Try.prog 74 #[.pointer (some ⟨g, 0, none⟩), .agg #[.int .u16 i.c, .int .u8 i.t, .int .u8 i.f, .int .u32 i.k]] w1 (OneN .u32 v w1)) :
    Calls Try.prog 63 #[.pointer (some ⟨g, 0, none⟩), .agg #[.int .u16 i.c, .int .u8 i.t, .int .u8 i.f, .int .u32 i.k]] w (MachTo w g R { s with x := v, nx := s.nx + 1 } false y) := by
  have hgl := h.lt
  have cn := h.cn
  have fn := h.b.fz 27
  have hnn : 0 ≤ (s.nx : Int) := by omega
  have Cl := Lib.hid (fun w => class_any i.c w hi.1)
  rw [hc] at Cl
  obtain ⟨n1, hn1, hn2⟩ : ∃ n1 : Nat, (s.nx : Int) + 1 = n1 ∧ n1 = s.nx + 1 := ⟨s.nx + 1, by omega, rfl⟩
  have H1 := h.sn n1
  have G1 := only_set w g 27 (.int .i64 (n1 : Int))
  rw [hn2] at H1
  rw [← hn2] at H1
  rw [← hn2] at Ld ⊢
  obtain ⟨c, t, f, k⟩ := i
  obtain ⟨a, x, m, nx⟩ := s
  dsimp only at *
  have HA := Lib.hid (H1.alloc (.cells #[.int .u16 c, .int .u8 t, .int .u8 f, .int .u32 k] 60))
  have HG := Lib.hid (only_trans G1 (only_alloc _ g (.cells #[.int .u16 c, .int .u8 t, .int .u8 f, .int .u32 k] 60)))
  have Ld1 := Lib.hid (fun w1 h => Ld w1 h)
  clear h hi hc hn2 H1 G1 Ld
  go_enter Try.func63, Try.ntmps63
  go_wp2_with (go_at_call 31; refine (Cl.out _).mono ?_; rintro e2 w2 ⟨rfl, rfl⟩)
  refine (Ld1.out _ HA.out).mono ?_
  rintro e3 w3 ⟨rfl, hb3⟩
  have HM := Lib.hid (HA.out.kept hb3)
  have ce := HM.out.b.cell 10 (mac_x HM.out.r)
  have fe := HM.out.b.fz 10
  have HE := Lib.hid (HM.out.sx v)
  have HG2 := Lib.hid (only_trans HG.out (only_trans (only_of hb3 g) (only_set w3 g 10 (.int .u32 v))))
  dsimp only at ce
  clear hb3
  go_wp2_with fail
  go_end0
  exact ⟨rfl, HE.out, HG2.out⟩
set_option maxRecDepth 100000 in
set_option maxHeartbeats 2000000 in
theorem step_2 (g : Nat) (R : List Value) (s : Mc) (y : Nat) (i : Ins) (w : World) (h : Mach w g R s false y) (hi : i.ok) (hn : s.nx ≤ 5000) (hc : i.c % 8 = 2) (hk : i.k < 16) :
    Calls Try.prog 63 #[.pointer (some ⟨g, 0, none⟩), .agg #[.int .u16 i.c, .int .u8 i.t, .int .u8 i.f, .int .u32 i.k]] w (MachTo w g R { s with m := s.m.set i.k s.a, nx := s.nx + 1 } false y) := by
  have hgl := h.lt
  have cn := h.cn
  have fn := h.b.fz 27
  have hnn : 0 ≤ (s.nx : Int) := by omega
  have Cl := Lib.hid (fun w => class_any i.c w hi.1)
  rw [hc] at Cl
  obtain ⟨n1, hn1, hn2⟩ : ∃ n1 : Nat, (s.nx : Int) + 1 = n1 ∧ n1 = s.nx + 1 := ⟨s.nx + 1, by omega, rfl⟩
  have H1 := h.sn n1
  have G1 := only_set w g 27 (.int .i64 (n1 : Int))
  rw [hn2] at H1
  rw [← hn2] at H1
  rw [← hn2]
  obtain ⟨c, t, f, k⟩ := i
  obtain ⟨a, x, m, nx⟩ := s
  dsimp only at *
  have hA := H1.alloc (.cells #[.int .u16 c, .int .u8 t, .int .u8 f, .int .u32 k] 60)
  have hG := only_trans G1 (only_alloc _ g (.cells #[.int .u16 c, .int .u8 t, .int .u8 f, .int .u32 k] 60))
  have q3 := box_cell w g n1 c t f k 3 _ rfl
  have HA := Lib.hid hA
  have HG := Lib.hid hG
  have Q3 := Lib.hid q3
  have HK := Lib.hid hk
  clear h hi hc hn2 H1 G1 hA hG q3 hk
  go_enter Try.func63, Try.ntmps63
  go_wp2_with (go_at_call 31; refine (Cl.out _).mono ?_; rintro e2 w2 ⟨rfl, rfl⟩)
  revert HA HG Q3
  generalize (w.setCell ⟨g, 27, none⟩ (.int .i64 n1)).alloc (.cells #[.int .u16 c, .int .u8 t, .int .u8 f, .int .u32 k] 60) = wx
  intro HA HG Q3
  have q3 := Q3.out
  have hk := HK.out
  have c1 := HA.out.ca
  have cm := HA.out.cm hk
  have fm := HA.out.b.fz (11 + k)
  have HE := Lib.hid (HA.out.sm hk a)
  have HG2 := Lib.hid (only_trans HG.out (only_set wx g (11 + k) (.int .u32 a)))
  dsimp only at c1 cm
  have k0 : (0 : Int) ≤ (k : Int) := by omega
  have k1 : (k : Int) < 16 := by omega
  have k2 : (k : Int).toNat = k := by omega
  clear Q3 cn fn hgl hk
  go_still_tail 10, (by kernel_rfl)
  go_wp2_with fail
  go_end0
  exact ⟨rfl, HE.out.drew, only_trans HG2.out (only_drew _ g)⟩
set_option maxRecDepth 100000 in
set_option maxHeartbeats 2000000 in
theorem step_3 (g : Nat) (R : List Value) (s : Mc) (y : Nat) (i : Ins) (w : World) (h : Mach w g R s false y) (hi : i.ok) (hn : s.nx ≤ 5000) (hc : i.c % 8 = 3) (hk : i.k < 16) :
    Calls Try.prog 63 #[.pointer (some ⟨g, 0, none⟩), .agg #[.int .u16 i.c, .int .u8 i.t, .int .u8 i.f, .int .u32 i.k]] w (MachTo w g R { s with m := s.m.set i.k s.x, nx := s.nx + 1 } false y) := by
  have hgl := h.lt
  have cn := h.cn
  have fn := h.b.fz 27
  have hnn : 0 ≤ (s.nx : Int) := by omega
  have Cl := Lib.hid (fun w => class_any i.c w hi.1)
  rw [hc] at Cl
  obtain ⟨n1, hn1, hn2⟩ : ∃ n1 : Nat, (s.nx : Int) + 1 = n1 ∧ n1 = s.nx + 1 := ⟨s.nx + 1, by omega, rfl⟩
  have H1 := h.sn n1
  have G1 := only_set w g 27 (.int .i64 (n1 : Int))
  rw [hn2] at H1
  rw [← hn2] at H1
  rw [← hn2]
  obtain ⟨c, t, f, k⟩ := i
  obtain ⟨a, x, m, nx⟩ := s
  dsimp only at *
  have hA := H1.alloc (.cells #[.int .u16 c, .int .u8 t, .int .u8 f, .int .u32 k] 60)
  have hG := only_trans G1 (only_alloc _ g (.cells #[.int .u16 c, .int .u8 t, .int .u8 f, .int .u32 k] 60))
  have q3 := box_cell w g n1 c t f k 3 _ rfl
  have HA := Lib.hid hA
  have HG := Lib.hid hG
  have Q3 := Lib.hid q3
  have HK := Lib.hid hk
  clear h hi hc hn2 H1 G1 hA hG q3 hk
  go_enter Try.func63, Try.ntmps63
  go_wp2_with (go_at_call 31; refine (Cl.out _).mono ?_; rintro e2 w2 ⟨rfl, rfl⟩)
  revert HA HG Q3
  generalize (w.setCell ⟨g, 27, none⟩ (.int .i64 n1)).alloc (.cells #[.int .u16 c, .int .u8 t, .int .u8 f, .int .u32 k] 60) = wx
  intro HA HG Q3
  have q3 := Q3.out
  have hk := HK.out
  have c1 := HA.out.cx
  have cm := HA.out.cm hk
  have fm := HA.out.b.fz (11 + k)
  have HE := Lib.hid (HA.out.sm hk x)
  have HG2 := Lib.hid (only_trans HG.out (only_set wx g (11 + k) (.int .u32 x)))
  dsimp only at c1 cm
  have k0 : (0 : Int) ≤ (k : Int) := by omega
  have k1 : (k : Int) < 16 := by omega
  have k2 : (k : Int).toNat = k := by omega
  clear Q3 cn fn hgl hk
  go_still_tail 10, (by kernel_rfl)
  go_wp2_with fail
  go_end0
  exact ⟨rfl, HE.out.drew, only_trans HG2.out (only_drew _ g)⟩
set_option maxRecDepth 100000 in
set_option maxHeartbeats 2000000 in
theorem step_4 (s' : Mc) (e' : Bool) (y' : Nat) (g : Nat) (R : List Value) (s : Mc) (y : Nat) (i : Ins) (w : World) (h : Mach w g R s false y) (hi : i.ok) (hn : s.nx ≤ 5000) (hc : i.c % 8 = 4)
    (Dv : ∀ w1, Mach w1 g R { s with nx := s.nx + 1 } false y → Calls Try.prog 75 #[.pointer (some ⟨g, 0, none⟩), .agg #[.int .u16 i.c, .int .u8 i.t, .int .u8 i.f, .int .u32 i.k]] w1 (MachTo w1 g R s' e' y')) :
    Calls Try.prog 63 #[.pointer (some ⟨g, 0, none⟩), .agg #[.int .u16 i.c, .int .u8 i.t, .int .u8 i.f, .int .u32 i.k]] w (MachTo w g R s' e' y') := by
  have hgl := h.lt
  have cn := h.cn
  have fn := h.b.fz 27
  have hnn : 0 ≤ (s.nx : Int) := by omega
  have Cl := Lib.hid (fun w => class_any i.c w hi.1)
  rw [hc] at Cl
  obtain ⟨n1, hn1, hn2⟩ : ∃ n1 : Nat, (s.nx : Int) + 1 = n1 ∧ n1 = s.nx + 1 := ⟨s.nx + 1, by omega, rfl⟩
  have H1 := h.sn n1
  have G1 := only_set w g 27 (.int .i64 (n1 : Int))
  rw [hn2] at H1
  rw [← hn2] at H1
  rw [← hn2] at Dv
  obtain ⟨c, t, f, k⟩ := i
  obtain ⟨a, x, m, nx⟩ := s
  dsimp only at *
  have HA := Lib.hid (H1.alloc (.cells #[.int .u16 c, .int .u8 t, .int .u8 f, .int .u32 k] 60))
  have HG := Lib.hid (only_trans G1 (only_alloc _ g (.cells #[.int .u16 c, .int .u8 t, .int .u8 f, .int .u32 k] 60)))
  have Dv1 := Lib.hid (fun w1 h => Dv w1 h)
  clear h hi hc hn2 H1 G1 Dv
  go_enter Try.func63, Try.ntmps63
  go_wp2_with (go_at_call 31; refine (Cl.out _).mono ?_; rintro e2 w2 ⟨rfl, rfl⟩)
  refine (Dv1.out _ HA.out).mono ?_
  rintro e3 w3 ⟨rfl, h4, h5⟩
  have H4 := Lib.hid h4
  have H5 := Lib.hid (only_trans HG.out h5)
  clear h4 h5
  go_wp2_with fail
  go_end0
  exact ⟨rfl, H4.out, H5.out⟩
set_option maxRecDepth 100000 in
set_option maxHeartbeats 2000000 in
theorem step_7 (s' : Mc) (e' : Bool) (y' : Nat) (g : Nat) (R : List Value) (s : Mc) (y : Nat) (i : Ins) (w : World) (h : Mach w g R s false y) (hi : i.ok) (hn : s.nx ≤ 5000) (hc : i.c % 8 = 7)
    (Dv : ∀ w1, Mach w1 g R { s with nx := s.nx + 1 } false y → Calls Try.prog 79 #[.pointer (some ⟨g, 0, none⟩), .agg #[.int .u16 i.c, .int .u8 i.t, .int .u8 i.f, .int .u32 i.k]] w1 (MachTo w1 g R s' e' y')) :
    Calls Try.prog 63 #[.pointer (some ⟨g, 0, none⟩), .agg #[.int .u16 i.c, .int .u8 i.t, .int .u8 i.f, .int .u32 i.k]] w (MachTo w g R s' e' y') := by
  have hgl := h.lt
  have cn := h.cn
  have fn := h.b.fz 27
  have hnn : 0 ≤ (s.nx : Int) := by omega
  have Cl := Lib.hid (fun w => class_any i.c w hi.1)
  rw [hc] at Cl
  obtain ⟨n1, hn1, hn2⟩ : ∃ n1 : Nat, (s.nx : Int) + 1 = n1 ∧ n1 = s.nx + 1 := ⟨s.nx + 1, by omega, rfl⟩
  have H1 := h.sn n1
  have G1 := only_set w g 27 (.int .i64 (n1 : Int))
  rw [hn2] at H1
  rw [← hn2] at H1
  rw [← hn2] at Dv
  obtain ⟨c, t, f, k⟩ := i
  obtain ⟨a, x, m, nx⟩ := s
  dsimp only at *
  have HA := Lib.hid (H1.alloc (.cells #[.int .u16 c, .int .u8 t, .int .u8 f, .int .u32 k] 60))
  have HG := Lib.hid (only_trans G1 (only_alloc _ g (.cells #[.int .u16 c, .int .u8 t, .int .u8 f, .int .u32 k] 60)))
  have Dv1 := Lib.hid (fun w1 h => Dv w1 h)
  clear h hi hc hn2 H1 G1 Dv
  go_enter Try.func63, Try.ntmps63
  go_wp2_with (go_at_call 31; refine (Cl.out _).mono ?_; rintro e2 w2 ⟨rfl, rfl⟩)
  refine (Dv1.out _ HA.out).mono ?_
  rintro e3 w3 ⟨rfl, h4, h5⟩
  have H4 := Lib.hid h4
  have H5 := Lib.hid (only_trans HG.out h5)
  clear h4 h5
  go_wp2_with fail
  go_end0
  exact ⟨rfl, H4.out, H5.out⟩
set_option maxRecDepth 100000 in
set_option maxHeartbeats 2000000 in
theorem step_6 (r : Nat) (g : Nat) (R : List Value) (s : Mc) (y : Nat) (i : Ins) (w : World) (h : Mach w g R s false y) (hi : i.ok) (hn : s.nx ≤ 5000) (hc : i.c % 8 = 6)
    (An : ∀ w1, Mach w1 g R { s with nx := s.nx + 1 } false y → Calls Try.prog 78 #[.pointer (some ⟨g, 0, none⟩), .agg #[.int .u16 i.c, .int .u8 i.t, .int .u8 i.f, .int .u32 i.k]] w1 (OneN .u32 r w1)) :
    Calls Try.prog 63 #[.pointer (some ⟨g, 0, none⟩), .agg #[.int .u16 i.c, .int .u8 i.t, .int .u8 i.f, .int .u32 i.k]] w (MachTo w g R { s with nx := s.nx + 1 } true r) := by
  have hgl := h.lt
  have cn := h.cn
  have fn := h.b.fz 27
  have hnn : 0 ≤ (s.nx : Int) := by omega
  have Cl := Lib.hid (fun w => class_any i.c w hi.1)
  rw [hc] at Cl
  obtain ⟨n1, hn1, hn2⟩ : ∃ n1 : Nat, (s.nx : Int) + 1 = n1 ∧ n1 = s.nx + 1 := ⟨s.nx + 1, by omega, rfl⟩
  have H1 := h.sn n1
  have G1 := only_set w g 27 (.int .i64 (n1 : Int))
  rw [hn2] at H1
  rw [← hn2] at H1
  rw [← hn2] at An ⊢
  have En := Lib.hid (fun w h => end_any g R { s with nx := n1 } false y r w h)
  obtain ⟨c, t, f, k⟩ := i
  obtain ⟨a, x, m, nx⟩ := s
  dsimp only at *
  have HA := Lib.hid (H1.alloc (.cells #[.int .u16 c, .int .u8 t, .int .u8 f, .int .u32 k] 60))
  have HG := Lib.hid (only_trans G1 (only_alloc _ g (.cells #[.int .u16 c, .int .u8 t, .int .u8 f, .int .u32 k] 60)))
  have An1 := Lib.hid (fun w1 h => An w1 h)
  clear h hi hc hn2 H1 G1 An
  go_enter Try.func63, Try.ntmps63
  go_wp2_with (go_at_call 31; refine (Cl.out _).mono ?_; rintro e2 w2 ⟨rfl, rfl⟩)
  refine (An1.out _ HA.out).mono ?_
  rintro e3 w3 ⟨rfl, hb3⟩
  have HM := Lib.hid (HA.out.kept hb3)
  have HG2 := Lib.hid (only_trans HG.out (only_of hb3 g))
  clear hb3
  go_wp2_with fail
  refine (En.out _ HM.out).mono ?_
  rintro e3 w3 ⟨rfl, h4, h5⟩
  have H4 := Lib.hid h4
  have H5 := Lib.hid (only_trans HG2.out h5)
  clear h4 h5
  go_wp2_with fail
  go_end0
  exact ⟨rfl, H4.out, H5.out⟩
set_option maxRecDepth 100000 in
set_option maxHeartbeats 2000000 in
theorem step_5 (d : Nat) (g : Nat) (R : List Value) (s : Mc) (y : Nat) (i : Ins) (w : World) (h : Mach w g R s false y) (hi : i.ok) (hn : s.nx ≤ 5000) (hc : i.c % 8 = 5) (hd : d < 4294967296)
    (Fa : ∀ w1, Mach w1 g R { s with nx := s.nx + 1 } false y → Calls Try.prog 76 #[.pointer (some ⟨g, 0, none⟩), .agg #[.int .u16 i.c, .int .u8 i.t, .int .u8 i.f, .int .u32 i.k]] w1 (OneN .i64 d w1)) :
    Calls Try.prog 63 #[.pointer (some ⟨g, 0, none⟩), .agg #[.int .u16 i.c, .int .u8 i.t, .int .u8 i.f, .int .u32 i.k]] w (MachTo w g R { s with nx := s.nx + 1 + d } false y) := by
  have hgl := h.lt
  have cn := h.cn
  have fn := h.b.fz 27
  have hnn : 0 ≤ (s.nx : Int) := by omega
  have Cl := Lib.hid (fun w => class_any i.c w hi.1)
  rw [hc] at Cl
  obtain ⟨n1, hn1, hn2⟩ : ∃ n1 : Nat, (s.nx : Int) + 1 = n1 ∧ n1 = s.nx + 1 := ⟨s.nx + 1, by omega, rfl⟩
  have H1 := h.sn n1
  have G1 := only_set w g 27 (.int .i64 (n1 : Int))
  rw [hn2] at H1
  rw [← hn2] at H1
  rw [← hn2] at Fa ⊢
  obtain ⟨n3, hn3, hn4⟩ : ∃ n3 : Nat, (n1 : Int) + (d : Int) = n3 ∧ n3 = n1 + d := ⟨n1 + d, by omega, rfl⟩
  rw [← hn4]
  obtain ⟨c, t, f, k⟩ := i
  obtain ⟨a, x, m, nx⟩ := s
  dsimp only at *
  have HA := Lib.hid (H1.alloc (.cells #[.int .u16 c, .int .u8 t, .int .u8 f, .int .u32 k] 60))
  have HG := Lib.hid (only_trans G1 (only_alloc _ g (.cells #[.int .u16 c, .int .u8 t, .int .u8 f, .int .u32 k] 60)))
  have Fa1 := Lib.hid (fun w1 h => Fa w1 h)
  have q0 := box_cell w g n1 c t f k 0 _ rfl
  have q1 := box_cell w g n1 c t f k 1 _ rfl
  have q2 := box_cell w g n1 c t f k 2 _ rfl
  have q3 := box_cell w g n1 c t f k 3 _ rfl
  have hlt : w.heap.size < ((w.setCell ⟨g, 27, none⟩ (.int .i64 n1)).alloc (.cells #[.int .u16 c, .int .u8 t, .int .u8 f, .int .u32 k] 60)).heap.size := by simp [World.setCell]
  have Q := Lib.hid (And.intro q0 (And.intro q1 (And.intro q2 (And.intro q3 hlt))))
  clear h hi hc hn2 H1 G1 Fa hn4 q0 q1 q2 q3 hlt
  go_enter Try.func63, Try.ntmps63
  go_wp2_with (go_at_call 31; refine (Cl.out _).mono ?_; rintro e2 w2 ⟨rfl, rfl⟩)
  revert HA HG Q
  generalize (w.setCell ⟨g, 27, none⟩ (.int .i64 n1)).alloc (.cells #[.int .u16 c, .int .u8 t, .int .u8 f, .int .u32 k] 60) = wx
  intro HA HG Q
  obtain ⟨q0, q1, q2, q3, hlt⟩ := Q.out
  have cn := HA.out.cn
  have d0 : (0 : Int) ≤ (d : Int) := by omega
  have d1 : (d : Int) < 4294967296 := by omega
  have n10 : (0 : Int) ≤ (n1 : Int) := by omega
  have n11 : (n1 : Int) ≤ 5001 := by omega
  have hw : IntKind.i64.wrap (n3 : Int) = n3 := IntWalk.i64_in _ (by omega)
  dsimp only at cn
  clear Q fn hgl hlt hd
  go_region_with (go_at_call 76; refine (Fa1.out _ (HA.out.kept (Below.refl _ _).drew)).mono ?_; rintro e3 w3 ⟨rfl, hb3⟩; have HM := Lib.hid ((HA.out.kept (Below.refl _ _).drew).kept hb3); have HB3 := Lib.hid (only_trans (only_drew wx g) (only_of hb3 g)); have c3 := HM.out.cn; have f3 := HM.out.b.fz 27; dsimp only at c3; clear hb3)
  all_goals
    go_wp2_with fail
    go_end0
    exact ⟨rfl, HM.out.sn n3, only_trans HG.out (only_trans HB3.out (only_set w3 g 27 (.int .i64 n3)))⟩
/-- Any step of a filter that may be loaded. -/
theorem step_any (bs : List Nat) (g : Nat) (s : Mc) (y : Nat) (i : Ins) (w : World) (h : Mach w g (Rec.recL bs) s false y) (hb : Rec.IsRec bs) (hs : s.ok) (hi : i.ok) (hk : knownB i.c = true) (hr : rangeB i = true) (hn : s.nx ≤ 5000) :
    Calls Try.prog 63 #[.pointer (some ⟨g, 0, none⟩), .agg #[.int .u16 i.c, .int .u8 i.t, .int .u8 i.f, .int .u32 i.k]] w (MachTo w g (Rec.recL bs) (stepN (recW bs) i s).1 (stepN (recW bs) i s).2.isSome ((stepN (recW bs) i s).2.getD y)) := by
  have hs1 : ({ s with nx := s.nx + 1 } : Mc).ok := ⟨hs.a, hs.x, hs.m, hs.ms⟩
  have hcl : i.c % 8 = 0 ∨ i.c % 8 = 1 ∨ i.c % 8 = 2 ∨ i.c % 8 = 3 ∨ i.c % 8 = 4 ∨ i.c % 8 = 5 ∨ i.c % 8 = 6 ∨ i.c % 8 = 7 := by omega
  have hc : i.c ∈ codesL := by simpa [knownB] using hk
  simp only [codesL, List.mem_cons, List.not_mem_nil, or_false] at hc
  rcases hcl with e | e | e | e | e | e | e | e
  · have hst : stepN (recW bs) i s = ({ s with a := ldN (recW bs) i s.m, nx := s.nx + 1 }, none) := by unfold stepN; rw [if_pos e]
    rw [hst]
    exact step_0 _ g _ s y i w h hi hn e (fun w1 h1 => loaded_any bs g { s with nx := s.nx + 1 } false y i w1 h1 hb hi hk hr (.inl e))
  · have hst : stepN (recW bs) i s = ({ s with x := ldN (recW bs) i s.m, nx := s.nx + 1 }, none) := by unfold stepN; rw [if_neg (by omega), if_pos e]
    rw [hst]
    exact step_1 _ g _ s y i w h hi hn e (fun w1 h1 => loaded_any bs g { s with nx := s.nx + 1 } false y i w1 h1 hb hi hk hr (.inr e))
  · have hst : stepN (recW bs) i s = ({ s with m := s.m.set i.k s.a, nx := s.nx + 1 }, none) := by unfold stepN; rw [if_neg (by omega), if_neg (by omega), if_pos e]
    rw [hst]
    exact step_2 g _ s y i w h hi hn e (scratch_lt hr (by omega))
  · have hst : stepN (recW bs) i s = ({ s with m := s.m.set i.k s.x, nx := s.nx + 1 }, none) := by unfold stepN; rw [if_neg (by omega), if_neg (by omega), if_neg (by omega), if_pos e]
    rw [hst]
    exact step_3 g _ s y i w h hi hn e (scratch_lt hr (by omega))
  · by_cases h0 : i.c / 16 = 3 ∧ opd i s = 0
    · have hst : stepN (recW bs) i s = ({ s with nx := s.nx + 1 }, some 0) := by unfold stepN; rw [if_neg (by omega), if_neg (by omega), if_neg (by omega), if_neg (by omega), if_pos e, if_pos h0]
      rw [hst]
      exact step_4 _ _ _ g _ s y i w h hi hn e (fun w1 h1 => by have := reckon_any g _ { s with nx := s.nx + 1 } false y i w1 h1 hs1 hi hk e; rw [if_pos (show i.c / 16 = 3 ∧ opd i { s with nx := s.nx + 1 } = 0 from h0)] at this; exact this)
    · have hst : stepN (recW bs) i s = ({ s with a := reckN (i.c / 16) s.a (opd i s), nx := s.nx + 1 }, none) := by unfold stepN; rw [if_neg (by omega), if_neg (by omega), if_neg (by omega), if_neg (by omega), if_pos e, if_neg h0]
      rw [hst]
      exact step_4 _ _ _ g _ s y i w h hi hn e (fun w1 h1 => by have := reckon_any g _ { s with nx := s.nx + 1 } false y i w1 h1 hs1 hi hk e; rw [if_neg (show ¬ (i.c / 16 = 3 ∧ opd i { s with nx := s.nx + 1 } = 0) from h0)] at this; exact this)
  · have hst : stepN (recW bs) i s = ({ s with nx := s.nx + 1 + farN i s }, none) := by unfold stepN; rw [if_neg (by omega), if_neg (by omega), if_neg (by omega), if_neg (by omega), if_neg (by omega), if_pos e]
    rw [hst]
    have hd : farN i s < 4294967296 := by have := hi.2.1; have := hi.2.2.1; have := hi.2.2.2; unfold farN; split; omega; split <;> omega
    exact step_5 _ g _ s y i w h hi hn e hd (fun w1 h1 => far_any g _ { s with nx := s.nx + 1 } false y i w1 h1 hs1 hi hk e)
  · have hst : stepN (recW bs) i s = ({ s with nx := s.nx + 1 }, some (if i.c = 22 then s.a else i.k)) := by unfold stepN; rw [if_neg (by omega), if_neg (by omega), if_neg (by omega), if_neg (by omega), if_neg (by omega), if_neg (by omega), if_pos e]
    rw [hst]
    exact step_6 _ g _ s y i w h hi hn e (fun w1 h1 => answer_any g _ { s with nx := s.nx + 1 } false y i w1 h1 (by omega))
  · by_cases h7 : i.c = 7
    · have hst : stepN (recW bs) i s = ({ s with x := s.a, nx := s.nx + 1 }, none) := by unfold stepN; rw [if_neg (by omega), if_neg (by omega), if_neg (by omega), if_neg (by omega), if_neg (by omega), if_neg (by omega), if_neg (by omega), if_pos h7]
      rw [hst]
      exact step_7 _ _ _ g _ s y i w h hi hn e (fun w1 h1 => by have := hand_any g _ { s with nx := s.nx + 1 } false y i w1 h1 hi.1 (by omega); rwa [if_pos h7] at this)
    · have hst : stepN (recW bs) i s = ({ s with a := s.x, nx := s.nx + 1 }, none) := by unfold stepN; rw [if_neg (by omega), if_neg (by omega), if_neg (by omega), if_neg (by omega), if_neg (by omega), if_neg (by omega), if_neg (by omega), if_neg h7]
      rw [hst]
      exact step_7 _ _ _ g _ s y i w h hi hn e (fun w1 h1 => by have := hand_any g _ { s with nx := s.nx + 1 } false y i w1 h1 hi.1 (by omega); rwa [if_neg h7] at this)
end Go.Proofs.Ytnkffjdoillmaaa
