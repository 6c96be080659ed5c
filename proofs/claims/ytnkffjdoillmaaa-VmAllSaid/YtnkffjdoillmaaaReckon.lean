/- What is reckoned: each way alone. -/
import Derived.Test.YtnkffjdoillmaaaMach
import Derived.Laws.ShiftsVarLaws
import Derived.Laws.BitsAllLaws
namespace Go.Proofs.Ytnkffjdoillmaaa
open Go.RowKit
set_option maxRecDepth 100000 in
set_option maxHeartbeats 1000000 in
theorem reckon_0 (g : Nat) (R : List Value) (s : Mc) (e : Bool) (y : Nat) (i : Ins) (w : World) (h : Mach w g R s e y) (hs : s.ok) (hi : i.ok) (hop : i.c / 16 = 0) :
    Calls Try.prog 75 #[.pointer (some ⟨g, 0, none⟩), .agg #[.int .u16 i.c, .int .u8 i.t, .int .u8 i.f, .int .u32 i.k]] w (MachTo w g R { s with a := reckN 0 s.a (opd i s) } e y) := by
  have hgl := h.lt
  have ha := hs.a
  have hn := opd_lt hs hi.2.2.2
  have Od := Lib.hid (fun w h => operand_any g R s e y i w h hi.1)
  have Kd := Lib.hid (fun w => kind_any i.c 0 w hi.1 (by omega))
  have H := Lib.hid h
  obtain ⟨c, t, f, k⟩ := i
  obtain ⟨n, hnd⟩ : ∃ n, n = opd ⟨c, t, f, k⟩ s := ⟨_, rfl⟩
  rw [← hnd] at Od hn ⊢
  obtain ⟨a, x, m, nx⟩ := s
  dsimp only at *
  have hv : ((a : Int) + (n : Int)) % 4294967296 = ((reckN 0 a n : Nat) : Int) := by simp [reckN]
  obtain ⟨v, hvd⟩ : ∃ v, v = reckN 0 a n := ⟨_, rfl⟩
  rw [← hvd] at hv ⊢
  clear hnd hvd hop hi hs h
  go_enter Try.func75, Try.ntmps75
  go_wp2_with fail
  refine (Od.out _ (H.out.alloc _)).mono ?_
  rintro e1 w1 ⟨rfl, hb1⟩
  have HM := Lib.hid ((H.out.alloc _).kept hb1)
  have HB := Lib.hid ((one_below w _).trans (hb1.mono (by simp)))
  have q0 : w1.cell? ⟨w.heap.size, 0, none⟩ = some (.int .u16 c) := by rw [hb1.cell (p := ⟨w.heap.size, 0, none⟩) (by simp)]; simp
  have ca := HM.out.ca
  have fa := HM.out.b.fz 9
  have HE := Lib.hid (HM.out.sa v)
  have HG := Lib.hid (only_trans (only_of HB.out g) (only_set w1 g 9 (.int .u32 v)))
  dsimp only at ca
  clear hb1
  go_wp2_with (go_at_call 84; refine (Kd.out _).mono ?_; rintro e2 w2 ⟨rfl, rfl⟩)
  go_end0
  exact ⟨rfl, HE.out, HG.out⟩
set_option maxRecDepth 100000 in
set_option maxHeartbeats 1000000 in
theorem reckon_1 (g : Nat) (R : List Value) (s : Mc) (e : Bool) (y : Nat) (i : Ins) (w : World) (h : Mach w g R s e y) (hs : s.ok) (hi : i.ok) (hop : i.c / 16 = 1) :
    Calls Try.prog 75 #[.pointer (some ⟨g, 0, none⟩), .agg #[.int .u16 i.c, .int .u8 i.t, .int .u8 i.f, .int .u32 i.k]] w (MachTo w g R { s with a := reckN 1 s.a (opd i s) } e y) := by
  have hgl := h.lt
  have ha := hs.a
  have hn := opd_lt hs hi.2.2.2
  have Od := Lib.hid (fun w h => operand_any g R s e y i w h hi.1)
  have Kd := Lib.hid (fun w => kind_any i.c 16 w hi.1 (by omega))
  have H := Lib.hid h
  obtain ⟨c, t, f, k⟩ := i
  obtain ⟨n, hnd⟩ : ∃ n, n = opd ⟨c, t, f, k⟩ s := ⟨_, rfl⟩
  rw [← hnd] at Od hn ⊢
  obtain ⟨a, x, m, nx⟩ := s
  dsimp only at *
  have hv : ((a : Int) - (n : Int)) % 4294967296 = ((reckN 1 a n : Nat) : Int) := by simp [reckN]; omega
  obtain ⟨v, hvd⟩ : ∃ v, v = reckN 1 a n := ⟨_, rfl⟩
  rw [← hvd] at hv ⊢
  clear hnd hvd hop hi hs h
  go_enter Try.func75, Try.ntmps75
  go_wp2_with fail
  refine (Od.out _ (H.out.alloc _)).mono ?_
  rintro e1 w1 ⟨rfl, hb1⟩
  have HM := Lib.hid ((H.out.alloc _).kept hb1)
  have HB := Lib.hid ((one_below w _).trans (hb1.mono (by simp)))
  have q0 : w1.cell? ⟨w.heap.size, 0, none⟩ = some (.int .u16 c) := by rw [hb1.cell (p := ⟨w.heap.size, 0, none⟩) (by simp)]; simp
  have ca := HM.out.ca
  have fa := HM.out.b.fz 9
  have HE := Lib.hid (HM.out.sa v)
  have HG := Lib.hid (only_trans (only_of HB.out g) (only_set w1 g 9 (.int .u32 v)))
  dsimp only at ca
  clear hb1
  go_wp2_with (go_at_call 84; refine (Kd.out _).mono ?_; rintro e2 w2 ⟨rfl, rfl⟩)
  go_end0
  exact ⟨rfl, HE.out, HG.out⟩
set_option maxRecDepth 100000 in
set_option maxHeartbeats 1000000 in
theorem reckon_2 (g : Nat) (R : List Value) (s : Mc) (e : Bool) (y : Nat) (i : Ins) (w : World) (h : Mach w g R s e y) (hs : s.ok) (hi : i.ok) (hop : i.c / 16 = 2) :
    Calls Try.prog 75 #[.pointer (some ⟨g, 0, none⟩), .agg #[.int .u16 i.c, .int .u8 i.t, .int .u8 i.f, .int .u32 i.k]] w (MachTo w g R { s with a := reckN 2 s.a (opd i s) } e y) := by
  have hgl := h.lt
  have ha := hs.a
  have hn := opd_lt hs hi.2.2.2
  have Od := Lib.hid (fun w h => operand_any g R s e y i w h hi.1)
  have Kd := Lib.hid (fun w => kind_any i.c 32 w hi.1 (by omega))
  have H := Lib.hid h
  obtain ⟨c, t, f, k⟩ := i
  obtain ⟨n, hnd⟩ : ∃ n, n = opd ⟨c, t, f, k⟩ s := ⟨_, rfl⟩
  rw [← hnd] at Od hn ⊢
  obtain ⟨a, x, m, nx⟩ := s
  dsimp only at *
  have hv : ((a : Int) * (n : Int)) % 4294967296 = ((reckN 2 a n : Nat) : Int) := by simp [reckN]
  obtain ⟨v, hvd⟩ : ∃ v, v = reckN 2 a n := ⟨_, rfl⟩
  rw [← hvd] at hv ⊢
  clear hnd hvd hop hi hs h
  go_enter Try.func75, Try.ntmps75
  go_wp2_with fail
  refine (Od.out _ (H.out.alloc _)).mono ?_
  rintro e1 w1 ⟨rfl, hb1⟩
  have HM := Lib.hid ((H.out.alloc _).kept hb1)
  have HB := Lib.hid ((one_below w _).trans (hb1.mono (by simp)))
  have q0 : w1.cell? ⟨w.heap.size, 0, none⟩ = some (.int .u16 c) := by rw [hb1.cell (p := ⟨w.heap.size, 0, none⟩) (by simp)]; simp
  have ca := HM.out.ca
  have fa := HM.out.b.fz 9
  have HE := Lib.hid (HM.out.sa v)
  have HG := Lib.hid (only_trans (only_of HB.out g) (only_set w1 g 9 (.int .u32 v)))
  dsimp only at ca
  clear hb1
  go_wp2_with (go_at_call 84; refine (Kd.out _).mono ?_; rintro e2 w2 ⟨rfl, rfl⟩)
  go_end0
  exact ⟨rfl, HE.out, HG.out⟩
set_option maxRecDepth 100000 in
set_option maxHeartbeats 1000000 in
theorem reckon_4 (g : Nat) (R : List Value) (s : Mc) (e : Bool) (y : Nat) (i : Ins) (w : World) (h : Mach w g R s e y) (hs : s.ok) (hi : i.ok) (hop : i.c / 16 = 4) :
    Calls Try.prog 75 #[.pointer (some ⟨g, 0, none⟩), .agg #[.int .u16 i.c, .int .u8 i.t, .int .u8 i.f, .int .u32 i.k]] w (MachTo w g R { s with a := reckN 4 s.a (opd i s) } e y) := by
  have hgl := h.lt
  have ha := hs.a
  have hn := opd_lt hs hi.2.2.2
  have Od := Lib.hid (fun w h => operand_any g R s e y i w h hi.1)
  have Kd := Lib.hid (fun w => kind_any i.c 64 w hi.1 (by omega))
  have H := Lib.hid h
  obtain ⟨c, t, f, k⟩ := i
  obtain ⟨n, hnd⟩ : ∃ n, n = opd ⟨c, t, f, k⟩ s := ⟨_, rfl⟩
  rw [← hnd] at Od hn ⊢
  obtain ⟨a, x, m, nx⟩ := s
  dsimp only at *
  have hv : bits .or .u32 (a : Int) (n : Int) = ((reckN 4 a n : Nat) : Int) := by rw [u32_or_nat a n ha hn]; simp [reckN]
  obtain ⟨v, hvd⟩ : ∃ v, v = reckN 4 a n := ⟨_, rfl⟩
  rw [← hvd] at hv ⊢
  clear hnd hvd hop hi hs h
  go_enter Try.func75, Try.ntmps75
  go_wp2_with fail
  refine (Od.out _ (H.out.alloc _)).mono ?_
  rintro e1 w1 ⟨rfl, hb1⟩
  have HM := Lib.hid ((H.out.alloc _).kept hb1)
  have HB := Lib.hid ((one_below w _).trans (hb1.mono (by simp)))
  have q0 : w1.cell? ⟨w.heap.size, 0, none⟩ = some (.int .u16 c) := by rw [hb1.cell (p := ⟨w.heap.size, 0, none⟩) (by simp)]; simp
  have ca := HM.out.ca
  have fa := HM.out.b.fz 9
  have HE := Lib.hid (HM.out.sa v)
  have HG := Lib.hid (only_trans (only_of HB.out g) (only_set w1 g 9 (.int .u32 v)))
  dsimp only at ca
  clear hb1
  go_wp2_with (go_at_call 84; refine (Kd.out _).mono ?_; rintro e2 w2 ⟨rfl, rfl⟩)
  go_end0
  exact ⟨rfl, HE.out, HG.out⟩
set_option maxRecDepth 100000 in
set_option maxHeartbeats 1000000 in
theorem reckon_5 (g : Nat) (R : List Value) (s : Mc) (e : Bool) (y : Nat) (i : Ins) (w : World) (h : Mach w g R s e y) (hs : s.ok) (hi : i.ok) (hop : i.c / 16 = 5) :
    Calls Try.prog 75 #[.pointer (some ⟨g, 0, none⟩), .agg #[.int .u16 i.c, .int .u8 i.t, .int .u8 i.f, .int .u32 i.k]] w (MachTo w g R { s with a := reckN 5 s.a (opd i s) } e y) := by
  have hgl := h.lt
  have ha := hs.a
  have hn := opd_lt hs hi.2.2.2
  have Od := Lib.hid (fun w h => operand_any g R s e y i w h hi.1)
  have Kd := Lib.hid (fun w => kind_any i.c 80 w hi.1 (by omega))
  have H := Lib.hid h
  obtain ⟨c, t, f, k⟩ := i
  obtain ⟨n, hnd⟩ : ∃ n, n = opd ⟨c, t, f, k⟩ s := ⟨_, rfl⟩
  rw [← hnd] at Od hn ⊢
  obtain ⟨a, x, m, nx⟩ := s
  dsimp only at *
  have hv : bits .and .u32 (a : Int) (n : Int) = ((reckN 5 a n : Nat) : Int) := by rw [u32_and_nat a n ha hn]; simp [reckN]
  obtain ⟨v, hvd⟩ : ∃ v, v = reckN 5 a n := ⟨_, rfl⟩
  rw [← hvd] at hv ⊢
  clear hnd hvd hop hi hs h
  go_enter Try.func75, Try.ntmps75
  go_wp2_with fail
  refine (Od.out _ (H.out.alloc _)).mono ?_
  rintro e1 w1 ⟨rfl, hb1⟩
  have HM := Lib.hid ((H.out.alloc _).kept hb1)
  have HB := Lib.hid ((one_below w _).trans (hb1.mono (by simp)))
  have q0 : w1.cell? ⟨w.heap.size, 0, none⟩ = some (.int .u16 c) := by rw [hb1.cell (p := ⟨w.heap.size, 0, none⟩) (by simp)]; simp
  have ca := HM.out.ca
  have fa := HM.out.b.fz 9
  have HE := Lib.hid (HM.out.sa v)
  have HG := Lib.hid (only_trans (only_of HB.out g) (only_set w1 g 9 (.int .u32 v)))
  dsimp only at ca
  clear hb1
  go_wp2_with (go_at_call 84; refine (Kd.out _).mono ?_; rintro e2 w2 ⟨rfl, rfl⟩)
  go_end0
  exact ⟨rfl, HE.out, HG.out⟩
set_option maxRecDepth 100000 in
set_option maxHeartbeats 1000000 in
theorem reckon_10 (g : Nat) (R : List Value) (s : Mc) (e : Bool) (y : Nat) (i : Ins) (w : World) (h : Mach w g R s e y) (hs : s.ok) (hi : i.ok) (hop : i.c / 16 = 10) :
    Calls Try.prog 75 #[.pointer (some ⟨g, 0, none⟩), .agg #[.int .u16 i.c, .int .u8 i.t, .int .u8 i.f, .int .u32 i.k]] w (MachTo w g R { s with a := reckN 10 s.a (opd i s) } e y) := by
  have hgl := h.lt
  have ha := hs.a
  have hn := opd_lt hs hi.2.2.2
  have Od := Lib.hid (fun w h => operand_any g R s e y i w h hi.1)
  have Kd := Lib.hid (fun w => kind_any i.c 160 w hi.1 (by omega))
  have H := Lib.hid h
  obtain ⟨c, t, f, k⟩ := i
  obtain ⟨n, hnd⟩ : ∃ n, n = opd ⟨c, t, f, k⟩ s := ⟨_, rfl⟩
  rw [← hnd] at Od hn ⊢
  obtain ⟨a, x, m, nx⟩ := s
  dsimp only at *
  have hv : bits .xor .u32 (a : Int) (n : Int) = ((reckN 10 a n : Nat) : Int) := by rw [u32_xor_nat a n ha hn]; simp [reckN]
  obtain ⟨v, hvd⟩ : ∃ v, v = reckN 10 a n := ⟨_, rfl⟩
  rw [← hvd] at hv ⊢
  clear hnd hvd hop hi hs h
  go_enter Try.func75, Try.ntmps75
  go_wp2_with fail
  refine (Od.out _ (H.out.alloc _)).mono ?_
  rintro e1 w1 ⟨rfl, hb1⟩
  have HM := Lib.hid ((H.out.alloc _).kept hb1)
  have HB := Lib.hid ((one_below w _).trans (hb1.mono (by simp)))
  have q0 : w1.cell? ⟨w.heap.size, 0, none⟩ = some (.int .u16 c) := by rw [hb1.cell (p := ⟨w.heap.size, 0, none⟩) (by simp)]; simp
  have ca := HM.out.ca
  have fa := HM.out.b.fz 9
  have HE := Lib.hid (HM.out.sa v)
  have HG := Lib.hid (only_trans (only_of HB.out g) (only_set w1 g 9 (.int .u32 v)))
  dsimp only at ca
  clear hb1
  go_wp2_with (go_at_call 84; refine (Kd.out _).mono ?_; rintro e2 w2 ⟨rfl, rfl⟩)
  go_end0
  exact ⟨rfl, HE.out, HG.out⟩
set_option maxRecDepth 100000 in
set_option maxHeartbeats 1000000 in
theorem reckon_6 (g : Nat) (R : List Value) (s : Mc) (e : Bool) (y : Nat) (i : Ins) (w : World) (h : Mach w g R s e y) (hs : s.ok) (hi : i.ok) (hop : i.c / 16 = 6) :
    Calls Try.prog 75 #[.pointer (some ⟨g, 0, none⟩), .agg #[.int .u16 i.c, .int .u8 i.t, .int .u8 i.f, .int .u32 i.k]] w (MachTo w g R { s with a := reckN 6 s.a (opd i s) } e y) := by
  have hgl := h.lt
  have ha := hs.a
  have hn := opd_lt hs hi.2.2.2
  have Od := Lib.hid (fun w h => operand_any g R s e y i w h hi.1)
  have Kd := Lib.hid (fun w => kind_any i.c 96 w hi.1 (by omega))
  have H := Lib.hid h
  obtain ⟨c, t, f, k⟩ := i
  obtain ⟨n, hnd⟩ : ∃ n, n = opd ⟨c, t, f, k⟩ s := ⟨_, rfl⟩
  rw [← hnd] at Od hn ⊢
  obtain ⟨a, x, m, nx⟩ := s
  dsimp only at *
  obtain ⟨j, hj, hj2⟩ : ∃ j : Nat, bits .and .u32 (n : Int) 31 = (j : Int) ∧ n % 32 = j := ⟨n % 32, by rw [show ((31 : Int)) = ((31 : Nat) : Int) from rfl, u32_and_nat n 31 hn (by omega), Nat.and_two_pow_sub_one_eq_mod n 5], rfl⟩
  have hj3 : j ≤ 31 := by omega
  have hv : (a : Int) * 2 ^ j % 4294967296 = ((reckN 6 a n : Nat) : Int) := by simp [reckN, hj2]
  clear hj2
  obtain ⟨v, hvd⟩ : ∃ v, v = reckN 6 a n := ⟨_, rfl⟩
  rw [← hvd] at hv ⊢
  clear hnd hvd hop hi hs h
  go_enter Try.func75, Try.ntmps75
  go_wp2_with fail
  refine (Od.out _ (H.out.alloc _)).mono ?_
  rintro e1 w1 ⟨rfl, hb1⟩
  have HM := Lib.hid ((H.out.alloc _).kept hb1)
  have HB := Lib.hid ((one_below w _).trans (hb1.mono (by simp)))
  have q0 : w1.cell? ⟨w.heap.size, 0, none⟩ = some (.int .u16 c) := by rw [hb1.cell (p := ⟨w.heap.size, 0, none⟩) (by simp)]; simp
  have ca := HM.out.ca
  have fa := HM.out.b.fz 9
  have HE := Lib.hid (HM.out.sa v)
  have HG := Lib.hid (only_trans (only_of HB.out g) (only_set w1 g 9 (.int .u32 v)))
  dsimp only at ca
  clear hb1
  go_wp2_with (go_at_call 84; refine (Kd.out _).mono ?_; rintro e2 w2 ⟨rfl, rfl⟩)
  go_end0
  exact ⟨rfl, HE.out, HG.out⟩
set_option maxRecDepth 100000 in
set_option maxHeartbeats 1000000 in
theorem reckon_7 (g : Nat) (R : List Value) (s : Mc) (e : Bool) (y : Nat) (i : Ins) (w : World) (h : Mach w g R s e y) (hs : s.ok) (hi : i.ok) (hop : i.c / 16 = 7) :
    Calls Try.prog 75 #[.pointer (some ⟨g, 0, none⟩), .agg #[.int .u16 i.c, .int .u8 i.t, .int .u8 i.f, .int .u32 i.k]] w (MachTo w g R { s with a := reckN 7 s.a (opd i s) } e y) := by
  have hgl := h.lt
  have ha := hs.a
  have hn := opd_lt hs hi.2.2.2
  have Od := Lib.hid (fun w h => operand_any g R s e y i w h hi.1)
  have Kd := Lib.hid (fun w => kind_any i.c 112 w hi.1 (by omega))
  have H := Lib.hid h
  obtain ⟨c, t, f, k⟩ := i
  obtain ⟨n, hnd⟩ : ∃ n, n = opd ⟨c, t, f, k⟩ s := ⟨_, rfl⟩
  rw [← hnd] at Od hn ⊢
  obtain ⟨a, x, m, nx⟩ := s
  dsimp only at *
  obtain ⟨j, hj, hj2⟩ : ∃ j : Nat, bits .and .u32 (n : Int) 31 = (j : Int) ∧ n % 32 = j := ⟨n % 32, by rw [show ((31 : Int)) = ((31 : Nat) : Int) from rfl, u32_and_nat n 31 hn (by omega), Nat.and_two_pow_sub_one_eq_mod n 5], rfl⟩
  have hj3 : j ≤ 31 := by omega
  have hv : (a : Int) / 2 ^ j = ((reckN 7 a n : Nat) : Int) := by simp [reckN, hj2]
  clear hj2
  obtain ⟨v, hvd⟩ : ∃ v, v = reckN 7 a n := ⟨_, rfl⟩
  rw [← hvd] at hv ⊢
  clear hnd hvd hop hi hs h
  go_enter Try.func75, Try.ntmps75
  go_wp2_with fail
  refine (Od.out _ (H.out.alloc _)).mono ?_
  rintro e1 w1 ⟨rfl, hb1⟩
  have HM := Lib.hid ((H.out.alloc _).kept hb1)
  have HB := Lib.hid ((one_below w _).trans (hb1.mono (by simp)))
  have q0 : w1.cell? ⟨w.heap.size, 0, none⟩ = some (.int .u16 c) := by rw [hb1.cell (p := ⟨w.heap.size, 0, none⟩) (by simp)]; simp
  have ca := HM.out.ca
  have fa := HM.out.b.fz 9
  have HE := Lib.hid (HM.out.sa v)
  have HG := Lib.hid (only_trans (only_of HB.out g) (only_set w1 g 9 (.int .u32 v)))
  dsimp only at ca
  clear hb1
  go_wp2_with (go_at_call 84; refine (Kd.out _).mono ?_; rintro e2 w2 ⟨rfl, rfl⟩)
  go_end0
  exact ⟨rfl, HE.out, HG.out⟩
set_option maxRecDepth 100000 in
set_option maxHeartbeats 1000000 in
theorem reckon_8 (g : Nat) (R : List Value) (s : Mc) (e : Bool) (y : Nat) (i : Ins) (w : World) (h : Mach w g R s e y) (hs : s.ok) (hi : i.ok) (hop : i.c / 16 = 8) :
    Calls Try.prog 75 #[.pointer (some ⟨g, 0, none⟩), .agg #[.int .u16 i.c, .int .u8 i.t, .int .u8 i.f, .int .u32 i.k]] w (MachTo w g R { s with a := reckN 8 s.a (opd i s) } e y) := by
  have hgl := h.lt
  have ha := hs.a
  have hn := opd_lt hs hi.2.2.2
  have Od := Lib.hid (fun w h => operand_any g R s e y i w h hi.1)
  have Kd := Lib.hid (fun w => kind_any i.c 128 w hi.1 (by omega))
  have H := Lib.hid h
  obtain ⟨c, t, f, k⟩ := i
  obtain ⟨n, hnd⟩ : ∃ n, n = opd ⟨c, t, f, k⟩ s := ⟨_, rfl⟩
  rw [← hnd] at Od hn ⊢
  obtain ⟨a, x, m, nx⟩ := s
  dsimp only at *
  have hv : (-(a : Int)) % 4294967296 = ((reckN 8 a n : Nat) : Int) := by simp [reckN]; omega
  obtain ⟨v, hvd⟩ : ∃ v, v = reckN 8 a n := ⟨_, rfl⟩
  rw [← hvd] at hv ⊢
  clear hnd hvd hop hi hs h
  go_enter Try.func75, Try.ntmps75
  go_wp2_with fail
  refine (Od.out _ (H.out.alloc _)).mono ?_
  rintro e1 w1 ⟨rfl, hb1⟩
  have HM := Lib.hid ((H.out.alloc _).kept hb1)
  have HB := Lib.hid ((one_below w _).trans (hb1.mono (by simp)))
  have q0 : w1.cell? ⟨w.heap.size, 0, none⟩ = some (.int .u16 c) := by rw [hb1.cell (p := ⟨w.heap.size, 0, none⟩) (by simp)]; simp
  have ca := HM.out.ca
  have fa := HM.out.b.fz 9
  have HE := Lib.hid (HM.out.sa v)
  have HG := Lib.hid (only_trans (only_of HB.out g) (only_set w1 g 9 (.int .u32 v)))
  dsimp only at ca
  clear hb1
  go_wp2_with (go_at_call 84; refine (Kd.out _).mono ?_; rintro e2 w2 ⟨rfl, rfl⟩)
  go_end0
  exact ⟨rfl, HE.out, HG.out⟩
set_option maxRecDepth 100000 in
theorem reckon_3x (g : Nat) (R : List Value) (s s' : Mc) (e e' : Bool) (y y' : Nat) (i : Ins) (w : World) (h : Mach w g R s e y) (hi : i.ok) (hop : i.c / 16 = 3)
    (Dv : ∀ w1, Mach w1 g R s e y → Calls Try.prog 86 #[.pointer (some ⟨g, 0, none⟩), .int .u32 (opd i s : Nat)] w1 (MachTo w1 g R s' e' y')) :
    Calls Try.prog 75 #[.pointer (some ⟨g, 0, none⟩), .agg #[.int .u16 i.c, .int .u8 i.t, .int .u8 i.f, .int .u32 i.k]] w (MachTo w g R s' e' y') := by
  have hgl := h.lt
  have Od := Lib.hid (fun w h => operand_any g R s e y i w h hi.1)
  have Kd := Lib.hid (fun w => kind_any i.c 48 w hi.1 (by omega))
  have H := Lib.hid h
  obtain ⟨n, hnd⟩ : ∃ n, n = opd i s := ⟨_, rfl⟩
  rw [← hnd] at Od Dv
  have Dv1 := Lib.hid Dv
  obtain ⟨c, t, f, k⟩ := i
  dsimp only at *
  clear hnd hop hi h Dv
  go_enter Try.func75, Try.ntmps75
  go_wp2_with fail
  refine (Od.out _ (H.out.alloc _)).mono ?_
  rintro e1 w1 ⟨rfl, hb1⟩
  have HM := Lib.hid ((H.out.alloc _).kept hb1)
  have HB := Lib.hid ((one_below w _).trans (hb1.mono (by simp)))
  have q0 : w1.cell? ⟨w.heap.size, 0, none⟩ = some (.int .u16 c) := by rw [hb1.cell (p := ⟨w.heap.size, 0, none⟩) (by simp)]; simp
  have Dv2 := Lib.hid (Dv1.out w1 HM.out)
  clear hb1
  go_wp2_with (go_at_call 84; refine (Kd.out _).mono ?_; rintro e2 w2 ⟨rfl, rfl⟩)
  refine Dv2.out.mono ?_
  rintro e3 w3 ⟨rfl, h4, h5⟩
  have H4 := Lib.hid h4
  have H5 := Lib.hid h5
  clear h4 h5
  go_wp2_with fail
  go_end0
  exact ⟨rfl, H4.out, only_trans (only_of HB.out g) H5.out⟩
theorem reckon_3 (g : Nat) (R : List Value) (s : Mc) (e : Bool) (y : Nat) (i : Ins) (w : World) (h : Mach w g R s e y) (hs : s.ok) (hi : i.ok) (hop : i.c / 16 = 3) :
    Calls Try.prog 75 #[.pointer (some ⟨g, 0, none⟩), .agg #[.int .u16 i.c, .int .u8 i.t, .int .u8 i.f, .int .u32 i.k]] w (if opd i s = 0 then MachTo w g R s true 0 else MachTo w g R { s with a := s.a / opd i s } e y) := by
  have hn := opd_lt hs hi.2.2.2
  by_cases h0 : opd i s = 0
  · rw [if_pos h0]
    exact reckon_3x g R s s e true y 0 i w h hi hop (fun w1 h1 => by have := divide_any g R s e y (opd i s) w1 h1 hn hs.a; rwa [if_pos h0] at this)
  · rw [if_neg h0]
    exact reckon_3x g R s _ e e y y i w h hi hop (fun w1 h1 => by have := divide_any g R s e y (opd i s) w1 h1 hn hs.a; rwa [if_neg h0] at this)
/-- Any way of reckoning. -/
theorem reckon_any (g : Nat) (R : List Value) (s : Mc) (e : Bool) (y : Nat) (i : Ins) (w : World) (h : Mach w g R s e y) (hs : s.ok) (hi : i.ok) (hk : knownB i.c = true) (h4 : i.c % 8 = 4) :
    Calls Try.prog 75 #[.pointer (some ⟨g, 0, none⟩), .agg #[.int .u16 i.c, .int .u8 i.t, .int .u8 i.f, .int .u32 i.k]] w (if i.c / 16 = 3 ∧ opd i s = 0 then MachTo w g R s true 0 else MachTo w g R { s with a := reckN (i.c / 16) s.a (opd i s) } e y) := by
  have hc : i.c ∈ codesL := by simpa [knownB] using hk
  simp only [codesL, List.mem_cons, List.not_mem_nil, or_false] at hc
  have hop : i.c / 16 = 0 ∨ i.c / 16 = 1 ∨ i.c / 16 = 2 ∨ i.c / 16 = 3 ∨ i.c / 16 = 4 ∨ i.c / 16 = 5 ∨ i.c / 16 = 6 ∨ i.c / 16 = 7 ∨ i.c / 16 = 8 ∨ i.c / 16 = 10 := by omega
  clear hc
  rcases hop with e1 | e1 | e1 | e1 | e1 | e1 | e1 | e1 | e1 | e1
  · rw [if_neg (by omega), e1]; exact reckon_0 g R s e y i w h hs hi e1
  · rw [if_neg (by omega), e1]; exact reckon_1 g R s e y i w h hs hi e1
  · rw [if_neg (by omega), e1]; exact reckon_2 g R s e y i w h hs hi e1
  · have := reckon_3 g R s e y i w h hs hi e1
    by_cases h0 : opd i s = 0
    · rw [if_pos ⟨e1, h0⟩]; rwa [if_pos h0] at this
    · rw [if_neg (fun x => h0 x.2), e1]; rwa [if_neg h0] at this
  · rw [if_neg (by omega), e1]; exact reckon_4 g R s e y i w h hs hi e1
  · rw [if_neg (by omega), e1]; exact reckon_5 g R s e y i w h hs hi e1
  · rw [if_neg (by omega), e1]; exact reckon_6 g R s e y i w h hs hi e1
  · rw [if_neg (by omega), e1]; exact reckon_7 g R s e y i w h hs hi e1
  · rw [if_neg (by omega), e1]; exact reckon_8 g R s e y i w h hs hi e1
  · rw [if_neg (by omega), e1]; exact reckon_10 g R s e y i w h hs hi e1
end Go.Proofs.Ytnkffjdoillmaaa
