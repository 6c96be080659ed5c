/- What the machine is asked: does it hold; how far; what is loaded. -/
import Derived.Test.YtnkffjdoillmaaaReckon
import Derived.Test.YtnkffjdoillmaaaWord
import Derived.Deep.RegionHeld3
import Derived.Deep.QuietTactic
import Derived.BigQuiet
namespace Go.Proofs.Ytnkffjdoillmaaa
open Go.RowKit
theorem dec_eq (a b : Nat) : ((a : Int) == (b : Int)) = decide (a = b) := beq_nat a b
theorem and0 (a n : Nat) (ha : a < 4294967296) (hn : n < 4294967296) : bits .and .u32 (a : Int) (n : Int) = ((a &&& n : Nat) : Int) := u32_and_nat a n ha hn
/-- What a question answers. -/
def AskTo (w : World) (b : Bool) (en : Ending) (w' : World) : Prop := en = .returned (.bool b) ∧ Below w.heap.size w w'
set_option maxRecDepth 100000 in
set_option maxHeartbeats 1000000 in
theorem holds_1 (g : Nat) (R : List Value) (s : Mc) (e : Bool) (y : Nat) (i : Ins) (w : World) (h : Mach w g R s e y) (hs : s.ok) (hi : i.ok) (hop : i.c / 16 = 1) :
    Calls Try.prog 87 #[.pointer (some ⟨g, 0, none⟩), .agg #[.int .u16 i.c, .int .u8 i.t, .int .u8 i.f, .int .u32 i.k]] w (AskTo w (holdsN 1 s.a (opd i s))) := by
  have hgl := h.lt
  have ha := hs.a
  have hn := opd_lt hs hi.2.2.2
  have Od := Lib.hid (fun w h => operand_any g R s e y i w h hi.1)
  have Kd := Lib.hid (fun w => kind_any i.c 16 w hi.1 (by omega))
  have H := Lib.hid h
  obtain ⟨c, t, f, k⟩ := i
  obtain ⟨n, hnd⟩ : ∃ n, n = opd ⟨c, t, f, k⟩ s := ⟨_, rfl⟩
  rw [← hnd] at Od hn ⊢
  obtain ⟨a, x, m, nx⟩ := s
  dsimp only at *
  have hv : ((a : Int) == (n : Int)) = holdsN 1 a n := by rw [beq_nat]; rfl
  obtain ⟨v, hvd⟩ : ∃ v, v = holdsN 1 a n := ⟨_, rfl⟩
  rw [← hvd] at hv ⊢
  clear hnd hvd hop hi hs h
  go_enter Try.func87, Try.ntmps87
  go_wp2_with fail
  refine (Od.out _ (H.out.alloc _)).mono ?_
  rintro e1 w1 ⟨rfl, hb1⟩
  have HM := Lib.hid ((H.out.alloc _).kept hb1)
  have HB := Lib.hid ((one_below w _).trans (hb1.mono (by simp)))
  have q0 : w1.cell? ⟨w.heap.size, 0, none⟩ = some (.int .u16 c) := by rw [hb1.cell (p := ⟨w.heap.size, 0, none⟩) (by simp)]; simp
  have ca := HM.out.ca
  dsimp only at ca
  clear hb1
  go_wp2_with (go_at_call 84; refine (Kd.out _).mono ?_; rintro e2 w2 ⟨rfl, rfl⟩)
  go_ret
  exact ⟨rfl, HB.out⟩
set_option maxRecDepth 100000 in
set_option maxHeartbeats 1000000 in
theorem holds_2 (g : Nat) (R : List Value) (s : Mc) (e : Bool) (y : Nat) (i : Ins) (w : World) (h : Mach w g R s e y) (hs : s.ok) (hi : i.ok) (hop : i.c / 16 = 2) :
    Calls Try.prog 87 #[.pointer (some ⟨g, 0, none⟩), .agg #[.int .u16 i.c, .int .u8 i.t, .int .u8 i.f, .int .u32 i.k]] w (AskTo w (holdsN 2 s.a (opd i s))) := by
  have hgl := h.lt
  have ha := hs.a
  have hn := opd_lt hs hi.2.2.2
  have Od := Lib.hid (fun w h => operand_any g R s e y i w h hi.1)
  have Kd := Lib.hid (fun w => kind_any i.c 32 w hi.1 (by omega))
  have H := Lib.hid h
  obtain ⟨c, t, f, k⟩ := i
  obtain ⟨n, hnd⟩ : ∃ n, n = opd ⟨c, t, f, k⟩ s := ⟨_, rfl⟩
  rw [← hnd] at Od hn ⊢
  obtain ⟨a, x, m, nx⟩ := s
  dsimp only at *
  have hv : decide ((n : Int) < (a : Int)) = holdsN 2 a n := by simp [holdsN]
  obtain ⟨v, hvd⟩ : ∃ v, v = holdsN 2 a n := ⟨_, rfl⟩
  rw [← hvd] at hv ⊢
  have Hv := Lib.hid hv
  clear hv
  clear hnd hvd hop hi hs h
  go_enter Try.func87, Try.ntmps87
  go_wp2_with fail
  refine (Od.out _ (H.out.alloc _)).mono ?_
  rintro e1 w1 ⟨rfl, hb1⟩
  have HM := Lib.hid ((H.out.alloc _).kept hb1)
  have HB := Lib.hid ((one_below w _).trans (hb1.mono (by simp)))
  have q0 : w1.cell? ⟨w.heap.size, 0, none⟩ = some (.int .u16 c) := by rw [hb1.cell (p := ⟨w.heap.size, 0, none⟩) (by simp)]; simp
  have ca := HM.out.ca
  dsimp only at ca
  clear hb1
  go_wp2_with (go_at_call 84; refine (Kd.out _).mono ?_; rintro e2 w2 ⟨rfl, rfl⟩)
  go_ret
  exact ⟨ret_bool (by rw [← Hv.out]; simp), HB.out⟩
set_option maxRecDepth 100000 in
set_option maxHeartbeats 1000000 in
theorem holds_3 (g : Nat) (R : List Value) (s : Mc) (e : Bool) (y : Nat) (i : Ins) (w : World) (h : Mach w g R s e y) (hs : s.ok) (hi : i.ok) (hop : i.c / 16 = 3) :
    Calls Try.prog 87 #[.pointer (some ⟨g, 0, none⟩), .agg #[.int .u16 i.c, .int .u8 i.t, .int .u8 i.f, .int .u32 i.k]] w (AskTo w (holdsN 3 s.a (opd i s))) := by
  have hgl := h.lt
  have ha := hs.a
  have hn := opd_lt hs hi.2.2.2
  have Od := Lib.hid (fun w h => operand_any g R s e y i w h hi.1)
  have Kd := Lib.hid (fun w => kind_any i.c 48 w hi.1 (by omega))
  have H := Lib.hid h
  obtain ⟨c, t, f, k⟩ := i
  obtain ⟨n, hnd⟩ : ∃ n, n = opd ⟨c, t, f, k⟩ s := ⟨_, rfl⟩
  rw [← hnd] at Od hn ⊢
  obtain ⟨a, x, m, nx⟩ := s
  dsimp only at *
  have hv : decide ((n : Int) ≤ (a : Int)) = holdsN 3 a n := by simp [holdsN]
  obtain ⟨v, hvd⟩ : ∃ v, v = holdsN 3 a n := ⟨_, rfl⟩
  rw [← hvd] at hv ⊢
  have Hv := Lib.hid hv
  clear hv
  clear hnd hvd hop hi hs h
  go_enter Try.func87, Try.ntmps87
  go_wp2_with fail
  refine (Od.out _ (H.out.alloc _)).mono ?_
  rintro e1 w1 ⟨rfl, hb1⟩
  have HM := Lib.hid ((H.out.alloc _).kept hb1)
  have HB := Lib.hid ((one_below w _).trans (hb1.mono (by simp)))
  have q0 : w1.cell? ⟨w.heap.size, 0, none⟩ = some (.int .u16 c) := by rw [hb1.cell (p := ⟨w.heap.size, 0, none⟩) (by simp)]; simp
  have ca := HM.out.ca
  dsimp only at ca
  clear hb1
  go_wp2_with (go_at_call 84; refine (Kd.out _).mono ?_; rintro e2 w2 ⟨rfl, rfl⟩)
  go_ret
  exact ⟨ret_bool (by rw [← Hv.out]; simp), HB.out⟩
set_option maxRecDepth 100000 in
set_option maxHeartbeats 1000000 in
theorem holds_4 (g : Nat) (R : List Value) (s : Mc) (e : Bool) (y : Nat) (i : Ins) (w : World) (h : Mach w g R s e y) (hs : s.ok) (hi : i.ok) (hop : i.c / 16 = 4) :
    Calls Try.prog 87 #[.pointer (some ⟨g, 0, none⟩), .agg #[.int .u16 i.c, .int .u8 i.t, .int .u8 i.f, .int .u32 i.k]] w (AskTo w (holdsN 4 s.a (opd i s))) := by
  have hgl := h.lt
  have ha := hs.a
  have hn := opd_lt hs hi.2.2.2
  have Od := Lib.hid (fun w h => operand_any g R s e y i w h hi.1)
  have Kd := Lib.hid (fun w => kind_any i.c 64 w hi.1 (by omega))
  have H := Lib.hid h
  obtain ⟨c, t, f, k⟩ := i
  obtain ⟨n, hnd⟩ : ∃ n, n = opd ⟨c, t, f, k⟩ s := ⟨_, rfl⟩
  rw [← hnd] at Od hn ⊢
  obtain ⟨a, x, m, nx⟩ := s
  dsimp only at *
  obtain ⟨z, hz, hzd⟩ : ∃ z : Nat, bits .and .u32 (a : Int) (n : Int) = (z : Int) ∧ z = a &&& n := ⟨_, u32_and_nat a n ha hn, rfl⟩
  have hv : ((z : Int) != 0) = holdsN 4 a n := by
    show (!((z : Int) == ((0 : Nat) : Int))) = _
    rw [beq_nat, hzd]
    by_cases h0 : a &&& n = 0 <;> simp [holdsN, h0]
  clear hzd
  obtain ⟨v, hvd⟩ : ∃ v, v = holdsN 4 a n := ⟨_, rfl⟩
  rw [← hvd] at hv ⊢
  clear hnd hvd hop hi hs h
  go_enter Try.func87, Try.ntmps87
  go_wp2_with fail
  refine (Od.out _ (H.out.alloc _)).mono ?_
  rintro e1 w1 ⟨rfl, hb1⟩
  have HM := Lib.hid ((H.out.alloc _).kept hb1)
  have HB := Lib.hid ((one_below w _).trans (hb1.mono (by simp)))
  have q0 : w1.cell? ⟨w.heap.size, 0, none⟩ = some (.int .u16 c) := by rw [hb1.cell (p := ⟨w.heap.size, 0, none⟩) (by simp)]; simp
  have ca := HM.out.ca
  dsimp only at ca
  clear hb1
  go_wp2_with (go_at_call 84; refine (Kd.out _).mono ?_; rintro e2 w2 ⟨rfl, rfl⟩)
  go_ret
  exact ⟨rfl, HB.out⟩
/-- Any question. -/
theorem holds_any (g : Nat) (R : List Value) (s : Mc) (e : Bool) (y : Nat) (i : Ins) (w : World) (h : Mach w g R s e y) (hs : s.ok) (hi : i.ok) (hk : knownB i.c = true) (h5 : i.c % 8 = 5) (h0 : i.c ≠ 5) :
    Calls Try.prog 87 #[.pointer (some ⟨g, 0, none⟩), .agg #[.int .u16 i.c, .int .u8 i.t, .int .u8 i.f, .int .u32 i.k]] w (AskTo w (holdsN (i.c / 16) s.a (opd i s))) := by
  have hc : i.c ∈ codesL := by simpa [knownB] using hk
  simp only [codesL, List.mem_cons, List.not_mem_nil, or_false] at hc
  have hop : i.c / 16 = 1 ∨ i.c / 16 = 2 ∨ i.c / 16 = 3 ∨ i.c / 16 = 4 := by omega
  clear hc
  rcases hop with e1 | e1 | e1 | e1 <;> rw [e1]
  · exact holds_1 g R s e y i w h hs hi e1
  · exact holds_2 g R s e y i w h hs hi e1
  · exact holds_3 g R s e y i w h hs hi e1
  · exact holds_4 g R s e y i w h hs hi e1
set_option maxRecDepth 100000 in
set_option maxHeartbeats 1000000 in
theorem far_any (g : Nat) (R : List Value) (s : Mc) (e : Bool) (y : Nat) (i : Ins) (w : World) (h : Mach w g R s e y) (hs : s.ok) (hi : i.ok) (hk : knownB i.c = true) (h5 : i.c % 8 = 5) :
    Calls Try.prog 76 #[.pointer (some ⟨g, 0, none⟩), .agg #[.int .u16 i.c, .int .u8 i.t, .int .u8 i.f, .int .u32 i.k]] w (OneN .i64 (farN i s) w) := by
  have hgl := h.lt
  have hF : farN i s = if i.c / 16 = 0 then i.k else if holdsN (i.c / 16) s.a (opd i s) = true then i.t else i.f := rfl
  obtain ⟨hc1, ht, hf, hk1⟩ := hi
  have hcc : i.c ∈ codesL := by simpa [knownB] using hk
  simp only [codesL, List.mem_cons, List.not_mem_nil, or_false] at hcc
  by_cases h0 : i.c = 5
  · have Kd := Lib.hid (fun w => kind_any i.c 0 w hc1 (by omega))
    rw [hF, if_pos (by omega)]
    obtain ⟨c, t, f, k⟩ := i
    dsimp only at *
    clear hF hk h5 hcc h0 h hs
    go_enter Try.func76, Try.ntmps76
    go_wp2_with (go_at_call 84; refine (Kd.out _).mono ?_; rintro e2 w2 ⟨rfl, rfl⟩)
    go_ret
    exact ⟨rfl, one_below _ _⟩
  · have hq : i.c / 16 * 16 = 16 ∨ i.c / 16 * 16 = 32 ∨ i.c / 16 * 16 = 48 ∨ i.c / 16 * 16 = 64 := by omega
    have Kd := Lib.hid (fun q (hq : i.c / 16 * 16 = q) w => kind_any i.c q w hc1 hq)
    rw [if_neg (by omega)] at hF
    obtain ⟨d, hd⟩ : ∃ d, d = farN i s := ⟨_, rfl⟩
    rw [← hd] at hF ⊢
    have H := Lib.hid h
    have Ho := Lib.hid (fun w h => holds_any g R s e y i w h hs ⟨hc1, ht, hf, hk1⟩ hk h5 h0)
    obtain ⟨v, hv⟩ : ∃ v, v = holdsN (i.c / 16) s.a (opd i s) := ⟨_, rfl⟩
    rw [← hv] at Ho hF
    have HF := Lib.hid hF
    obtain ⟨c, t, f, k⟩ := i
    dsimp only at *
    clear hF hk h5 hcc h0 h hs hv hd
    rcases hq with hq | hq | hq | hq
    all_goals
      have Kd2 := Lib.hid (Kd.out _ hq)
      clear hq Kd
      go_enter Try.func76, Try.ntmps76
      go_wp2_with (go_at_call 84; refine (Kd2.out _).mono ?_; rintro e2 w2 ⟨rfl, rfl⟩)
      refine (Ho.out _ (H.out.alloc _)).mono ?_
      rintro e1 w1 ⟨rfl, hb1⟩
      have HB := Lib.hid ((one_below w _).trans (hb1.mono (by simp)))
      have q1 : w1.cell? ⟨w.heap.size, 1, none⟩ = some (.int .u8 t) := by rw [hb1.cell (p := ⟨w.heap.size, 1, none⟩) (by simp)]; simp
      have q2 : w1.cell? ⟨w.heap.size, 2, none⟩ = some (.int .u8 f) := by rw [hb1.cell (p := ⟨w.heap.size, 2, none⟩) (by simp)]; simp
      clear hb1
      cases v
      · obtain rfl : d = f := HF.out
        go_wp2_with fail
        go_ret
        exact ⟨rfl, HB.out⟩
      · obtain rfl : d = t := HF.out
        go_wp2_with fail
        go_ret
        exact ⟨rfl, HB.out⟩
end Go.Proofs.Ytnkffjdoillmaaa
