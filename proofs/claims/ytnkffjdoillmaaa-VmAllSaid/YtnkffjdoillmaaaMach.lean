/- The machine in memory: its cells; what it is asked, what it does: the small ones. -/
import Derived.Test.YtnkffjdoillmaaaVmM
import Derived.Test.YtnkffjdoillmaaaSmall
import Derived.Test.YtnkffjdoillmaaaSeg
import Derived.Test.YtnkffjdoillmaaaCells
import Derived.Test.YtnkffjdoillmaaaOneI
namespace Go.Proofs.Ytnkffjdoillmaaa
open Go.RowKit
theorem clearLow (n : Nat) (h : n < 65536) : n &&& (65535 - n % 8) = n / 8 * 8 := by
  have h1 := Nat.and_div_two_pow (a := n) (b := 65535 - n % 8) (n := 3)
  have h2 := Nat.and_mod_two_pow (a := n) (b := 65535 - n % 8) (n := 3)
  simp only [Nat.reducePow] at h1 h2
  have e0 : (65535 - n % 8) / 8 = 8191 := by omega
  have e1 := Nat.and_two_pow_sub_one_eq_mod (n / 8) 13
  simp only [Nat.reducePow, Nat.reduceSub] at e1
  rw [e0, e1] at h1
  have e3 : n % 8 &&& (65535 - n % 8) % 8 = 0 := by
    rcases (by omega : n % 8 = 0 ∨ n % 8 = 1 ∨ n % 8 = 2 ∨ n % 8 = 3 ∨ n % 8 = 4 ∨ n % 8 = 5 ∨ n % 8 = 6 ∨ n % 8 = 7) with e | e | e | e | e | e | e | e <;> (rw [e]; rfl)
  rw [e3] at h2
  omega
theorem kind_of (n : Nat) (h : n < 65536) : bits .andNot .u16 (bits .andNot .u16 (n : Int) ((n % 8 : Nat) : Int)) 8 = ((n / 16 * 16 : Nat) : Int) := by
  rw [u16_andNot_nat n (n % 8) h (by omega), clearLow n h, andNot8 _ (by omega)]
  omega
set_option maxRecDepth 100000 in
theorem kind_any (n q : Nat) (w : World) (h : n < 65536) (hq : n / 16 * 16 = q) : Calls Try.prog 84 #[.int .u16 n] w fun e w' => e = .returned (.int .u16 (q : Int)) ∧ w = w' := by
  have Hk := Lib.hid (kind_of n h)
  have Hc := Lib.hid (class_any n w h)
  subst hq
  obtain ⟨r, hr⟩ : ∃ r : Nat, r = n % 8 := ⟨_, rfl⟩
  rw [← hr] at Hk Hc
  clear hr
  go_enter Try.func84, Try.ntmps84
  go_wp2_with (go_at_call 31; refine Hc.out.mono ?_; rintro e w' ⟨rfl, rfl⟩)
  go_ret
  exact ⟨ret_int Hk.out, rfl⟩
/-- The machine's cells. -/
def mac (R : List Value) (s : Mc) (e : Bool) (y : Nat) : List Value := R ++ (.int .u32 s.a :: .int .u32 s.x :: (u32s s.m ++ [.int .i64 s.nx, .bool e, .int .u32 y]))
section
variable {R : List Value} {s : Mc} {e : Bool} {y : Nat}
theorem mac_len (hR : R.length = 9) (hm : s.m.length = 16) : (mac R s e y).length = 30 := by simp [mac, hR, hm, u32s]
theorem mac_a (hR : R.length = 9) : (mac R s e y)[9]? = some (.int .u32 s.a) := by unfold mac; rw [List.getElem?_append_right (by omega), hR]; rfl
theorem mac_x (hR : R.length = 9) : (mac R s e y)[10]? = some (.int .u32 s.x) := by unfold mac; rw [List.getElem?_append_right (by omega), hR]; rfl
theorem mac_m (hR : R.length = 9) (hm : s.m.length = 16) {j : Nat} (hj : j < 16) : (mac R s e y)[11 + j]? = some (.int .u32 (s.m.getD j 0 : Nat)) := by
  unfold mac
  rw [List.getElem?_append_right (by omega), hR, show 11 + j - 9 = j + 1 + 1 by omega, List.getElem?_cons_succ, List.getElem?_cons_succ, List.getElem?_append_left (by simp [u32s, hm]; omega)]
  simp [u32s, List.getD_eq_getElem?_getD, List.getElem?_eq_getElem (show j < s.m.length by omega)]
theorem mac_n (hR : R.length = 9) (hm : s.m.length = 16) : (mac R s e y)[27]? = some (.int .i64 s.nx) := by
  unfold mac
  rw [List.getElem?_append_right (by omega), hR, show 27 - 9 = 16 + 1 + 1 by omega, List.getElem?_cons_succ, List.getElem?_cons_succ, List.getElem?_append_right (by simp [u32s, hm])]
  simp [u32s, hm]
theorem mac_e (hR : R.length = 9) (hm : s.m.length = 16) : (mac R s e y)[28]? = some (.bool e) := by
  unfold mac
  rw [List.getElem?_append_right (by omega), hR, show 28 - 9 = 17 + 1 + 1 by omega, List.getElem?_cons_succ, List.getElem?_cons_succ, List.getElem?_append_right (by simp [u32s, hm])]
  simp [u32s, hm]
theorem mac_y (hR : R.length = 9) (hm : s.m.length = 16) : (mac R s e y)[29]? = some (.int .u32 y) := by
  unfold mac
  rw [List.getElem?_append_right (by omega), hR, show 29 - 9 = 18 + 1 + 1 by omega, List.getElem?_cons_succ, List.getElem?_cons_succ, List.getElem?_append_right (by simp [u32s, hm])]
  simp [u32s, hm]
theorem set_a (hR : R.length = 9) (v : Nat) : (mac R s e y).set 9 (.int .u32 v) = mac R { s with a := v } e y := by
  unfold mac; rw [List.set_append_right _ _ (by omega), hR]; rfl
theorem set_x (hR : R.length = 9) (v : Nat) : (mac R s e y).set 10 (.int .u32 v) = mac R { s with x := v } e y := by
  unfold mac; rw [List.set_append_right _ _ (by omega), hR]; rfl
theorem set_m (hR : R.length = 9) (hm : s.m.length = 16) {j : Nat} (hj : j < 16) (v : Nat) : (mac R s e y).set (11 + j) (.int .u32 v) = mac R { s with m := s.m.set j v } e y := by
  unfold mac
  rw [List.set_append_right _ _ (by omega), hR, show 11 + j - 9 = j + 1 + 1 by omega, List.set_cons_succ, List.set_cons_succ, List.set_append_left _ _ (by simp [u32s, hm]; omega)]
  simp [u32s, List.map_set]
theorem set_n (hR : R.length = 9) (hm : s.m.length = 16) (v : Nat) : (mac R s e y).set 27 (.int .i64 v) = mac R { s with nx := v } e y := by
  unfold mac
  rw [List.set_append_right _ _ (by omega), hR, show 27 - 9 = 16 + 1 + 1 by omega, List.set_cons_succ, List.set_cons_succ, List.set_append_right _ _ (by simp [u32s, hm])]
  simp [u32s, hm]
theorem set_e (hR : R.length = 9) (hm : s.m.length = 16) (v : Bool) : (mac R s e y).set 28 (.bool v) = mac R s v y := by
  unfold mac
  rw [List.set_append_right _ _ (by omega), hR, show 28 - 9 = 17 + 1 + 1 by omega, List.set_cons_succ, List.set_cons_succ, List.set_append_right _ _ (by simp [u32s, hm])]
  simp [u32s, hm]
theorem set_y (hR : R.length = 9) (hm : s.m.length = 16) (v : Nat) : (mac R s e y).set 29 (.int .u32 v) = mac R s e v := by
  unfold mac
  rw [List.set_append_right _ _ (by omega), hR, show 29 - 9 = 18 + 1 + 1 by omega, List.set_cons_succ, List.set_cons_succ, List.set_append_right _ _ (by simp [u32s, hm])]
  simp [u32s, hm]
end
/-- The machine lies in block g. -/
structure Mach (w : World) (g : Nat) (R : List Value) (s : Mc) (e : Bool) (y : Nat) : Prop where
  r : R.length = 9
  m : s.m.length = 16
  b : Bk w g 131 (mac R s e y)
section
variable {w w' : World} {g : Nat} {R : List Value} {s : Mc} {e : Bool} {y : Nat}
theorem Mach.lt (h : Mach w g R s e y) : g < w.heap.size := h.b.lt
theorem Mach.ca (h : Mach w g R s e y) : w.cell? ⟨g, 9, none⟩ = some (.int .u32 s.a) := h.b.cell 9 (mac_a h.r)
theorem Mach.cx (h : Mach w g R s e y) : w.cell? ⟨g, 10, none⟩ = some (.int .u32 s.x) := h.b.cell 10 (mac_x h.r)
theorem Mach.cm (h : Mach w g R s e y) {j : Nat} (hj : j < 16) : w.cell? ⟨g, 11 + j, none⟩ = some (.int .u32 (s.m.getD j 0 : Nat)) := h.b.cell _ (mac_m h.r h.m hj)
theorem Mach.cn (h : Mach w g R s e y) : w.cell? ⟨g, 27, none⟩ = some (.int .i64 s.nx) := h.b.cell 27 (mac_n h.r h.m)
theorem Mach.ce (h : Mach w g R s e y) : w.cell? ⟨g, 28, none⟩ = some (.bool e) := h.b.cell 28 (mac_e h.r h.m)
theorem Mach.cy (h : Mach w g R s e y) : w.cell? ⟨g, 29, none⟩ = some (.int .u32 y) := h.b.cell 29 (mac_y h.r h.m)
theorem Mach.kept (h : Mach w g R s e y) (hb : Below w.heap.size w w') : Mach w' g R s e y := ⟨h.r, h.m, h.b.kept hb⟩
theorem Mach.drew (h : Mach w g R s e y) : Mach w.drew g R s e y := ⟨h.r, h.m, h.b.drew⟩
theorem Mach.alloc (h : Mach w g R s e y) (o : Obj) : Mach (w.alloc o) g R s e y := ⟨h.r, h.m, h.b.alloc o⟩
theorem Mach.sa (h : Mach w g R s e y) (v : Nat) : Mach (w.setCell ⟨g, 9, none⟩ (.int .u32 v)) g R { s with a := v } e y := ⟨h.r, h.m, set_a h.r v ▸ h.b.set 9 _⟩
theorem Mach.sx (h : Mach w g R s e y) (v : Nat) : Mach (w.setCell ⟨g, 10, none⟩ (.int .u32 v)) g R { s with x := v } e y := ⟨h.r, h.m, set_x h.r v ▸ h.b.set 10 _⟩
theorem Mach.sm (h : Mach w g R s e y) {j : Nat} (hj : j < 16) (v : Nat) : Mach (w.setCell ⟨g, 11 + j, none⟩ (.int .u32 v)) g R { s with m := s.m.set j v } e y := ⟨h.r, by simp [h.m], set_m h.r h.m hj v ▸ h.b.set _ _⟩
theorem Mach.sn (h : Mach w g R s e y) (v : Nat) : Mach (w.setCell ⟨g, 27, none⟩ (.int .i64 v)) g R { s with nx := v } e y := ⟨h.r, h.m, set_n h.r h.m v ▸ h.b.set 27 _⟩
theorem Mach.se (h : Mach w g R s e y) (v : Bool) : Mach (w.setCell ⟨g, 28, none⟩ (.bool v)) g R s v y := ⟨h.r, h.m, set_e h.r h.m v ▸ h.b.set 28 _⟩
theorem Mach.sy (h : Mach w g R s e y) (v : Nat) : Mach (w.setCell ⟨g, 29, none⟩ (.int .u32 v)) g R s e v := ⟨h.r, h.m, set_y h.r h.m v ▸ h.b.set 29 _⟩
end
theorem only_alloc (w : World) (g : Nat) (o : Obj) : w.grownBy (w.alloc o) (some g) := ⟨rfl, rfl, rfl, by simp, fun i hi _ => Below.heap_alloc w o i hi⟩
theorem only_drew (w : World) (g : Nat) : w.grownBy w.drew (some g) := ⟨rfl, rfl, rfl, Nat.le_refl _, fun _ _ _ => rfl⟩
theorem only_of {w w' : World} (h : Below w.heap.size w w') (g : Nat) : w.grownBy w' (some g) := ⟨h.os, h.tape, h.output, h.size, fun i hi _ => h.block i hi⟩
/-- What a call of a method leaves of the machine. -/
def MachTo (w : World) (g : Nat) (R : List Value) (s : Mc) (e : Bool) (y : Nat) (en : Ending) (w' : World) : Prop := en = .returned (.tuple #[]) ∧ Mach w' g R s e y ∧ w.grownBy w' (some g)
set_option maxRecDepth 100000 in
theorem end_any (g : Nat) (R : List Value) (s : Mc) (e : Bool) (y v : Nat) (w : World) (h : Mach w g R s e y) : Calls Try.prog 77 #[.pointer (some ⟨g, 0, none⟩), .int .u32 v] w (MachTo w g R s true v) := by
  have c1 := h.ce
  have c2 := h.cy
  have f1 := h.b.fz 28
  have f2 := h.b.fz 29
  have H := Lib.hid ((h.se true).sy v)
  have H2 := Lib.hid (only_trans (only_set w g 28 (.bool true)) (only_set _ g 29 (.int .u32 v)))
  clear h
  go_enter Try.func77, Try.ntmps77
  go_wp2_with fail
  go_end0
  exact ⟨rfl, H.out, H2.out⟩
theorem and8 (c : Nat) : c &&& 8 = 8 * (c / 8 % 2) := by
  have h1 := Nat.and_div_two_pow (a := c) (b := 8) (n := 3)
  have h2 := Nat.and_mod_two_pow (a := c) (b := 8) (n := 3)
  simp only [Nat.reducePow, Nat.reduceDiv, Nat.reduceMod, Nat.and_zero, Nat.and_one_is_mod] at h1 h2
  omega
set_option maxRecDepth 100000 in
theorem operand_any (g : Nat) (R : List Value) (s : Mc) (e : Bool) (y : Nat) (i : Ins) (w : World) (h : Mach w g R s e y) (hc : i.c < 65536) :
    Calls Try.prog 85 #[.pointer (some ⟨g, 0, none⟩), .agg #[.int .u16 i.c, .int .u8 i.t, .int .u8 i.f, .int .u32 i.k]] w (OneN .u32 (opd i s) w) := by
  have hb := u16_and_nat i.c 8 hc (by omega)
  rw [and8 _] at hb
  have hgl := h.lt
  have cx := h.cx
  have Ho := Lib.hid (show opd i s = if i.c / 8 % 2 = 1 then s.x else i.k from rfl)
  obtain ⟨c, t, f, k⟩ := i
  obtain ⟨a, x, m, nx⟩ := s
  dsimp only at *
  by_cases h8 : c / 8 % 2 = 1
  · have b1 : bits .and .u16 (c : Int) 8 = 8 := by rw [h8] at hb; exact hb
    have e1 : opd ⟨c, t, f, k⟩ ⟨a, x, m, nx⟩ = x := by rw [Ho.out, if_pos h8]
    rw [e1]
    clear e1 hb Ho h8 h hc
    go_enter Try.func85, Try.ntmps85
    go_wp2_with fail
    go_ret
    exact ⟨rfl, one_below _ _⟩
  · have b1 : bits .and .u16 (c : Int) 8 = 0 := by rw [show c / 8 % 2 = 0 by omega] at hb; exact hb
    have e1 : opd ⟨c, t, f, k⟩ ⟨a, x, m, nx⟩ = k := by rw [Ho.out, if_neg h8]
    rw [e1]
    clear e1 hb Ho h8
    go_enter Try.func85, Try.ntmps85
    go_wp2_with fail
    go_ret
    exact ⟨rfl, one_below _ _⟩
/-- What an instruction may reckon with. -/
theorem div_cast (a n : Nat) : (a : Int) / (n : Int) = ((a / n : Nat) : Int) := by simp
set_option maxRecDepth 100000 in
theorem divide_any (g : Nat) (R : List Value) (s : Mc) (e : Bool) (y n : Nat) (w : World) (h : Mach w g R s e y) (hn : n < 4294967296) (ha : s.a < 4294967296) :
    Calls Try.prog 86 #[.pointer (some ⟨g, 0, none⟩), .int .u32 n] w (if n = 0 then MachTo w g R s true 0 else MachTo w g R { s with a := s.a / n } e y) := by
  by_cases h0 : n = 0
  · subst h0
    rw [if_pos rfl]
    have He := Lib.hid (end_any g R s e y 0 w h)
    clear h ha hn
    go_enter Try.func86, Try.ntmps86
    go_wp2_with fail
    refine He.out.mono ?_
    rintro e1 w1 ⟨rfl, h1, h2⟩
    have H1 := Lib.hid h1
    have H2 := Lib.hid h2
    clear h1 h2
    go_wp2_with fail
    go_end0
    exact ⟨rfl, H1.out, H2.out⟩
  · rw [if_neg h0]
    have b1 : ((n : Int) == 0) = false := by simp; omega
    have ca := h.ca
    have fa := h.b.fz 9
    have H := Lib.hid (h.sa (s.a / n))
    have H2 := Lib.hid (only_set w g 9 (.int .u32 ((s.a / n : Nat) : Int)))
    have hq := div_cast s.a n
    obtain ⟨a, x, m, nx⟩ := s
    dsimp only at *
    obtain ⟨q, hqd⟩ : ∃ q : Nat, q = a / n := ⟨_, rfl⟩
    have hn0 : 0 < n := by omega
    have hql : q ≤ a := hqd ▸ Nat.div_le_self _ _
    rw [← hqd] at H H2 hq ⊢
    clear h hqd h0
    go_enter Try.func86, Try.ntmps86
    go_wp2_with fail
    go_end0
    exact ⟨rfl, H.out, H2.out⟩
set_option maxRecDepth 100000 in
theorem hand_any (g : Nat) (R : List Value) (s : Mc) (e : Bool) (y : Nat) (i : Ins) (w : World) (h : Mach w g R s e y) (hc : i.c < 65536) (hk : i.c = 7 ∨ i.c = 135) :
    Calls Try.prog 79 #[.pointer (some ⟨g, 0, none⟩), .agg #[.int .u16 i.c, .int .u8 i.t, .int .u8 i.f, .int .u32 i.k]] w (MachTo w g R (if i.c = 7 then { s with x := s.a } else { s with a := s.x }) e y) := by
  have hgl := h.lt
  have cx := h.cx
  have ca := h.ca
  have fa := h.b.fz 9
  have fx := h.b.fz 10
  obtain ⟨c, t, f, k⟩ := i
  obtain ⟨a, x, m, nx⟩ := s
  dsimp only at *
  rcases hk with hk | hk
  · rw [if_pos hk]
    have Kd := Lib.hid (fun w => kind_any c 0 w hc (by omega))
    have H := Lib.hid ((h.sx a).alloc (.cells #[.int .u16 c, .int .u8 t, .int .u8 f, .int .u32 k] 60))
    have H2 := Lib.hid (only_trans (only_set w g 10 (.int .u32 (a : Int))) (only_alloc _ g (.cells #[.int .u16 c, .int .u8 t, .int .u8 f, .int .u32 k] 60)))
    clear h hk hc
    go_enter Try.func79, Try.ntmps79
    go_wp2_with (go_at_call 84; refine (Kd.out _).mono ?_; rintro e w' ⟨rfl, rfl⟩)
    go_end0
    exact ⟨rfl, H.out, H2.out⟩
  · rw [if_neg (by omega)]
    have Kd := Lib.hid (fun w => kind_any c 128 w hc (by omega))
    have H := Lib.hid ((h.sa x).alloc (.cells #[.int .u16 c, .int .u8 t, .int .u8 f, .int .u32 k] 60))
    have H2 := Lib.hid (only_trans (only_set w g 9 (.int .u32 (x : Int))) (only_alloc _ g (.cells #[.int .u16 c, .int .u8 t, .int .u8 f, .int .u32 k] 60)))
    clear h hk hc
    go_enter Try.func79, Try.ntmps79
    go_wp2_with (go_at_call 84; refine (Kd.out _).mono ?_; rintro e w' ⟨rfl, rfl⟩)
    go_end0
    exact ⟨rfl, H.out, H2.out⟩
set_option maxRecDepth 100000 in
theorem answer_any (g : Nat) (R : List Value) (s : Mc) (e : Bool) (y : Nat) (i : Ins) (w : World) (h : Mach w g R s e y) (hk : i.c = 6 ∨ i.c = 22) :
    Calls Try.prog 78 #[.pointer (some ⟨g, 0, none⟩), .agg #[.int .u16 i.c, .int .u8 i.t, .int .u8 i.f, .int .u32 i.k]] w (OneN .u32 (if i.c = 22 then s.a else i.k) w) := by
  have hgl := h.lt
  have ca := h.ca
  obtain ⟨c, t, f, k⟩ := i
  obtain ⟨a, x, m, nx⟩ := s
  dsimp only at *
  rcases hk with hk | hk
  · rw [if_neg (by omega)]
    have Kd := Lib.hid (fun w => kind_any c 0 w (by omega) (by omega))
    clear hk
    go_enter Try.func78, Try.ntmps78
    go_wp2_with (go_at_call 84; refine (Kd.out _).mono ?_; rintro e w' ⟨rfl, rfl⟩)
    go_ret
    exact ⟨rfl, one_below _ _⟩
  · rw [if_pos hk]
    have Kd := Lib.hid (fun w => kind_any c 16 w (by omega) (by omega))
    clear hk
    go_enter Try.func78, Try.ntmps78
    go_wp2_with (go_at_call 84; refine (Kd.out _).mono ?_; rintro e w' ⟨rfl, rfl⟩)
    go_ret
    exact ⟨rfl, one_below _ _⟩
end Go.Proofs.Ytnkffjdoillmaaa
