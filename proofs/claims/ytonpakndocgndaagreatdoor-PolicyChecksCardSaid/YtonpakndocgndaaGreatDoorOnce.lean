/- The table is made once: what an asking does. -/
import Derived.Test.YtonpakndocgndaaGreatDoorFillB
import Derived.IntWalk
namespace Go.Proofs.YtonpakndocgndaaGreatDoor
open Go.RowKit Go.Maps

/-- A table that has been made, and asked so often. -/
def Made (w : World) (b : Nat) (asked : Int) : Prop :=
  ∃ m n, m ≠ b ∧ n ≠ b ∧ Tab w b 1 0 0 asked 1 (.map (some m)) (.map (some n)) ∧
    w.ownsMap Tryz.prog 9 callR m 30 (nameD 30) ∧ w.ownsMap Tryz.prog 22 callR n 30 (numD 30)
/-- A table, asked so often: not at all, then it isn't made; or more often. -/
def TState (w : World) (b : Nat) (asked : Int) : Prop := (asked = 0 ∧ Tab w b 0 0 0 0 0 (.map none) (.map none)) ∨ Made w b asked

theorem Made.lt {w : World} {b : Nat} {asked : Int} (h : Made w b asked) : b < w.heap.size := by
  obtain ⟨_, _, _, _, h, _⟩ := h; exact h.lt
theorem Made.set3 {w : World} {b : Nat} {asked : Int} (h : Made w b asked) (n : Int) : Made (w.setCell ⟨b, 3, none⟩ (.int .i64 n)) b n := by
  obtain ⟨m, k, hm, hk, hT, h1, h2⟩ := h
  exact ⟨m, k, hm, hk, hT.set3 n, h1.kept (grown_setCell _ _ _) (by simpa using hm), h2.kept (grown_setCell _ _ _) (by simpa using hk)⟩
theorem Made.kept {w w' : World} {b : Nat} {asked : Int} {r : Option Nat} (h : Made w b asked) (g : w.grownBy w' r) (hr : r = none) : Made w' b asked := by
  subst hr
  obtain ⟨m, k, hm, hk, hT, h1, h2⟩ := h
  exact ⟨m, k, hm, hk, hT.kept g (by simp), h1.kept g (by simp), h2.kept g (by simp)⟩

/-- Behind the filling, the two deferred calls: done, and the lock free. -/
theorem made_of_fill {w w1 : World} {b : Nat} {asked : Int} (hb : b < w.heap.size) (h : FillRel w b 0 asked 0 30 w1) :
    Made ((((w1.setCell ⟨b, 4, none⟩ (.int .i64 (0 + 1))).drew).setCell ⟨b, 0, none⟩ (.int .u32 1)).setCell ⟨b, 1, none⟩ (.int .i32 0)) b asked ∧
    w.grownBy ((((w1.setCell ⟨b, 4, none⟩ (.int .i64 (0 + 1))).drew).setCell ⟨b, 0, none⟩ (.int .u32 1)).setCell ⟨b, 1, none⟩ (.int .i32 0)) (some b) := by
  have g : w1.grownBy ((((w1.setCell ⟨b, 4, none⟩ (.int .i64 (0 + 1))).drew).setCell ⟨b, 0, none⟩ (.int .u32 1)).setCell ⟨b, 1, none⟩ (.int .i32 0)) (some b) :=
    grown_trans (grown_trans (grown_trans (grown_setCell _ _ _) (grown_drew _ none) (by simp)) (grown_setCell _ _ _) (fun k hk => .inl hk)) (grown_setCell _ _ _) (fun k hk => .inl hk)
  refine ⟨⟨w.heap.size, w.heap.size + 1, by omega, by omega, ?_, h.names.kept g (by simp; omega), h.nums.kept g (by simp; omega)⟩, grown_trans h.grown g (fun k hk => .inl hk)⟩
  exact (((h.tab.set4 (0 + 1)).drew.set0 1).set1 0)

set_option maxRecDepth 100000 in
set_option maxHeartbeats 1600000 in
/-- '(*sync.Once).doSlow', not yet done, the lock free, the function the table's own fill. -/
theorem slow_any (b : Nat) (asked : Int) (w : World) (hT : Tab w b 0 0 0 asked 0 (.map none) (.map none)) :
    Calls Tryz.prog 72 #[.pointer (some ⟨b, 0, none⟩), .func (.func 61) #[.pointer (some ⟨b, 0, none⟩)] #[]] w fun e w' => e = .returned (.tuple #[]) ∧
      Made w' b asked ∧ w.grownBy w' (some b) := by
  have hT1 := hT.set1 1
  have hb := hT.lt
  have hs : (w.setCell ⟨b, 1, none⟩ (.int .i32 1)).heap.size = w.heap.size := by simp [World.setCell]
  have hg0 := Lib.hid (grown_setCell w ⟨b, 1, none⟩ (.int .i32 1))
  have hl := load_bool ⟨b, 0, none⟩ 0 (w.setCell ⟨b, 1, none⟩ (.int .i32 1)) hT1.c0
  have hnot : ∀ (x : Bool) (w : World), (Op.unary .not (.bool x)).run Tryz.prog w = .ok (.bool (!x)) w := fun _ _ => rfl
  go_enter_defers Tryz.func72, Tryz.ntmps72
  go_wp2_with (first | (go_at_call 85; refine (lock_free ⟨b, 1, none⟩ _ hT.c1 (hT.fz 1)).mono ?_; rintro e w' ⟨rfl, rfl⟩) | (go_at_call 71; refine hl.mono ?_; rintro e w' ⟨rfl, rfl⟩))
  have hf := fill_any b 0 asked 0 _ _ _ hT1 (by decide)
  have hb1 := Lib.hid (show b < (w.setCell ⟨b, 1, none⟩ (.int .i32 1)).heap.size by rw [hs]; exact hb)
  clear hl hs hT hT1
  refine hf.mono ?_
  clear hf
  rintro e w' ⟨rfl, w1, hr, rfl⟩
  have hT2 := hr.tab.set4 (0 + 1)
  have hm := Lib.hid (made_of_fill hb1.out hr)
  clear hr
  go_wp2
  -- the door: two deferred calls, the last laid first
  refine leaves_cons (f := 87) (args := #[.pointer (some ⟨b, 0, none⟩), .bool true]) (by simp) (by simp [go_sem]) ?_
  refine (store_deferred ⟨b, 0, none⟩ (.int .u32 0) .returning _ hT2.c0 (hT2.fz 0)).mono ?_
  rintro e u' w'' ⟨rfl, rfl, rfl⟩
  refine leaves_cons (f := 86) (args := #[.pointer (some ⟨b, 1, none⟩)]) (by simp [settle]) (by simp [go_sem]) ?_
  refine (unlock_deferred ⟨b, 1, none⟩ _ _ (hT2.drew.set0 1).c1 ((hT2.drew.set0 1).fz 1)).mono ?_
  rintro e u' w'' ⟨rfl, rfl, rfl⟩
  have h1 := hm.out.1
  have h2 := grown_trans hg0.out hm.out.2 (fun k hk => .inl hk)
  simp [Leaves, settle, results, Tryz.results72]
  exact ⟨h1, h2⟩

set_option maxRecDepth 100000 in
set_option maxHeartbeats 1600000 in
/-- '(*sync.Once).Do', not yet done, the lock free. -/
theorem do_first (b : Nat) (asked : Int) (w : World) (hT : Tab w b 0 0 0 asked 0 (.map none) (.map none)) :
    Calls Tryz.prog 60 #[.pointer (some ⟨b, 0, none⟩), .func (.func 61) #[.pointer (some ⟨b, 0, none⟩)] #[]] w fun e w' => e = .returned (.tuple #[]) ∧ Made w' b asked ∧ w.grownBy w' (some b) := by
  have hnot : ∀ (x : Bool) (w : World), (Op.unary .not (.bool x)).run Tryz.prog w = .ok (.bool (!x)) w := fun _ _ => rfl
  go_enter Tryz.func60, Tryz.ntmps60
  go_wp2_with (first | (go_at_call 71; refine (load_bool _ 0 _ hT.c0).mono ?_; rintro e w' ⟨rfl, rfl⟩) | (go_at_call 72; refine (slow_any b asked _ hT).mono ?_; rintro e w' ⟨rfl, h1, h2⟩))
  go_end0
  exact ⟨rfl, h1, h2⟩

/-- '(*sync.Once).Do', done already: the function is not called. -/
theorem do_done (a : Addr) (fv : Value) (w : World) (h0 : w.cell? a = some (.int .u32 1)) :
    Calls Tryz.prog 60 #[.pointer (some a), fv] w fun e w' => e = .returned (.tuple #[]) ∧ w = w' := by
  have hnot : ∀ (x : Bool) (w : World), (Op.unary .not (.bool x)).run Tryz.prog w = .ok (.bool (!x)) w := fun _ _ => rfl
  go_enter Tryz.func60, Tryz.ntmps60
  go_wp2_with (go_at_call 71; refine (load_bool _ 1 _ h0).mono ?_; rintro e w' ⟨rfl, rfl⟩)
  go_end0
  exact ⟨rfl, rfl⟩

theorem do_any (b : Nat) (asked : Int) (w : World) (h : TState w b asked) :
    Calls Tryz.prog 60 #[.pointer (some ⟨b, 0, none⟩), .func (.func 61) #[.pointer (some ⟨b, 0, none⟩)] #[]] w fun e w' => e = .returned (.tuple #[]) ∧ Made w' b asked ∧ w.grownBy w' (some b) := by
  rcases h with ⟨rfl, h⟩ | h
  · exact do_first b 0 w h
  · obtain ⟨_, _, _, _, hT, _⟩ := h.imp fun m h => h.imp fun n h => h
    exact (do_done ⟨b, 0, none⟩ _ w hT.c0).mono fun e w' ⟨he, hw⟩ => ⟨he, hw ▸ h, hw ▸ grown_refl _ _⟩

set_option maxRecDepth 100000 in
/-- An asking: the table is made behind it, and asked once more. -/
theorem ask_any (b : Nat) (asked : Int) (w : World) (h : TState w b asked) (h0 : 0 ≤ asked) (h1 : asked < 4611686018427387904) :
    Calls Tryz.prog 51 #[.pointer (some ⟨b, 0, none⟩)] w fun e w' => e = .returned (.tuple #[]) ∧ Made w' b (asked + 1) ∧ w.grownBy w' (some b) := by
  have hmf : ∀ (fn : Fn) (first cap : Array Value) (w : World), (Instr.makeFunc fn first cap).run Tryz.prog w = .ok (.func fn first cap) w := fun _ _ _ _ => rfl
  have hw : IntKind.i64.wrap (asked + 1) = asked + 1 := IntWalk.i64_in _ (by omega)
  have Hw := Lib.hid hw
  clear hw
  go_enter Tryz.func51, Tryz.ntmps51
  go_wp2_with (go_at_call 60; refine (do_any b asked _ h).mono ?_; rintro e w1 ⟨rfl, hm, hg⟩)
  have c3 : w1.cell? ⟨b, 3, none⟩ = some (.int .i64 asked) := by obtain ⟨_, _, _, _, hT, _⟩ := hm; exact hT.c3
  have f3 : w1.frozen? ⟨b, 3, none⟩ = false := by obtain ⟨_, _, _, _, hT, _⟩ := hm; exact hT.fz 3
  go_wp2_with (go_at_call 62; refine (add_one _ _ _ _ c3 f3 Hw.out).mono ?_; rintro e w2 ⟨rfl, rfl⟩)
  go_end0
  exact ⟨rfl, hm.set3 _, grown_trans hg (grown_setCell _ _ _) (fun k hk => .inl hk)⟩
end Go.Proofs.YtonpakndocgndaaGreatDoor

