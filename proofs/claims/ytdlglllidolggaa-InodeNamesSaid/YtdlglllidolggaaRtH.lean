/- The document's New. -/
import Derived.Test.YtdlglllidolggaaRtD
namespace Go.Proofs.Ytdlglllidolggaa.In
open Go.RowKit Go.Maps Go.WideElems
def RNewP (w : World) (lim : Nat) (e : Ending) (w' : World) : Prop := ∃ tb, e = .returned (tP tb) ∧ Rt w' w.heap.size tb (newT lim) ∧ Below w.heap.size w w'
set_option maxHeartbeats 2000000 in
theorem rnew_any (w : World) (lim : Nat) (hl : 1 ≤ lim ∧ lim ≤ 256) :
    Calls Try.prog 11 #[.int .i64 lim] w (RNewP w lim) := by
  have h1 : ¬ (lim : Int) < 1 := by omega
  have h2 : (1 : Int) ≤ lim := by omega
  have h3 : ¬ (256 : Int) < lim := by omega
  have h4 : (lim : Int) ≤ 256 := by omega
  have Hl := Lib.hid hl
  clear hl
  go_enter Try.func11, Try.ntmps11
  go_wp2
  go_ret
  generalize hw1 : World.alloc w _ = w1
  have hA : Bk w1 w.heap.size 41 (rcL (newT lim) 2 (fun _ => .slice none 0 0) (fun _ => .slice none 0 0)) := by rw [← hw1]; exact Bk.new w _ _ rfl
  have hb1 : Below w.heap.size w w1 := by rw [← hw1]; exact oneb _ _
  have s1 : w1.heap.size = w.heap.size + 1 := by rw [← hw1]; simp
  clear hw1
  generalize hw2 : World.alloc w1 _ = w2
  have hA2 : Bk w2 w.heap.size 41 (rcL (newT lim) 2 (fun _ => .slice none 0 0) (fun _ => .slice none 0 0)) := by rw [← hw2]; exact hA.alloc _
  have hb2 : Below w.heap.size w w2 := by rw [← hw2]; exact hb1.alloc hb1.size _
  have s2 : w2.heap.size = w.heap.size + 1 + 1 := by rw [← hw2]; simp [s1]
  clear hw2
  rw [← s2, ← s1]
  generalize hw3 : World.alloc w2 _ = w3
  have hA3 : Bk w3 w.heap.size 41 (rcL (newT lim) 2 (fun _ => .slice none 0 0) (fun _ => .slice none 0 0)) := by rw [← hw3]; exact hA2.alloc _
  have hb3 : Below w.heap.size w w3 := by rw [← hw3]; exact hb2.alloc hb2.size _
  have hT : Bk w3 w2.heap.size 45 [.slice (some ⟨w.heap.size, 0, none⟩) 2 2, .int .i64 lim, .slice (some ⟨w1.heap.size, 0, none⟩) 1 1, .int .i64 1, .int .i64 (0 : Nat)] := by rw [← hw3]; exact Bk.new w2 _ _ rfl
  refine ⟨_, rfl, ⟨w.heap.size, 2, 2, _, _, fun _ => .slice none 0 0, fun _ => .slice none 0 0, hT, bk_own hA3 (rc_len _ _ _ _) (by unfold maxLen; omega) (Nat.le_refl _), fun n hn => ?_, fun n hn => ?_, by omega, ⟨by omega, by show 2 ≤ lim + 1; have := Hl.out; omega⟩, Hl.out, fun n hn => ?_, fun n => ?_, by show 0 ≤ 1000000000; omega⟩, hb3⟩
  · have hd : ((newT lim).nd n).data = [] := by show (upd (fun _ => ndZ) 1 rootN n).data = []; unfold upd; split <;> rfl
    rw [hd]; exact ⟨none, 0, rfl, Nat.le_refl _, TRd.nil _ _ _⟩
  · have hd : ((newT lim).nd n).L = [] := by show (upd (fun _ => ndZ) 1 rootN n).L = []; unfold upd; split <;> rfl
    rw [hd]; exact erd_nil _
  · show upd (fun _ => ndZ) 1 rootN n = ndZ
    rw [upd_other _ _ (by omega)]
  · show Loose (upd (fun _ => ndZ) 1 rootN n)
    unfold upd; split
    · exact ⟨by decide, by decide, by decide, by decide, by decide, by decide, by decide⟩
    · exact loose_z
end Go.Proofs.Ytdlglllidolggaa.In
