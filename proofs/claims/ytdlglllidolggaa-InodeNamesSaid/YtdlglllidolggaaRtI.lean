/- The document's deep. -/
import Derived.Test.YtdlglllidolggaaRtG
namespace Go.Proofs.Ytdlglllidolggaa.In
open Go.RowKit Go.Maps Go.WideElems
def deepR (T : TrM) : Nat → Nat → Nat
  | 0, _ => 0
  | f + 1, n => if n = 1 then 0 else deepR T f (T.nd n).par + 1
section
variable {w w' : World} {B tb A k c g : Nat} {T : TrM} {mv nx : Value} {df lf : Nat → Value}
set_option maxHeartbeats 2000000 in
theorem rdeep_any (h : RtR w B tb T A k c mv nx df lf) {n : Nat} (hn : n ≤ 65535) :
    Calls Try.prog 43 #[tP tb, .int .i64 n] w fun e w' => e = .returned (.int .i64 (deepR T 20 n)) ∧ Below w.heap.size w w' := by
  have H := Lib.hid h
  obtain ⟨D, hD⟩ : ∃ D, D = deepR T 20 n := ⟨_, rfl⟩
  rw [← hD]
  have HD := Lib.hid hD
  clear h hD
  go_enter Try.func43, Try.ntmps43
  go_wp2
  go_loopw [1, 5] (fun v i wx => ∃ m j : Nat, v = .int .i64 m ∧ i = .int .i64 j ∧ m ≤ 65535 ∧ j ≤ 20 ∧ Hid (D = j + deepR T (20 - j) m) ∧ Hid (Below w.heap.size w wx)) (fun _ i _ => 20 - (intOf i).toNat)
  case atStart => exact ⟨n, 0, rfl, rfl, hn, by omega, Lib.hid (by rw [HD.out]; simp), Below.refl _ _⟩
  case round =>
    obtain ⟨m, j, rfl, rfl, hm, hj, Hd, HC⟩ := hrel
    by_cases q1 : m = 1
    · have Hf := Lib.hid (show D = j by
        rw [Hd.out, q1]
        cases hz : 20 - j with
        | zero => rfl
        | succ f => unfold deepR; rw [if_pos rfl]; rfl)
      subst q1
      go_wp2
      go_ret
      exact ⟨by rw [Hf.out]; rfl, HC.out⟩
    have e1 : ((m : Int) != 1) = true := by simp; omega
    by_cases q2 : j < 20
    · have Hf := Lib.hid (show D = j + 1 + deepR T (20 - (j + 1)) (T.nd m).par by
        rw [Hd.out, show 20 - j = (20 - (j + 1)) + 1 from by omega]
        show j + deepR T ((20 - (j + 1)) + 1) m = _
        conv => lhs; unfold deepR
        rw [if_neg q1]; omega)
      have hp := (H.out.ls m).par
      go_wp2_with fail
      refine (rnode_any (H.out.below HC.out) (n := m) (by omega)).mono ?_
      rintro e w2 ⟨b, o, dv, lv, rfl, h7, hb⟩
      have c3 := h7.par
      have Hb := Lib.hid (HC.out.trans (hb.mono HC.out.size))
      clear h7 hb
      obtain ⟨pp, hpp⟩ : ∃ z, z = (T.nd m).par := ⟨_, rfl⟩
      rw [← hpp] at c3 hp Hf
      clear hpp
      go_wp2
      go_roundw
      case rel => exact ⟨pp, j + 1, rfl, by go_num, hp, by omega, Hf, Hb⟩
      case measure => simp [intOf]; omega
    · have Hf := Lib.hid (show D = j by
        rw [Hd.out, show 20 - j = 0 from by omega]; rfl)
      go_wp2
      go_ret
      exact ⟨by rw [Hf.out]; rfl, HC.out⟩
end
end Go.Proofs.Ytdlglllidolggaa.In
