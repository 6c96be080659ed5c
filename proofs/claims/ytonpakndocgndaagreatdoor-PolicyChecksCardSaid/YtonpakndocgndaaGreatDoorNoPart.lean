/- May a text be a path's part? -/
import Derived.Test.YtonpakndocgndaaGreatDoorPathM
import Derived.Test.YtonpakndocgndaaGreatDoorBytesP
import Derived.Test.YtonpakndocgndaaGreatDoorRow
import Derived.LoopTactic
import Derived.Deep.CutRange
import Derived.Lib.ConvBytes
import Derived.Lib.OwnBridge
import Derived.Lib.AtoiErrMem
namespace Go.Proofs.YtonpakndocgndaaGreatDoor
open Go.RowKit
def NoPost (t : Bs) (w : World) (e : Ending) (w' : World) : Prop := e = .returned (.bool (noB t)) ∧ Below w.heap.size w w'
theorem no_of {t : Bs} {b : Bool} {w w' : World} {e : Ending} (h : noB t = b) (he : e = .returned (.bool b)) (hb : Below w.heap.size w w') : NoPost t w e w' := by subst h; exact ⟨he, hb⟩
theorem plit_ne {t : Bs} {l : Bs} (h : ¬ t = l) : ((⟨t.toArray⟩ : ByteArray).toList == l) = false := by simp [h]
theorem conv_bytes (t : Bs) (w : World) : ∃ (cp : Nat) (w1 : World), (convert 9 32 (.string ⟨t.toArray⟩)).run Tryz.prog w = .ok (.slice (some ⟨w.heap.size, 0, none⟩) t.length cp) w1 ∧
    (∀ (k : Nat) (c : UInt8), t[k]? = some c → w1.cell? ⟨w.heap.size, k, none⟩ = some (.int .u8 (c.toNat : Nat))) ∧ Below w.heap.size w w1 := by
  have hsz : (⟨t.toArray⟩ : ByteArray).size = t.length := by rw [Lib.size_eq]
  refine ⟨_, _, by rw [← hsz]; exact Lib.run_convert_string_bytes (P := Tryz.prog) w 9 32 5 ⟨t.toArray⟩ (u := .string) Tryz.underlying9 Tryz.underlying32 Tryz.underlying5, fun k c hc => ?_, Lib.bytesWorld_below _ _ _⟩
  obtain ⟨h1, h2⟩ := List.getElem?_eq_some_iff.1 hc
  rw [Lib.bytesWorld_cell w 5 ⟨t.toArray⟩ k (by rw [hsz]; exact h1)]
  simp [List.getD_eq_getElem?_getD, hc]
theorem hcl_lt {t : Bs} {w w1 : World} (h : ∀ (k : Nat) (c : UInt8), t[k]? = some c → w1.cell? ⟨w.heap.size, k, none⟩ = some (.int .u8 (c.toNat : Nat))) : w.heap.size < w1.heap.size ∨ t.length = 0 := by
  cases t with
  | nil => exact .inr rfl
  | cons c t =>
    left
    have := h 0 c rfl
    rcases Nat.lt_or_ge w.heap.size w1.heap.size with h' | h'
    · exact h'
    · simp [World.cell?, Array.getElem?_eq_none h'] at this
set_option maxHeartbeats 2000000 in
set_option maxRecDepth 100000 in
theorem noPart_any (t : Bs) (w : World) (ht : t.length ≤ 70000) : Calls Tryz.prog 55 #[.string ⟨t.toArray⟩] w (NoPost t w) := by
  by_cases h0 : t = []
  · have HV := Lib.hid (show noB t = true from noB_end (by simp [endB, h0]))
    subst h0
    go_enter Tryz.func55, Tryz.ntmps55
    go_wp2_with fail
    go_ret
    exact no_of HV.out rfl (Below.refl _ _)
  by_cases h1 : t = [46]
  · have HV := Lib.hid (show noB t = true from noB_end (by simp [endB, h1]))
    subst h1
    go_enter Tryz.func55, Tryz.ntmps55
    go_wp2_with fail
    go_ret
    exact no_of HV.out rfl (Below.refl _ _)
  by_cases h2 : t = [46, 46]
  · have HV := Lib.hid (show noB t = true from noB_end (by simp [endB, h2]))
    subst h2
    go_enter Tryz.func55, Tryz.ntmps55
    go_wp2_with fail
    go_ret
    exact no_of HV.out rfl (Below.refl _ _)
  have e0 : t.isEmpty = false := by cases t <;> simp_all
  have g1 : (t == [46]) = false := by simpa using h1
  have g2 : (t == [46, 46]) = false := by simpa using h2
  have hsz : (⟨t.toArray⟩ : ByteArray).size = t.length := by rw [Lib.size_eq]
  have HSz := Lib.hid hsz
  by_cases h3 : 14 < t.length
  · have HV := Lib.hid (show noB t = true from noB_end (by simp [endB, h3]))
    have g3 : (14 : Int) < (t.length : Int) := by omega
    have d3 : decide ((14 : Int) < (t.length : Int)) = true := decide_eq_true g3
    clear h0 h1 h2 h3
    go_enter Tryz.func55, Tryz.ntmps55
    go_wp2_with fail
    go_ret
    exact no_of HV.out rfl (Below.refl _ _)
  · have HE := Lib.hid (show endB t = false by simp [endB, h0, h1, h2, h3])
    have g3 : ¬ (14 : Int) < (t.length : Int) := by omega
    have d3 : decide ((14 : Int) < (t.length : Int)) = false := decide_eq_false g3
    have HL := Lib.hid h3
    clear h0 h1 h2 h3
    obtain ⟨cp, w1, hcv, hcell, hb1⟩ := conv_bytes t w
    have HB1 := Lib.hid hb1
    have HC := Lib.hid hcell
    have hlt1 : w.heap.size < w1.heap.size ∨ t.length = 0 := hcl_lt hcell
    clear hb1 hcell
    go_enter Tryz.func55, Tryz.ntmps55
    go_wp2_with fail
    go_loop [23] (fun iv => ∃ k : Nat, iv = .int .i64 k ∧ k ≤ t.length ∧ Hid (∀ c ∈ t.take k, prn c.toNat = true)) (fun iv => t.length - (intOf iv).toNat)
    case atStart => exact ⟨0, rfl, Nat.zero_le _, Lib.hid (by simp)⟩
    case round =>
      obtain ⟨k, rfl, hk, HT⟩ := hrel
      by_cases hlt : k < t.length
      · obtain ⟨c, hc⟩ : ∃ c, t[k]? = some c := ⟨_, List.getElem?_eq_getElem hlt⟩
        have c1 := HC.out k c hc
        have HX := Lib.hid hc
        have hb1 : w.heap.size < w1.heap.size := by omega
        clear hc
        have hp := fun W => printable_any c.toNat W
        cases hq : prn c.toNat with
        | true =>
          rw [hq] at hp
          have HK := Lib.hid (show ∀ x ∈ t.take (k + 1), prn x.toNat = true from fun x hx => by
            rw [List.take_add_one, HX.out] at hx
            rcases List.mem_append.1 hx with h | h
            · exact HT.out x h
            · simp at h; subst h; exact hq)
          clear hq
          go_wp2_with fail
          refine (hp _).mono ?_
          rintro e w2 ⟨rfl, rfl⟩
          clear hp
          go_wp2_with fail
          go_round
          case rel => exact ⟨k + 1, by go_num, by omega, HK⟩
          case measure => simp [intOf]; omega
        | false =>
          rw [hq] at hp
          have HV := Lib.hid (show noB t = true from noB_bad (List.mem_of_getElem? HX.out) hq)
          clear hq
          go_wp2_with fail
          refine (hp _).mono ?_
          rintro e w2 ⟨rfl, rfl⟩
          clear hp
          go_wp2_with fail
          go_ret
          exact no_of HV.out rfl HB1.out
      · have HV := Lib.hid (show noB t = false from noB_all HE.out (fun c hc => HT.out c (by rw [List.take_of_length_le (by omega)]; exact hc)))
        go_wp2_with fail
        go_ret
        exact no_of HV.out rfl HB1.out
end Go.Proofs.YtonpakndocgndaaGreatDoor
