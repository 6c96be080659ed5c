/- A line's words. -/
import Derived.Test.YthiohihbcfahhaaDoorTold
import Derived.Test.YthiohihbcfahhaaDoorTxtB
namespace Go.Proofs.YthiohihbcfahhaaDoor
open Go.RowKit
open Go.Proofs (PredGrows)
open Go.Lib
theorem sp_any (r : Nat) (w : World) : Calls Tryd.prog 46 #[.int .i32 r] w fun e w' => e = .returned (.bool (isSp r)) ∧ w = w' := by
  by_cases h : r = 32
  · subst h
    go_enter Tryd.func46, Tryd.ntmps46
    go_wp2
    go_ret
    exact ⟨rfl, rfl⟩
  · have h1 : ((r : Int) == 32) = false := by rw [beq_eq_false_iff_ne]; omega
    have h2 : isSp r = false := by unfold isSp; exact decide_eq_false h
    go_enter Tryd.func46, Tryd.ntmps46
    go_wp2
    go_ret
    exact ⟨by rw [h2]; rfl, rfl⟩
theorem sp_grows (w : World) : PredGrows Tryd.prog 46 #[] isSp w := fun W x _ _ => (sp_any x W).mono fun _ _ ⟨h, e⟩ => ⟨h, e ▸ Below.refl _ _⟩
theorem fields_any' (s : ByteArray) (w : World) (hs : s.size ≤ 100000) (has : ∀ c ∈ s.data.toList, c.toNat < 128) :
    Calls Tryd.prog 45 #[.string s, .func (.func 46) #[] #[]] w fun e w' => ∃ A : Nat, e = .returned (.slice (some ⟨A, 0, none⟩) (wordsGo [] s.data.toList).length (wordsGo [] s.data.toList).length) ∧ Seg w' w.heap.size 1 (wordsGo [] s.data.toList).length (some ⟨A, 0, none⟩) (strs (wordsGo [] s.data.toList)) ∧ Below w.heap.size w w' := by
  have hf := fields_words s has
  have hlen : (Lib.goFieldsP isSp s).length = (wordsGo [] s.data.toList).length := by rw [← hf, List.length_map]
  have hst : (Lib.goFieldsP isSp s).map Value.string = strs (wordsGo [] s.data.toList) := by
    rw [← hf]
    unfold strs
    rw [List.map_map]
    exact List.map_congr_left (fun x _ => by simp)
  refine (Tryd.strings_FieldsFunc_grows 46 #[] (enters_of Tryd.func46 (by kernel_rfl) rfl) isSp s w (by omega) (sp_grows w)).mono ?_
  rintro e w' ⟨A, he, hA, hown, hb⟩
  rw [hlen, hst] at hown
  rw [hlen] at he
  refine ⟨A, he, ?_, hb⟩
  obtain ⟨A', c, hv, _, hseg⟩ := own_seg hown
  cases hv
  exact hseg
def SaidPost (s : Bs) (w : World) (e : Ending) (w' : World) : Prop :=
  ∃ A : Nat, e = .returned (.slice (some ⟨A, 0, none⟩) (saidB s).length (saidB s).length) ∧ Seg w' w.heap.size 1 (saidB s).length (some ⟨A, 0, none⟩) (strs (saidB s)) ∧ Below w.heap.size w w'
theorem cutH_mem {s : Bs} {c : UInt8} (h : c ∈ cutH s) : c ∈ s := by
  induction s with
  | nil => simp [cutH] at h
  | cons a t ih =>
    unfold cutH at h
    split at h
    · simp at h
    · rcases List.mem_cons.1 h with rfl | h
      · simp
      · exact List.mem_cons_of_mem _ (ih h)
theorem cutH_len (s : Bs) : (cutH s).length ≤ s.length := by
  induction s with
  | nil => simp [cutH]
  | cons a t ih => unfold cutH; split <;> simp; exact ih
theorem said_any (s : ByteArray) (w : World) (hs : s.size ≤ 100000) (has : ∀ c ∈ s.data.toList, c.toNat < 128) (hE : Env w) : Calls Tryd.prog 28 #[.string s] w (SaidPost s.data.toList w) := by
  obtain ⟨m, hm⟩ := hE.ml
  have hc := Tryd.strings_Cut s ⟨#[35]⟩ m w (by omega) hm
  rw [show ((⟨#[35]⟩ : ByteArray).data.toList) = [35] from rfl, cut_head] at hc
  have HF := Lib.hid (fun W => fields_any' ⟨(cutH s.data.toList).toArray⟩ W (by
    have h1 := cutH_len s.data.toList
    have h2 := Lib.size_eq s
    rw [Lib.size_eq]
    show (cutH s.data.toList).toArray.toList.length ≤ 100000
    rw [List.toList_toArray]
    omega) (fun c hc => has c (cutH_mem (by simpa using hc))))
  clear hm hs has
  generalize (Lib.cut s.data.toList [35]).2.1 = r1 at hc
  generalize (Lib.cut s.data.toList [35]).2.2 = r2 at hc
  go_enter Tryd.func28, Tryd.ntmps28
  go_wp2_with fail
  refine hc.mono ?_
  rintro e w1 ⟨rfl, n, hn⟩
  have HB := Lib.hid (show Below w.heap.size w w1 from hn ▸ below_drewN (Below.refl _ _) n)
  clear hn
  go_wp2_with fail
  refine (HF.out w1).mono ?_
  rintro e w2 ⟨A, rfl, hseg, hb2⟩
  have HS := Lib.hid hseg
  have HB2 := Lib.hid (HB.out.trans (hb2.mono HB.out.size))
  have HBs := Lib.hid HB.out.size
  clear hseg hb2
  go_wp2_with fail
  go_ret
  refine ⟨A, rfl, ?_, HB2.out⟩
  have hs := HS.out
  exact ⟨hs.len, hs.at_.imp id fun ⟨b, o, e, h0, h⟩ => ⟨b, o, e, Nat.le_trans HBs.out h0, h⟩⟩
end Go.Proofs.YthiohihbcfahhaaDoor
