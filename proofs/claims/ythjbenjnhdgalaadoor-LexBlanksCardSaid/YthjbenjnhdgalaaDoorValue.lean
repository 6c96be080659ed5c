/- A word's number, and what is wrong with it. -/
import Derived.Test.YthjbenjnhdgalaaDoorNext
import Derived.Test.YthjbenjnhdgalaaDoorNumber
namespace Go.Proofs.YthjbenjnhdgalaaDoor
open Go.RowKit
def ValPost (k : Nat) (t : Bs) (w : World) (e : Ending) (w' : World) : Prop :=
  e = .returned (.tuple #[.int .u64 ((valB k t).1 : Nat), .int .i64 ((valB k t).2 : Nat)]) ∧ Below w.heap.size w w'
theorem val_of {k : Nat} {t : Bs} {w w' : World} {e : Ending} {n r : Nat} (h : valB k t = (n, r)) (he : e = .returned (.tuple #[.int .u64 (n : Nat), .int .i64 (r : Nat)])) (hb : Below w.heap.size w w') : ValPost k t w e w' := by
  unfold ValPost; rw [h]; exact ⟨he, hb⟩
theorem tok_new (w : World) (T : TypeId) (a b c d e : Value) : Bk (w.alloc (.cells #[a, b, c, d, e] T)) w.heap.size T [a, b, c, d, e] := Bk.new w T _ rfl
set_option maxHeartbeats 1000000 in
set_option maxRecDepth 100000 in
theorem value_any (k : Nat) (t : Bs) (n ln col : Nat) (w : World) (hk : 1 ≤ k ∧ k ≤ 4) (ht : t.length ≤ 70000) (hE : Env w) :
    Calls Tryd.prog 27 #[.agg #[.int .u8 k, .string ⟨t.toArray⟩, .int .u64 n, .int .i64 ln, .int .i64 col]] w (ValPost k t w) := by
  have HN := Lib.hid (fun W (E : Env W) => number_any ⟨t.toArray⟩ W (by rw [Lib.size_eq]; show t.length ≤ 100000; omega) E)
  have HE := Lib.hid hE
  have hsz : (⟨t.toArray⟩ : ByteArray).size = t.length := by rw [Lib.size_eq]
  have HB1 := Lib.hid (show Below w.heap.size w (w.alloc (.cells #[.int .u8 k, .string ⟨t.toArray⟩, .int .u64 n, .int .i64 ln, .int .i64 col] 35)) from (Below.refl _ _).alloc (Nat.le_refl _) _)
  clear hE
  rcases (by omega : k = 1 ∨ k = 2 ∨ k = 3 ∨ k = 4) with rfl | rfl | rfl | rfl
  · go_enter Tryd.func27, Tryd.ntmps27
    go_wp2_with fail
    go_ret2
    exact val_of rfl rfl HB1.out
  · go_enter Tryd.func27, Tryd.ntmps27
    go_wp2_with fail
    refine (HN.out _ (HE.out.below HB1.out)).mono ?_
    rintro e w' ⟨hp, hb⟩
    have HB2 := Lib.hid (HB1.out.trans (hb.mono HB1.out.size))
    clear hb
    cases hn : number t with
    | some u =>
      have e1 : number (⟨t.toArray⟩ : ByteArray).data.toList = some u := hn
      rw [e1] at hp
      have HV := Lib.hid (show valB 2 t = (u, 0) by simp [valB, hn])
      clear hn e1
      subst hp
      go_wp2_with fail
      go_ret2
      exact val_of HV.out rfl HB2.out
    | none =>
      have e1 : number (⟨t.toArray⟩ : ByteArray).data.toList = none := hn
      rw [e1] at hp
      have HV := Lib.hid (show valB 2 t = (0, 204) by simp [valB, hn])
      clear hn e1
      subst hp
      go_wp2_with fail
      go_ret2
      exact val_of HV.out rfl HB2.out
  · by_cases hl : 120 < t.length
    · have HV := Lib.hid (show valB 3 t = (0, 36) by simp [valB, hl])
      go_enter Tryd.func27, Tryd.ntmps27
      go_wp2_with fail
      go_ret2
      exact val_of HV.out rfl HB1.out
    · have HV := Lib.hid (show valB 3 t = (0, 0) by simp [valB, hl])
      go_enter Tryd.func27, Tryd.ntmps27
      go_wp2_with fail
      go_ret2
      exact val_of HV.out rfl HB1.out
  · have hS := fun W => sign_any t W
    cases h1 : isSign t with
    | true =>
      rw [h1] at hS
      have HV := Lib.hid (show valB 4 t = (0, 0) by simp [valB, h1])
      clear h1
      go_enter Tryd.func27, Tryd.ntmps27
      go_wp2_with fail
      refine (hS _).mono ?_
      rintro e w' ⟨rfl, rfl⟩
      go_wp2_with fail
      go_ret2
      exact val_of HV.out rfl HB1.out
    | false =>
      rw [h1] at hS
      have HV := Lib.hid (show valB 4 t = (0, 202) by simp [valB, h1])
      clear h1
      go_enter Tryd.func27, Tryd.ntmps27
      go_wp2_with fail
      refine (hS _).mono ?_
      rintro e w' ⟨rfl, rfl⟩
      go_wp2_with fail
      go_ret2
      exact val_of HV.out rfl HB1.out
end Go.Proofs.YthjbenjnhdgalaaDoor
