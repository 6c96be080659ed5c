/- A text as a number: strconv.ParseUint at base ten and sixteen, asm's Number. -/
import Derived.Test.YthjbenjnhdgalaaDoorAnyD
import Derived.Test.YthjbenjnhdgalaaDoorPu
import Derived.Lib.ParseIntBCases
namespace Go.Proofs.YthjbenjnhdgalaaDoor
open Go.RowKit
theorem cell_below {w w' : World} {b o : Nat} {v : Value} (h : w.cell? ⟨b, o, none⟩ = some v) (hb : Below w.heap.size w w') : w'.cell? ⟨b, o, none⟩ = some v := by
  have hl : b < w.heap.size := by
    rcases Nat.lt_or_ge b w.heap.size with h' | h'
    · exact h'
    · simp [World.cell?, Array.getElem?_eq_none h'] at h
  exact (hb.cell (p := ⟨b, o, none⟩) hl).trans h
/-- What the walks want of the package-level variables. -/
structure Env (w : World) : Prop where
  syn : ∃ te pe, w.cell? ⟨0, 0, none⟩ = some (.iface te pe)
  rng : ∃ te pe, w.cell? ⟨1, 0, none⟩ = some (.iface te pe)
  ml : ∃ m, w.cell? ⟨2, 0, none⟩ = some (.int .i64 m)
theorem Env.below {w w' : World} (h : Env w) (hb : Below w.heap.size w w') : Env w' :=
  ⟨by obtain ⟨te, pe, h⟩ := h.syn; exact ⟨te, pe, cell_below h hb⟩, by obtain ⟨te, pe, h⟩ := h.rng; exact ⟨te, pe, cell_below h hb⟩, by obtain ⟨m, h⟩ := h.ml; exact ⟨m, cell_below h hb⟩⟩
def puRes (b : Nat) (t : Bs) : Option Nat := if t = [] then none else horner b t 0
def PuPost (b : Nat) (t : Bs) (w : World) (e : Ending) (w' : World) : Prop :=
  (match puRes b t with
  | some u => e = .returned (.tuple #[.int .u64 (u : Nat), .nilIface])
  | none => ∃ u N : Nat, e = .returned (.tuple #[.int .u64 (u : Nat), .iface 76 (.pointer (some ⟨N, 0, none⟩))])) ∧ Below w.heap.size w w'
theorem pu_some {b : Nat} {t : Bs} {w w' : World} {e : Ending} {u : Nat} (h : puRes b t = some u) (he : e = .returned (.tuple #[.int .u64 (u : Nat), .nilIface])) (hb : Below w.heap.size w w') : PuPost b t w e w' := ⟨by rw [h]; exact he, hb⟩
theorem pu_none {b : Nat} {t : Bs} {w w' : World} {e : Ending} (u N : Nat) (h : puRes b t = none) (he : e = .returned (.tuple #[.int .u64 (u : Nat), .iface 76 (.pointer (some ⟨N, 0, none⟩))])) (hb : Below w.heap.size w w') : PuPost b t w e w' := ⟨by rw [h]; exact ⟨u, N, he⟩, hb⟩
theorem puB_eq (l : Bs) : Lib.parseUintB 64 l = Lib.parseMag l := by
  unfold Lib.parseUintB Lib.parseMag
  split
  · rfl
  · exact Lib.parseUintM_64 l 0
theorem pub10 (t : ByteArray) (w : World) (hmax : t.size ≤ 100000) (E : Env w) : Calls Tryd.prog 17 #[.string t, .int .i64 10, .int .i64 64] w (PuPost 10 t.data.toList w) := by
  have hq := puB_eq t.data.toList
  cases h : Lib.parseMag t.data.toList with
  | ok u =>
    rw [h] at hq
    refine (Tryd.strconv_ParseUint_10_at64_ok t (by omega) u hq w).mono ?_
    rintro e w' ⟨he, hw⟩
    unfold Lib.parseMag at h
    split at h
    · cases h
    · rename_i hne
      refine pu_some (by unfold puRes; rw [if_neg hne]; exact parse10_ok _ _ _ h) he ?_
      rcases hw with rfl | rfl
      · exact Below.refl _ _
      · exact Lib.bytesWorld_below _ _ _
  | range =>
    rw [h] at hq
    obtain ⟨te, pe, hc⟩ := E.rng
    refine (Tryd.strconv_ParseUint_10_at64_range t (by omega) hq _ w hc (.inr ⟨te, pe, rfl⟩)).mono ?_
    rintro e w' ⟨N, he, _, _, hb⟩
    refine pu_none 18446744073709551615 N ?_ he hb
    unfold puRes
    split
    · rfl
    · rename_i hne
      exact parse10_none _ _ (fun n hn => by unfold Lib.parseMag at h; rw [if_neg hne, hn] at h; cases h)
  | _ =>
    rw [h] at hq
    obtain ⟨te, pe, hc⟩ := E.syn
    refine (Tryd.strconv_ParseUint_10_at64_syntax t (by omega) hq _ w hc (.inr ⟨te, pe, rfl⟩)).mono ?_
    rintro e w' ⟨N, he, _, _, hb⟩
    refine pu_none 0 N ?_ he hb
    unfold puRes
    split
    · rfl
    · rename_i hne
      exact parse10_none _ _ (fun n hn => by unfold Lib.parseMag at h; rw [if_neg hne, hn] at h; cases h)
set_option maxRecDepth 100000 in
set_option maxHeartbeats 1000000 in
theorem pu16_empty (t : ByteArray) (h : t.data.toList = []) (w : World) : Calls Tryd.prog 22 #[.string t, .int .i64 16, .int .i64 64] w fun e w' => e = .returned (.tuple #[.int .u64 0, .iface 73 (.int .i64 2)]) ∧ w = w' := by
  have hb : t.toList.isEmpty = true := by rw [Lib.toList_data, h]; rfl
  clear h
  go_enter Tryd.func22, Tryd.ntmps22
  go_wp2
  go_ret2
  exact ⟨rfl, rfl⟩
set_option maxHeartbeats 1000000 in
theorem pub16 (t : ByteArray) (w : World) (hmax : t.size ≤ 100000) (E : Env w) (hup : ∀ c ∈ t.data.toList, ¬ Upr c) : Calls Tryd.prog 17 #[.string t, .int .i64 16, .int .i64 64] w (PuPost 16 t.data.toList w) := by
  have HE := Lib.hid E
  have HU := Lib.hid hup
  clear hup E
  by_cases hne : t.data.toList = []
  · have hi := fun W => pu16_empty t hne W
    have HN := Lib.hid (show puRes 16 t.data.toList = none by unfold puRes; rw [if_pos hne])
    clear hne
    obtain ⟨te, pe, hc⟩ := HE.out.syn
    have herr := Tryd.strconv_toError_syntax ⟨#[80, 97, 114, 115, 101, 85, 105, 110, 116]⟩ t 16 64 _ w (by omega) hc (.inr ⟨te, pe, rfl⟩)
    clear hc
    go_enter Tryd.func17, Tryd.ntmps17
    go_wp2_with fail
    refine (hi _).mono ?_
    rintro e w' ⟨rfl, rfl⟩
    go_wp2_with fail
    refine herr.mono ?_
    rintro e w' ⟨N, rfl, _, _, hb⟩
    have HB := Lib.hid hb
    clear hb
    go_wp2_with fail
    go_ret2
    exact pu_none 0 N HN.out rfl HB.out
  · have hsz : t.size ≠ 0 := fun e => hne (List.length_eq_zero_iff.1 (by rw [← Lib.size_eq]; exact e))
    have hi := pu16 t hsz (by omega) (fun c hc h => HU.out c hc h) w
    have HB0 := Lib.hid (Lib.bytesWorld_below w 5 t)
    have HNE := Lib.hid hne
    clear hne hsz
    cases hp : parse16 0 t.data.toList with
    | ok u =>
      have HN := Lib.hid (show puRes 16 t.data.toList = some u by unfold puRes; rw [if_neg HNE.out]; exact parse16_ok _ _ _ hp)
      rw [hp] at hi
      clear hp
      generalize Lib.bytesWorld w 5 t = W1 at hi HB0
      go_enter Tryd.func17, Tryd.ntmps17
      go_wp2_with fail
      refine hi.mono ?_
      rintro e w' ⟨rfl, rfl⟩
      simp only [Lib.uintTuple]
      go_wp2_with fail
      go_ret2
      exact pu_some HN.out rfl HB0.out
    | range =>
      have HN := Lib.hid (show puRes 16 t.data.toList = none by unfold puRes; rw [if_neg HNE.out]; exact parse16_none _ _ (fun n hn => by rw [hp] at hn; cases hn))
      rw [hp] at hi
      clear hp
      obtain ⟨te, pe, hc⟩ := (HE.out.below HB0.out).rng
      have herr := Tryd.strconv_toError_range ⟨#[80, 97, 114, 115, 101, 85, 105, 110, 116]⟩ t 16 64 _ _ (by omega) hc (.inr ⟨te, pe, rfl⟩)
      clear hc
      generalize Lib.bytesWorld w 5 t = W1 at hi HB0 herr
      go_enter Tryd.func17, Tryd.ntmps17
      go_wp2_with fail
      refine hi.mono ?_
      rintro e w' ⟨rfl, rfl⟩
      simp only [Lib.uintTuple]
      go_wp2_with fail
      refine herr.mono ?_
      rintro e w2 ⟨N, rfl, _, _, hb⟩
      have HB := Lib.hid (HB0.out.trans (hb.mono HB0.out.size))
      clear hb
      go_wp2_with fail
      go_ret2
      exact pu_none 18446744073709551615 N HN.out rfl HB.out
    | _ =>
      have HN := Lib.hid (show puRes 16 t.data.toList = none by unfold puRes; rw [if_neg HNE.out]; exact parse16_none _ _ (fun n hn => by rw [hp] at hn; cases hn))
      rw [hp] at hi
      clear hp
      obtain ⟨te, pe, hc⟩ := (HE.out.below HB0.out).syn
      have herr := Tryd.strconv_toError_syntax ⟨#[80, 97, 114, 115, 101, 85, 105, 110, 116]⟩ t 16 64 _ _ (by omega) hc (.inr ⟨te, pe, rfl⟩)
      clear hc
      generalize Lib.bytesWorld w 5 t = W1 at hi HB0 herr
      go_enter Tryd.func17, Tryd.ntmps17
      go_wp2_with fail
      refine hi.mono ?_
      rintro e w' ⟨rfl, rfl⟩
      simp only [Lib.uintTuple]
      go_wp2_with fail
      refine herr.mono ?_
      rintro e w2 ⟨N, rfl, _, _, hb⟩
      have HB := Lib.hid (HB0.out.trans (hb.mono HB0.out.size))
      clear hb
      go_wp2_with fail
      go_ret2
      exact pu_none 0 N HN.out rfl HB.out
theorem pub (b : Nat) (hb : b = 10 ∨ b = 16) (t : ByteArray) (w : World) (hmax : t.size ≤ 100000) (E : Env w) (hup : ∀ c ∈ t.data.toList, ¬ Upr c) : Calls Tryd.prog 17 #[.string t, .int .i64 b, .int .i64 64] w (PuPost b t.data.toList w) := by
  rcases hb with rfl | rfl
  · exact pub10 t w hmax E
  · exact pub16 t w hmax E hup
theorem horner_bad (b : Nat) (hb : b ≤ 16) : ∀ (l : Bs) (n : Nat), (∃ c ∈ l, Bad c) → horner b l n = none
  | [], n, h => by obtain ⟨c, hc, _⟩ := h; simp at hc
  | c :: l, n, h => by
    unfold horner
    cases hd : dig b c with
    | none => rfl
    | some d =>
      simp only
      split
      · obtain ⟨x, hx, hbad⟩ := h
        rcases List.mem_cons.1 hx with rfl | hx
        · exfalso
          obtain ⟨h1, h2⟩ := hbad
          unfold dig at hd
          rw [if_neg h1] at hd
          split at hd
          · split at hd
            · omega
            · cases hd
          · cases hd
        · exact horner_bad b hb l _ ⟨x, hx, hbad⟩
      · rfl
def NumPost (s : Bs) (w : World) (e : Ending) (w' : World) : Prop :=
  (match number s with
  | some u => e = .returned (.tuple #[.int .u64 (u : Nat), .bool true])
  | none => e = .returned (.tuple #[.int .u64 0, .bool false])) ∧ Below w.heap.size w w'
theorem num_some {s : Bs} {w w' : World} {e : Ending} {u : Nat} (h : number s = some u) (he : e = .returned (.tuple #[.int .u64 (u : Nat), .bool true])) (hb : Below w.heap.size w w') : NumPost s w e w' := ⟨by rw [h]; exact he, hb⟩
theorem num_none {s : Bs} {w w' : World} {e : Ending} (h : number s = none) (he : e = .returned (.tuple #[.int .u64 0, .bool false])) (hb : Below w.heap.size w w') : NumPost s w e w' := ⟨by rw [h]; exact he, hb⟩
def numD (b : Nat) (d : Bs) : Option Nat := if 1 < d.length ∧ d.head? = some 48 then none else puRes b d
theorem number_eq (s : Bs) : number s = numD (base s) (digits s) := rfl
def CutR (s : ByteArray) (b : Nat) (D : ByteArray) (w : World) : Prop := Calls Tryd.prog 15 #[.string s, .string ⟨#[48, 120]⟩] w fun e w' => e = .returned (.tuple #[.string D, .bool (decide (b = 16))]) ∧ w' = w
theorem cut_any (s : ByteArray) (w : World) : ∃ (b : Nat) (D : ByteArray), (b = 10 ∨ b = 16) ∧ base s.data.toList = b ∧ D.data.toList = digits s.data.toList ∧ D.size ≤ s.size ∧ (b = 10 → D = s) ∧ CutR s b D w := by
  have hc := Tryd.strings_CutPrefix s ⟨#[48, 120]⟩ w
  unfold CutR
  by_cases hx : hexed s.data.toList = true
  · refine ⟨16, ⟨(Lib.trimPrefix s.data.toList [48, 120]).toArray⟩, .inr rfl, by unfold base; rw [if_pos hx], ?_, ?_, fun h => by omega, ?_⟩
    · unfold digits
      rw [if_pos hx]
      unfold Lib.trimPrefix
      unfold hexed at hx
      rw [hx]
      simp
    · rw [Lib.size_eq, Lib.size_eq]
      unfold Lib.trimPrefix
      split <;> simp
    · refine hc.mono ?_
      rintro e w' ⟨rfl, rfl⟩
      unfold hexed at hx
      refine ⟨?_, rfl⟩
      rw [show ((⟨#[48, 120]⟩ : ByteArray).data.toList) = [48, 120] from rfl, hx]
      rfl
  · have hx' : hexed s.data.toList = false := by simpa using hx
    refine ⟨10, s, .inl rfl, by unfold base; rw [if_neg hx], ?_, Nat.le_refl _, fun _ => rfl, ?_⟩
    · unfold digits; rw [if_neg hx]
    · refine hc.mono ?_
      rintro e w' ⟨rfl, rfl⟩
      unfold hexed at hx'
      refine ⟨?_, rfl⟩
      rw [show ((⟨#[48, 120]⟩ : ByteArray).data.toList) = [48, 120] from rfl, hx']
      unfold Lib.trimPrefix
      rw [hx']
      rfl
end Go.Proofs.YthjbenjnhdgalaaDoor
