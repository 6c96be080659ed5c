/- A path in a policy: the program's way. -/
import Derived.Test.YtonpakndocgndaaGreatDoorNoPart
import Derived.Test.YtonpakndocgndaaGreatDoorSeg
import Derived.Test.YtonpakndocgndaaGreatDoorShelf
import Derived.ProofKit
namespace Go.Proofs.YtonpakndocgndaaGreatDoor
open Go.RowKit
def strs (ws : List Bs) : List Value := ws.map fun x => Value.string ⟨x.toArray⟩
theorem strs_len (ws : List Bs) : (strs ws).length = ws.length := by simp [strs]
theorem strs_at {ws : List Bs} {k : Nat} {x : Bs} (h : ws[k]? = some x) : (strs ws)[k]? = some (.string ⟨x.toArray⟩) := by simp [strs, h]
/-- What the walks want of the package-level variables. -/
structure Env (w : World) : Prop where
  ml : ∃ m, w.cell? ⟨2, 0, none⟩ = some (.int .i64 m)
  sg : w.cell? ⟨0, 7, none⟩ = some (.string ⟨#[38]⟩)
theorem cell_below {w w' : World} {b o : Nat} {v : Value} (h : w.cell? ⟨b, o, none⟩ = some v) (hb : Below w.heap.size w w') : w'.cell? ⟨b, o, none⟩ = some v := by
  have hl : b < w.heap.size := by
    rcases Nat.lt_or_ge b w.heap.size with h' | h'
    · exact h'
    · simp [World.cell?, Array.getElem?_eq_none h'] at h
  exact (hb.cell (p := ⟨b, o, none⟩) hl).trans h
theorem Env.below {w w' : World} (h : Env w) (hb : Below w.heap.size w w') : Env w' :=
  ⟨by obtain ⟨m, h⟩ := h.ml; exact ⟨m, cell_below h hb⟩, cell_below h.sg hb⟩
def IxPost (ws : List Bs) (w : World) (e : Ending) (w' : World) : Prop := (∃ v : Int, e = .returned (.int .i64 v) ∧ decide (0 ≤ v) = ws.any noB) ∧ Below w.heap.size w w'
set_option maxHeartbeats 1000000 in
set_option maxRecDepth 100000 in
theorem indexS_any (ws : List Bs) (A : Option Addr) (n cap : Nat) (w : World) (hn : ws.length = n) (hr : Rd w 1 n A (strs ws)) (hl : ∀ x ∈ ws, x.length ≤ 70000) (hm : n ≤ 70000) :
    Calls Tryz.prog 64 #[.slice A n cap, .func (.func 55) #[] #[]] w (IxPost ws w) := by
  have HR := Lib.hid hr
  have HL := Lib.hid hl
  have HN := Lib.hid hn
  clear hr hl
  go_enter Tryz.func64, Tryz.ntmps64
  go_wp2_with fail
  go_loopw [8] (fun iv wr => ∃ k : Nat, iv = .int .i64 k ∧ k ≤ n ∧ Hid ((ws.take k).any noB = false) ∧ Hid (Below w.heap.size w wr)) (fun iv _ => n - (intOf iv).toNat)
  case atStart => exact ⟨0, rfl, Nat.zero_le _, rfl, Below.refl _ _⟩
  case round =>
    obtain ⟨k, rfl, hk, HT, HB⟩ := hrel
    by_cases hlt : k < n
    · obtain ⟨x, hx⟩ : ∃ x, ws[k]? = some x := ⟨_, List.getElem?_eq_getElem (by omega)⟩
      obtain ⟨b, o, rfl, hbl, hc⟩ := (HR.out.below HB.out).pos (by omega)
      have c1 := hc k _ (strs_at hx)
      have HX := Lib.hid hx
      have hp := fun W => noPart_any x W (HL.out x (List.mem_of_getElem? hx))
      clear hc hx
      go_wp2_with fail
      refine (hp _).mono ?_
      clear hp c1
      rintro e w2 ⟨rfl, hb2⟩
      have HB2 := Lib.hid (HB.out.trans (hb2.mono HB.out.size))
      clear hb2
      cases hq : noB x with
      | true =>
        have HV := Lib.hid (show decide ((0 : Int) ≤ (k : Int)) = ws.any noB by
          rw [decide_eq_true (by omega : (0 : Int) ≤ (k : Int))]
          exact (List.any_eq_true.2 ⟨x, List.mem_of_getElem? HX.out, hq⟩).symm)
        clear hq
        go_wp2_with fail
        go_ret
        exact ⟨⟨_, rfl, HV.out⟩, HB2.out⟩
      | false =>
        have HK := Lib.hid (show (ws.take (k + 1)).any noB = false by
          rw [List.take_add_one, HX.out, List.any_append, HT.out]; simp [hq])
        clear hq
        go_wp2_with fail
        go_roundw
        case rel => exact ⟨k + 1, by go_num, by omega, HK, HB2⟩
        case measure => simp [intOf]; omega
    · have HV := Lib.hid (show decide ((0 : Int) ≤ -1) = ws.any noB by
        have := HT.out
        rw [List.take_of_length_le (by have := HN.out; omega)] at this
        rw [this]; rfl)
      go_wp2_with fail
      go_ret
      exact ⟨⟨_, rfl, HV.out⟩, HB.out⟩
def BoolPost (b : Bool) (w : World) (e : Ending) (w' : World) : Prop := e = .returned (.bool b) ∧ Below w.heap.size w w'
theorem containsS_any (ws : List Bs) (A : Option Addr) (n cap : Nat) (w : World) (hn : ws.length = n) (hr : Rd w 1 n A (strs ws)) (hl : ∀ x ∈ ws, x.length ≤ 70000) (hm : n ≤ 70000) :
    Calls Tryz.prog 53 #[.slice A n cap, .func (.func 55) #[] #[]] w (BoolPost (ws.any noB) w) := by
  have hp := indexS_any ws A n cap w hn hr hl hm
  go_enter Tryz.func53, Tryz.ntmps53
  go_wp2_with fail
  refine hp.mono ?_
  clear hp
  rintro e w2 ⟨⟨v, rfl, hv⟩, hb2⟩
  go_wp2_with fail
  go_ret
  refine ⟨?_, hb2⟩
  rw [← hv]
  rfl
def SplitPost (s : Bs) (w : World) (e : Ending) (w' : World) : Prop :=
  ∃ A : Nat, e = .returned (.slice (some ⟨A, 0, none⟩) (parts s).length (parts s).length) ∧ Rd w' 1 (parts s).length (some ⟨A, 0, none⟩) (strs (parts s)) ∧ Below w.heap.size w w'
theorem split_any (s : ByteArray) (w : World) (hs : s.size ≤ 65536) (hE : Env w) : Calls Tryz.prog 54 #[.string s, .string ⟨#[47]⟩] w (SplitPost s.data.toList w) := by
  obtain ⟨m, hm⟩ := hE.ml
  have hl := splitB_parts s
  have hlen : Lib.countB s ⟨#[47]⟩ + 1 = (parts s.data.toList).length := by
    rw [← hl, List.length_map, Lib.splitB_all ⟨#[47]⟩ (by decide) 0 _ s rfl]
  have hst : (Lib.splitB ⟨#[47]⟩ 0 (Lib.countB s ⟨#[47]⟩) s).map Value.string = strs (parts s.data.toList) := by
    rw [← hl]
    unfold strs
    rw [List.map_map]
    exact List.map_congr_left (fun x _ => by simp)
  refine (Tryz.strings_Split s ⟨#[47]⟩ m w (by omega) hm (by decide)).mono ?_
  rintro e w' ⟨he, hw⟩
  rw [hlen] at he
  rw [hst] at hw
  subst hw
  exact ⟨w.heap.size, he, ((Bk.new w _ _ rfl).seg (by simp [strs]) (Nat.le_refl _)).rd, (Below.refl _ _).alloc (Nat.le_refl _) _⟩
theorem path_false {s : Bs} {b : Bool} {w w' : World} {e : Ending} (h : pathB s = b) (he : e = .returned (.bool b)) (hb : Below w.heap.size w w') : BoolPost (pathB s) w e w' := by rw [h]; exact ⟨he, hb⟩
theorem has_slash_no {s : Bs} (h : ∀ t, s ≠ 47 :: t) : Lib.hasPrefix s [47] = false ∧ pathB s = false := by
  cases s with
  | nil => exact ⟨rfl, rfl⟩
  | cons c t =>
    have hc : c ≠ 47 := fun e => h t (by rw [e])
    exact ⟨by simp [Lib.hasPrefix, List.isPrefixOf, Ne.symm hc], by simp [pathB, hc]⟩
set_option maxHeartbeats 1000000 in
set_option maxRecDepth 100000 in
theorem path_any (s : Bs) (w : World) (hs : s.length ≤ maxLen) (hE : Env w) : Calls Tryz.prog 41 #[.string ⟨s.toArray⟩] w (BoolPost (pathB s) w) := by
  have hcp := fun W => Tryz.strings_CutPrefix ⟨s.toArray⟩ ⟨#[47]⟩ W
  unfold maxLen at hs
  by_cases hsl : ∃ t, s = 47 :: t
  · obtain ⟨t, rfl⟩ := hsl
    have e1 : Lib.trimPrefix (⟨(47 :: t).toArray⟩ : ByteArray).data.toList (⟨#[47]⟩ : ByteArray).data.toList = t := by simp [Lib.trimPrefix, Lib.hasPrefix, List.isPrefixOf]
    have e2 : Lib.hasPrefix (⟨(47 :: t).toArray⟩ : ByteArray).data.toList (⟨#[47]⟩ : ByteArray).data.toList = true := by simp [Lib.hasPrefix, List.isPrefixOf]
    rw [e1, e2] at hcp
    clear e1 e2
    have hsz : (⟨(47 :: t).toArray⟩ : ByteArray).size = t.length + 1 := by rw [Lib.size_eq]; simp
    generalize hS : (⟨(47 :: t).toArray⟩ : ByteArray) = S at *
    have HS := Lib.hid hS
    clear hS
    have HE := Lib.hid hE
    have hlen : t.length + 1 ≤ 9223372036854775807 := by simpa using hs
    clear hE hs
    go_enter Tryz.func41, Tryz.ntmps41
    go_wp2_with fail
    refine (hcp _).mono ?_
    clear hcp
    rintro e w1 ⟨rfl, rfl⟩
    by_cases hl : 120 < t.length + 1
    · have g1 : (120 : Int) < (S.size : Int) := by omega
      have HV := Lib.hid (show pathB (47 :: t) = false by simp [pathB, show ¬ t.length + 1 ≤ 120 by omega])
      go_wp2_with fail
      go_ret
      exact path_false HV.out rfl (Below.refl _ _)
    · have g1 : ¬ (120 : Int) < (S.size : Int) := by omega
      have g2 : decide ((120 : Int) < (S.size : Int)) = false := decide_eq_false g1
      by_cases hne : t = []
      · have HV := Lib.hid (show pathB (47 :: t) = true by subst hne; rfl)
        subst hne
        go_wp2_with fail
        go_ret
        exact path_false HV.out rfl (Below.refl _ _)
      · have e0 : t.isEmpty = false := by cases t <;> simp_all
        have HV := Lib.hid (show pathB (47 :: t) = !(parts t).any noB by simp [pathB, hne, show t.length + 1 ≤ 120 by omega])
        clear hne hl
        go_wp2_with fail
        refine (split_any ⟨t.toArray⟩ _ (by rw [Lib.size_eq]; simp; omega) HE.out).mono ?_
        rw [show (⟨t.toArray⟩ : ByteArray).data.toList = t from rfl]
        rintro e w2 ⟨A, rfl, hr, hb2⟩
        have hpl := parts_len t
        go_wp2_with fail
        refine (containsS_any (parts t) _ _ _ w2 rfl hr (fun x hx => by have := parts_mem t x hx; omega) (by omega)).mono ?_
        rintro e w3 ⟨rfl, hb3⟩
        go_wp2_with fail
        go_ret
        exact path_false HV.out rfl (hb2.trans (hb3.mono hb2.size))
  · obtain ⟨h1, h2⟩ := has_slash_no (fun t e => hsl ⟨t, e⟩)
    have e2 : Lib.hasPrefix (⟨s.toArray⟩ : ByteArray).data.toList (⟨#[47]⟩ : ByteArray).data.toList = false := h1
    rw [e2] at hcp
    have HV := Lib.hid h2
    clear e2 h1 h2 hsl hE
    go_enter Tryz.func41, Tryz.ntmps41
    go_wp2_with fail
    refine (hcp _).mono ?_
    clear hcp
    rintro e w1 ⟨rfl, rfl⟩
    go_wp2_with fail
    go_ret
    exact path_false HV.out rfl (Below.refl _ _)
end Go.Proofs.YtonpakndocgndaaGreatDoor
