/- May a text be a path's part? -/
import Derived.Test.YtinofjbnfmalkaaGreatDoorGx
import Derived.Test.YtinofjbnfmalkaaGreatDoorGa
import Derived.LoopTactic
import Derived.Deep.CutRange
import Derived.Lib.ConvBytes
import Derived.Lib.OwnBridge
import Derived.Lib.AtoiErrMem
import Derived.Test.YtinofjbnfmalkaaGreatDoorShelf
import Derived.ProofKit
import Derived.Deep.QuietTactic
import Derived.Deep.RegionWith
import Derived.BigQuiet
import Derived.OpenShut
import Derived.SliceStrings
import Derived.ChangeOld
namespace Go.Proofs.YtinofjbnfmalkaaGreatDoor
open Go.RowKit
def NoPost (t : Bs) (w : World) (e : Ending) (w' : World) : Prop := e = .returned (.bool (noB t)) ∧ Below w.heap.size w w'
theorem no_of {t : Bs} {b : Bool} {w w' : World} {e : Ending} (h : noB t = b) (he : e = .returned (.bool b)) (hb : Below w.heap.size w w') : NoPost t w e w' := by subst h; exact ⟨he, hb⟩
theorem conv_bytes (t : Bs) (w : World) : ∃ (cp : Nat) (w1 : World), (convert 9 24 (.string ⟨t.toArray⟩)).run Tryz.prog w = .ok (.slice (some ⟨w.heap.size, 0, none⟩) t.length cp) w1 ∧
    (∀ (k : Nat) (c : UInt8), t[k]? = some c → w1.cell? ⟨w.heap.size, k, none⟩ = some (.int .u8 (c.toNat : Nat))) ∧ Below w.heap.size w w1 := by
  have hsz : (⟨t.toArray⟩ : ByteArray).size = t.length := by rw [Lib.size_eq]
  refine ⟨_, _, by rw [← hsz]; exact Lib.run_convert_string_bytes (P := Tryz.prog) w 9 24 5 ⟨t.toArray⟩ (u := .string) Tryz.underlying9 Tryz.underlying24 Tryz.underlying5, fun k c hc => ?_, Lib.bytesWorld_below _ _ _⟩
  obtain ⟨h1, h2⟩ := List.getElem?_eq_some_iff.1 hc
  rw [Lib.bytesWorld_cell w 5 ⟨t.toArray⟩ k (by rw [hsz]; exact h1)]
  simp [List.getD_eq_getElem?_getD, hc]
theorem hcl_lt {t : Bs} {w w1 : World} (h : ∀ (k : Nat) (c : UInt8), t[k]? = some c → w1.cell? ⟨w.heap.size, k, none⟩ = some (.int .u8 (c.toNat : Nat))) : w.heap.size < w1.heap.size ∨ t.length = 0 := by
  cases t with
  | nil => exact .inr rfl
  | cons c t =>
    left
    have := h 0 c rfl
    rcases Nat.lt_or_ge w.heap.size w1.heap.size with h' | h'
    · exact h'
    · simp [World.cell?, Array.getElem?_eq_none h'] at this
set_option maxHeartbeats 2000000 in
set_option maxRecDepth 100000 in
theorem noPart_any (t : Bs) (w : World) (ht : t.length ≤ 70000) : Calls Tryz.prog 86 #[.string ⟨t.toArray⟩] w (NoPost t w) := by
  by_cases h0 : t = []
  · have HV := Lib.hid (show noB t = true from noB_end (by simp [endB, h0]))
    subst h0
    go_enter Tryz.func86, Tryz.ntmps86
    go_wp2_with fail
    go_ret
    exact no_of HV.out rfl (Below.refl _ _)
  by_cases h1 : t = [46]
  · have HV := Lib.hid (show noB t = true from noB_end (by simp [endB, h1]))
    subst h1
    go_enter Tryz.func86, Tryz.ntmps86
    go_wp2_with fail
    go_ret
    exact no_of HV.out rfl (Below.refl _ _)
  by_cases h2 : t = [46, 46]
  · have HV := Lib.hid (show noB t = true from noB_end (by simp [endB, h2]))
    subst h2
    go_enter Tryz.func86, Tryz.ntmps86
    go_wp2_with fail
    go_ret
    exact no_of HV.out rfl (Below.refl _ _)
  have e0 : t.isEmpty = false := by cases t <;> simp_all
  have g1 : (t == [46]) = false := by simpa using h1
  have g2 : (t == [46, 46]) = false := by simpa using h2
  have hsz : (⟨t.toArray⟩ : ByteArray).size = t.length := by rw [Lib.size_eq]
  have HSz := Lib.hid hsz
  by_cases h3 : 14 < t.length
  · have HV := Lib.hid (show noB t = true from noB_end (by simp [endB, h3]))
    have g3 : (14 : Int) < (t.length : Int) := by omega
    have d3 : decide ((14 : Int) < (t.length : Int)) = true := decide_eq_true g3
    clear h0 h1 h2 h3
    go_enter Tryz.func86, Tryz.ntmps86
    go_wp2_with fail
    go_ret
    exact no_of HV.out rfl (Below.refl _ _)
  · have HE := Lib.hid (show endB t = false by simp [endB, h0, h1, h2, h3])
    have g3 : ¬ (14 : Int) < (t.length : Int) := by omega
    have d3 : decide ((14 : Int) < (t.length : Int)) = false := decide_eq_false g3
    have HL := Lib.hid h3
    clear h0 h1 h2 h3
    obtain ⟨cp, w1, hcv, hcell, hb1⟩ := conv_bytes t w
    have HB1 := Lib.hid hb1
    have HC := Lib.hid hcell
    have hlt1 : w.heap.size < w1.heap.size ∨ t.length = 0 := hcl_lt hcell
    clear hb1 hcell
    go_enter Tryz.func86, Tryz.ntmps86
    go_wp2_with fail
    go_loop [23] (fun iv => ∃ k : Nat, iv = .int .i64 k ∧ k ≤ t.length ∧ Hid (∀ c ∈ t.take k, prn c.toNat = true)) (fun iv => t.length - (intOf iv).toNat)
    case atStart => exact ⟨0, rfl, Nat.zero_le _, Lib.hid (by simp)⟩
    case round =>
      obtain ⟨k, rfl, hk, HT⟩ := hrel
      by_cases hlt : k < t.length
      · obtain ⟨c, hc⟩ : ∃ c, t[k]? = some c := ⟨_, List.getElem?_eq_getElem hlt⟩
        have c1 := HC.out k c hc
        have HX := Lib.hid hc
        have hb1 : w.heap.size < w1.heap.size := by omega
        clear hc
        have hp := fun W => printable_any c.toNat W
        cases hq : prn c.toNat with
        | true =>
          rw [hq] at hp
          have HK := Lib.hid (show ∀ x ∈ t.take (k + 1), prn x.toNat = true from fun x hx => by
            rw [List.take_add_one, HX.out] at hx
            rcases List.mem_append.1 hx with h | h
            · exact HT.out x h
            · simp at h; subst h; exact hq)
          clear hq
          go_wp2_with fail
          refine (hp _).mono ?_
          rintro e w2 ⟨rfl, rfl⟩
          clear hp
          go_wp2_with fail
          go_round
          case rel => exact ⟨k + 1, by go_num, by omega, HK⟩
          case measure => simp [intOf]; omega
        | false =>
          rw [hq] at hp
          have HV := Lib.hid (show noB t = true from noB_bad (List.mem_of_getElem? HX.out) hq)
          clear hq
          go_wp2_with fail
          refine (hp _).mono ?_
          rintro e w2 ⟨rfl, rfl⟩
          clear hp
          go_wp2_with fail
          go_ret
          exact no_of HV.out rfl HB1.out
      · have HV := Lib.hid (show noB t = false from noB_all HE.out (fun c hc => HT.out c (by rw [List.take_of_length_le (by omega)]; exact hc)))
        go_wp2_with fail
        go_ret
        exact no_of HV.out rfl HB1.out
end Go.Proofs.YtinofjbnfmalkaaGreatDoor
namespace Go.Proofs.YtinofjbnfmalkaaGreatDoor
open Go.RowKit
def strs (ws : List Bs) : List Value := ws.map fun x => Value.string ⟨x.toArray⟩
theorem strs_at {ws : List Bs} {k : Nat} {x : Bs} (h : ws[k]? = some x) : (strs ws)[k]? = some (.string ⟨x.toArray⟩) := by simp [strs, h]
structure Env (w : World) : Prop where
  ml : ∃ m, w.cell? ⟨3, 0, none⟩ = some (.int .i64 m)
  sg : w.cell? ⟨1, 7, none⟩ = some (.string ⟨#[38]⟩)
theorem cell_below {w w' : World} {b o : Nat} {v : Value} (h : w.cell? ⟨b, o, none⟩ = some v) (hb : Below w.heap.size w w') : w'.cell? ⟨b, o, none⟩ = some v := by
  have hl : b < w.heap.size := by
    rcases Nat.lt_or_ge b w.heap.size with h' | h'
    · exact h'
    · simp [World.cell?, Array.getElem?_eq_none h'] at h
  exact (hb.cell (p := ⟨b, o, none⟩) hl).trans h
theorem Env.below {w w' : World} (h : Env w) (hb : Below w.heap.size w w') : Env w' :=
  ⟨by obtain ⟨m, h⟩ := h.ml; exact ⟨m, cell_below h hb⟩, cell_below h.sg hb⟩
def IxPost (ws : List Bs) (w : World) (e : Ending) (w' : World) : Prop := (∃ v : Int, e = .returned (.int .i64 v) ∧ decide (0 ≤ v) = ws.any noB) ∧ Below w.heap.size w w'
set_option maxHeartbeats 1000000 in
set_option maxRecDepth 100000 in
theorem indexS_any (ws : List Bs) (A : Option Addr) (n cap : Nat) (w : World) (hn : ws.length = n) (hr : Rd w 1 n A (strs ws)) (hl : ∀ x ∈ ws, x.length ≤ 70000) (hm : n ≤ 70000) :
    Calls Tryz.prog 111 #[.slice A n cap, .func (.func 86) #[] #[]] w (IxPost ws w) := by
  have HR := Lib.hid hr
  have HL := Lib.hid hl
  have HN := Lib.hid hn
  clear hr hl
  go_enter Tryz.func111, Tryz.ntmps111
  go_wp2_with fail
  go_loopw [8] (fun iv wr => ∃ k : Nat, iv = .int .i64 k ∧ k ≤ n ∧ Hid ((ws.take k).any noB = false) ∧ Hid (Below w.heap.size w wr)) (fun iv _ => n - (intOf iv).toNat)
  case atStart => exact ⟨0, rfl, Nat.zero_le _, rfl, Below.refl _ _⟩
  case round =>
    obtain ⟨k, rfl, hk, HT, HB⟩ := hrel
    by_cases hlt : k < n
    · obtain ⟨x, hx⟩ : ∃ x, ws[k]? = some x := ⟨_, List.getElem?_eq_getElem (by omega)⟩
      obtain ⟨b, o, rfl, hbl, hc⟩ := (HR.out.below HB.out).pos (by omega)
      have c1 := hc k _ (strs_at hx)
      have HX := Lib.hid hx
      have hp := fun W => noPart_any x W (HL.out x (List.mem_of_getElem? hx))
      clear hc hx
      go_wp2_with fail
      refine (hp _).mono ?_
      clear hp c1
      rintro e w2 ⟨rfl, hb2⟩
      have HB2 := Lib.hid (HB.out.trans (hb2.mono HB.out.size))
      clear hb2
      cases hq : noB x with
      | true =>
        have HV := Lib.hid (show decide ((0 : Int) ≤ (k : Int)) = ws.any noB by
          rw [decide_eq_true (by omega : (0 : Int) ≤ (k : Int))]
          exact (List.any_eq_true.2 ⟨x, List.mem_of_getElem? HX.out, hq⟩).symm)
        clear hq
        go_wp2_with fail
        go_ret
        exact ⟨⟨_, rfl, HV.out⟩, HB2.out⟩
      | false =>
        have HK := Lib.hid (show (ws.take (k + 1)).any noB = false by
          rw [List.take_add_one, HX.out, List.any_append, HT.out]; simp [hq])
        clear hq
        go_wp2_with fail
        go_roundw
        case rel => exact ⟨k + 1, by go_num, by omega, HK, HB2⟩
        case measure => simp [intOf]; omega
    · have HV := Lib.hid (show decide ((0 : Int) ≤ -1) = ws.any noB by
        have := HT.out
        rw [List.take_of_length_le (by have := HN.out; omega)] at this
        rw [this]; rfl)
      go_wp2_with fail
      go_ret
      exact ⟨⟨_, rfl, HV.out⟩, HB.out⟩
def BoolPost (b : Bool) (w : World) (e : Ending) (w' : World) : Prop := e = .returned (.bool b) ∧ Below w.heap.size w w'
theorem containsS_any (ws : List Bs) (A : Option Addr) (n cap : Nat) (w : World) (hn : ws.length = n) (hr : Rd w 1 n A (strs ws)) (hl : ∀ x ∈ ws, x.length ≤ 70000) (hm : n ≤ 70000) :
    Calls Tryz.prog 85 #[.slice A n cap, .func (.func 86) #[] #[]] w (BoolPost (ws.any noB) w) := by
  have hp := indexS_any ws A n cap w hn hr hl hm
  go_enter Tryz.func85, Tryz.ntmps85
  go_wp2_with fail
  refine hp.mono ?_
  clear hp
  rintro e w2 ⟨⟨v, rfl, hv⟩, hb2⟩
  go_wp2_with fail
  go_ret
  refine ⟨?_, hb2⟩
  rw [← hv]
  rfl
def SplitPost (s : Bs) (w : World) (e : Ending) (w' : World) : Prop :=
  ∃ A : Nat, e = .returned (.slice (some ⟨A, 0, none⟩) (parts s).length (parts s).length) ∧ Rd w' 1 (parts s).length (some ⟨A, 0, none⟩) (strs (parts s)) ∧ Below w.heap.size w w'
theorem split_any (s : ByteArray) (w : World) (hs : s.size ≤ 65536) (hE : Env w) : Calls Tryz.prog 73 #[.string s, .string ⟨#[47]⟩] w (SplitPost s.data.toList w) := by
  obtain ⟨m, hm⟩ := hE.ml
  have hl := splitB_parts s
  have hlen : Lib.countB s ⟨#[47]⟩ + 1 = (parts s.data.toList).length := by
    rw [← hl, List.length_map, Lib.splitB_all ⟨#[47]⟩ (by decide) 0 _ s rfl]
  have hst : (Lib.splitB ⟨#[47]⟩ 0 (Lib.countB s ⟨#[47]⟩) s).map Value.string = strs (parts s.data.toList) := by
    rw [← hl]
    unfold strs
    rw [List.map_map]
    exact List.map_congr_left (fun x _ => by simp)
  refine (Tryz.strings_Split s ⟨#[47]⟩ m w (by omega) hm (by decide)).mono ?_
  rintro e w' ⟨he, hw⟩
  rw [hlen] at he
  rw [hst] at hw
  subst hw
  exact ⟨w.heap.size, he, ((Bk.new w _ _ rfl).seg (by simp [strs]) (Nat.le_refl _)).rd, (Below.refl _ _).alloc (Nat.le_refl _) _⟩
theorem path_false {s : Bs} {b : Bool} {w w' : World} {e : Ending} (h : pathB s = b) (he : e = .returned (.bool b)) (hb : Below w.heap.size w w') : BoolPost (pathB s) w e w' := by rw [h]; exact ⟨he, hb⟩
theorem has_slash_no {s : Bs} (h : ∀ t, s ≠ 47 :: t) : Lib.hasPrefix s [47] = false ∧ pathB s = false := by
  cases s with
  | nil => exact ⟨rfl, rfl⟩
  | cons c t =>
    have hc : c ≠ 47 := fun e => h t (by rw [e])
    exact ⟨by simp [Lib.hasPrefix, List.isPrefixOf, Ne.symm hc], by simp [pathB, hc]⟩
set_option maxHeartbeats 1000000 in
set_option maxRecDepth 100000 in
theorem path_any (s : Bs) (w : World) (hs : s.length ≤ maxLen) (hE : Env w) : Calls Tryz.prog 58 #[.string ⟨s.toArray⟩] w (BoolPost (pathB s) w) := by
  have hcp := fun W => Tryz.strings_CutPrefix ⟨s.toArray⟩ ⟨#[47]⟩ W
  unfold maxLen at hs
  by_cases hsl : ∃ t, s = 47 :: t
  · obtain ⟨t, rfl⟩ := hsl
    have e1 : Lib.trimPrefix (⟨(47 :: t).toArray⟩ : ByteArray).data.toList (⟨#[47]⟩ : ByteArray).data.toList = t := by simp [Lib.trimPrefix, Lib.hasPrefix, List.isPrefixOf]
    have e2 : Lib.hasPrefix (⟨(47 :: t).toArray⟩ : ByteArray).data.toList (⟨#[47]⟩ : ByteArray).data.toList = true := by simp [Lib.hasPrefix, List.isPrefixOf]
    rw [e1, e2] at hcp
    clear e1 e2
    have hsz : (⟨(47 :: t).toArray⟩ : ByteArray).size = t.length + 1 := by rw [Lib.size_eq]; simp
    generalize hS : (⟨(47 :: t).toArray⟩ : ByteArray) = S at *
    have HS := Lib.hid hS
    clear hS
    have HE := Lib.hid hE
    have hlen : t.length + 1 ≤ 9223372036854775807 := by simpa using hs
    clear hE hs
    go_enter Tryz.func58, Tryz.ntmps58
    go_wp2_with fail
    refine (hcp _).mono ?_
    clear hcp
    rintro e w1 ⟨rfl, rfl⟩
    by_cases hl : 120 < t.length + 1
    · have g1 : (120 : Int) < (S.size : Int) := by omega
      have HV := Lib.hid (show pathB (47 :: t) = false by simp [pathB, show ¬ t.length + 1 ≤ 120 by omega])
      go_wp2_with fail
      go_ret
      exact path_false HV.out rfl (Below.refl _ _)
    · have g1 : ¬ (120 : Int) < (S.size : Int) := by omega
      have g2 : decide ((120 : Int) < (S.size : Int)) = false := decide_eq_false g1
      by_cases hne : t = []
      · have HV := Lib.hid (show pathB (47 :: t) = true by subst hne; rfl)
        subst hne
        go_wp2_with fail
        go_ret
        exact path_false HV.out rfl (Below.refl _ _)
      · have e0 : t.isEmpty = false := by cases t <;> simp_all
        have HV := Lib.hid (show pathB (47 :: t) = !(parts t).any noB by simp [pathB, hne, show t.length + 1 ≤ 120 by omega])
        clear hne hl
        go_wp2_with fail
        refine (split_any ⟨t.toArray⟩ _ (by rw [Lib.size_eq]; simp; omega) HE.out).mono ?_
        rw [show (⟨t.toArray⟩ : ByteArray).data.toList = t from rfl]
        rintro e w2 ⟨A, rfl, hr, hb2⟩
        have hpl := parts_len t
        go_wp2_with fail
        refine (containsS_any (parts t) _ _ _ w2 rfl hr (fun x hx => by have := parts_mem t x hx; omega) (by omega)).mono ?_
        rintro e w3 ⟨rfl, hb3⟩
        go_wp2_with fail
        go_ret
        exact path_false HV.out rfl (hb2.trans (hb3.mono hb2.size))
  · obtain ⟨h1, h2⟩ := has_slash_no (fun t e => hsl ⟨t, e⟩)
    have e2 : Lib.hasPrefix (⟨s.toArray⟩ : ByteArray).data.toList (⟨#[47]⟩ : ByteArray).data.toList = false := h1
    rw [e2] at hcp
    have HV := Lib.hid h2
    clear e2 h1 h2 hsl hE
    go_enter Tryz.func58, Tryz.ntmps58
    go_wp2_with fail
    refine (hcp _).mono ?_
    clear hcp
    rintro e w1 ⟨rfl, rfl⟩
    go_wp2_with fail
    go_ret
    exact path_false HV.out rfl (Below.refl _ _)
end Go.Proofs.YtinofjbnfmalkaaGreatDoor
namespace Go.Proofs.YtinofjbnfmalkaaGreatDoor
open Go.RowKit
def Same9 (v : Value) (w : World) (e : Ending) (w' : World) : Prop := e = .returned v ∧ w = w'
end Go.Proofs.YtinofjbnfmalkaaGreatDoor
namespace Go.Proofs.YtinofjbnfmalkaaGreatDoor
open Go.RowKit Go.ChangeShapes Go.WideShapes Go.ChangeAt Go.WideElems
theorem add_at' (b o j : Nat) : (⟨b, o, none⟩ : Addr).add j = ⟨b, o + j, none⟩ := by unfold Addr.add; split <;> simp_all
theorem cell_lt {w : World} {a : Addr} {v : Value} (h : w.cell? a = some v) : a.block < w.heap.size ∧ a.spot = none := by
  refine ⟨?_, ?_⟩
  · unfold World.cell? at h
    split at h
    · rename_i h2; exact (Array.getElem?_eq_some_iff.1 h2).1
    · cases h
  · unfold World.cell? at h
    split at h
    · split at h
      · cases h
      · rename_i h3; simpa using h3
    · cases h
theorem rd_of {w : World} {z n : Nat} {a : Addr} {xs : List Value} (hl : xs.length = n * z) (hz : 0 < z) (h : ∀ j u, xs[j]? = some u → w.cell? (a.add j) = some u) : Rd w z n (some a) xs := by
  refine ⟨hl, ?_⟩
  rcases Nat.eq_zero_or_pos n with h0 | h0
  · exact .inl h0
  · right
    have hp : 0 < xs.length := by rw [hl]; exact Nat.mul_pos h0 hz
    obtain ⟨h1, h2⟩ := cell_lt (h 0 _ (List.getElem?_eq_getElem hp))
    obtain ⟨b, o, spot⟩ := a
    have hs : spot = none := by simpa [Addr.add] using h2
    subst hs
    exact ⟨b, o, rfl, by simpa [Addr.add] using h1, fun j u hu => by rw [← add_at']; exact h j u hu⟩
def IsRow (k : IntKind) (w : World) (A : Option Addr) (len cap : Nat) (zs : List Int) : Prop :=
  (A = none ∧ len = 0 ∧ cap = 0 ∧ zs = []) ∨ ∃ a, A = some a ∧ len ≤ cap ∧ cap ≤ maxLen ∧ zs.length = cap ∧ (∀ i, i < zs.length → w.cell? (a.add i) = some (.int k (zs.getD i 0))) ∧ ∀ n ∈ zs, (Lit.int k n).wf = true
theorem row_u8 {w : World} {A : Option Addr} {len cap : Nat} {zs : List Int} (h : IsRow .u8 w A len cap zs) : ∃ l : List Nat, l.length = len ∧ (∀ x ∈ l, x < 256) ∧ Rd w 1 len A (u8s l) ∧ len ≤ maxLen := by
  rcases h with ⟨rfl, rfl, rfl, rfl⟩ | ⟨a, rfl, h1, h2, h3, h4, h5⟩
  · exact ⟨[], rfl, by simp, Rd.nil _ _ _, by unfold maxLen; omega⟩
  · have hb : ∀ z ∈ zs, 0 ≤ z ∧ z < 256 := fun z hz => by have := bounds_u8 (h5 z hz); omega
    refine ⟨(zs.take len).map Int.toNat, by simp; omega, fun x hx => ?_, rd_of (by simp [u8s]; omega) (by omega) (fun j u hu => ?_), by omega⟩
    · obtain ⟨z, hz, rfl⟩ := List.mem_map.1 hx
      have := hb z (List.mem_of_mem_take hz)
      omega
    · unfold u8s at hu
      rw [List.map_map, List.getElem?_map] at hu
      cases hz : (zs.take len)[j]? with
      | none => rw [hz] at hu; simp at hu
      | some z =>
        rw [hz] at hu
        simp only [Option.map_some, Function.comp_apply, Option.some.injEq] at hu
        have hm := hb z (List.mem_of_mem_take (List.mem_of_getElem? hz))
        have hz2 : zs[j]? = some z := by
          rw [List.getElem?_take] at hz
          split at hz
          · exact hz
          · cases hz
        have hj := (List.getElem?_eq_some_iff.1 hz2).1
        rw [h4 j hj, ← hu]
        have : zs.getD j 0 = z := by rw [List.getD, hz2]; rfl
        rw [this]
        have : ((z.toNat : Nat) : Int) = z := by omega
        rw [this]
end Go.Proofs.YtinofjbnfmalkaaGreatDoor

