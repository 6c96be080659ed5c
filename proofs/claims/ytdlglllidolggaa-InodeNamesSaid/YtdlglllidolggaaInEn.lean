/- Entries: a directory's names, rising. -/
import Derived.Test.YtdlglllidolggaaIter
import Derived.Test.YtdlglllidolggaaInQ
namespace Go.Proofs.Ytdlglllidolggaa.In
open Go.RowKit Go.Maps Go.WideMaps Go.Sort Go.Shelf
theorem before_lt : ∀ {a b : Bs}, bytesBefore a b = true → a < b
  | [], [], h => by cases h
  | [], _ :: _, _ => List.nil_lt_cons _ _
  | _ :: _, [], h => by cases h
  | a :: r, b :: s, h => by
    unfold bytesBefore at h
    rw [Bool.or_eq_true, Bool.and_eq_true, decide_eq_true_iff, beq_iff_eq] at h
    rw [List.cons_lt_cons_iff]
    rcases h with h | ⟨h1, h2⟩
    · exact .inl h
    · exact .inr ⟨h1, before_lt h2⟩
theorem sorted_is {L : Es} (hr : Ris L) {ss : List Bs} (hp : ss.Perm (L.map Prod.fst)) : ss.mergeSort (fun x y => decide (x ≤ y)) = L.map Prod.fst := by
  have h1 : (L.map Prod.fst).Pairwise (fun a b => a ≤ b) := by
    rw [List.pairwise_map]
    exact hr.imp fun h => List.le_of_lt (before_lt h)
  have h2 : (ss.mergeSort (fun x y => decide (x ≤ y))).Pairwise (fun a b => a ≤ b) := by
    have := List.pairwise_mergeSort (le := fun x y : Bs => decide (x ≤ y)) (fun a b c h1 h2 => by simp only [decide_eq_true_eq] at *; exact List.le_trans h1 h2) (fun a b => by simp only [Bool.or_eq_true, decide_eq_true_eq]; exact List.le_total a b) ss
    exact this.imp fun h => by simpa using h
  exact List.Perm.eq_of_pairwise (fun a b _ _ h1 h2 => List.le_antisymm h1 h2) h2 h1 ((List.mergeSort_perm ss _).trans hp)
theorem strKeys_nD (L : Es) : strKeys (nD L) = L.map Prod.fst := by
  show (L.map rdE).map (fun p => strOf p.1) = _
  rw [List.map_map]; rfl
theorem own_mono {w : World} {base base' : Nat} {e : TypeId} {size : Nat} {v : Value} {n : Nat} {xs : List Value} (h : w.ownsRow base e size v n xs) (hb : base' ≤ base) : w.ownsRow base' e size v n xs :=
  ⟨h.1, h.2.imp id fun ⟨g, cap, cur, e, h1, h2⟩ => ⟨g, cap, cur, e, Nat.le_trans hb h1, h2⟩⟩
section
variable {w w' : World} {B tb A : Nat} {T : TrM} {nb mb : Nat → Nat}
def nmRow (L : Es) : List Value := L.map fun e => Value.string ⟨e.1.toArray⟩
theorem nm_row (L : Es) : (L.map Prod.fst).map Go.Proofs.encStr = nmRow L := by rw [List.map_map]; rfl
theorem entries_no (h : TabR w B tb T A nb mb) {n : Nat} (hn : n ≤ 65535) (hk : (T.nd n).kd ≠ 2) :
    Calls Try.prog 14 #[tP tb, .int .u16 n] w fun e w' => e = .returned (.tuple #[.slice none 0 0, .int .i64 (dirE T n)]) ∧ w = w' := by
  have hd := dir_any h hn
  rw [if_neg hk] at hd
  have hq := dirE_ne hk
  obtain ⟨q, hqq⟩ : ∃ q, q = dirE T n := ⟨_, rfl⟩
  rw [← hqq] at hd hq ⊢
  have qb : ((q : Int) != 0) = true := by simp; omega
  clear hq hqq
  go_enter Try.func14, Try.ntmps14
  go_wp2_with (refine hd.mono ?_; rintro e w' ⟨rfl, rfl⟩; clear hd)
  go_ret2
  exact ⟨rfl, rfl⟩
def EntP (w : World) (L : Es) (e : Ending) (w' : World) : Prop := ∃ v, e = .returned (.tuple #[v, .int .i64 0]) ∧ w'.ownsRow w.heap.size 9 1 v L.length (nmRow L) ∧ Below w.heap.size w w'
theorem entries_yes (h : TabR w B tb T A nb mb) {n : Nat} (hk : (T.nd n).kd = 2) (hr : Ris (T.nd n).L) :
    Calls Try.prog 14 #[tP tb, .int .u16 n] w (EntP w (T.nd n).L) := by
  have hd := dir_yes h hk
  have hk0 : (T.nd n).kd ≠ 0 := by rw [hk]; decide
  have hown := (h.node n hk0).names hk
  have hcm := ndN h hk
  have hlen := (h.ls n).len
  have hsz := nD_size (T.nd n).L
  have hS := callsIn_wide.1 (Try.slices_Sorted_keys_46_47 (mb n) (T.nd n).L.length (nD (T.nd n).L) (plainElem Try.prog 29) w hown (by rw [hsz]; unfold maxLen; omega) (by rw [hsz]; omega))
  have HS := Lib.hid hS
  have HR := Lib.hid hr
  clear hS hsz hown hr
  go_enter Try.func14, Try.ntmps14
  go_wp2_with fail
  refine hd.mono ?_
  rintro e w' ⟨rfl, rfl⟩
  clear hd
  go_wp2_with fail
  refine (callsIn_wide.1 (Try.maps_Keys_47 _ _)).mono ?_
  rintro e w' ⟨rfl, rfl⟩
  go_wp2_with fail
  refine HS.out.mono ?_
  rintro e w' ⟨v, ss, rfl, hp, hrow, _, hb⟩
  have hp2 := hp.trans (by rw [strKeys_nD] : (strKeys (nD (T.nd n).L)).Perm ((T.nd n).L.map Prod.fst))
  have hl := hp2.length_eq
  rw [sorted_is HR.out hp2, hl, List.length_map, nm_row] at hrow
  have HRow := Lib.hid (own_mono hrow (by simp : w.heap.size ≤ (w.alloc (.cells #[.map (some (mb n))] 81)).heap.size))
  have HB := Lib.hid (((Below.refl _ w).alloc (Nat.le_refl _) _).trans (hb.mono (by simp)))
  clear hp hp2 hl hrow hb
  go_wp2
  go_ret2
  exact ⟨v, rfl, HRow.out, HB.out⟩
end
end Go.Proofs.Ytdlglllidolggaa.In
