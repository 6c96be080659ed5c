/- The next word of a line's text: what the closure answers, and where it stands behind it. -/
import Derived.Test.YthjbenjnhdgalaaDoorTake
import Derived.Test.YthjbenjnhdgalaaDoorHas
namespace Go.Proofs.YthjbenjnhdgalaaDoor
open Go.RowKit
theorem begunB_lt (c : Nat) : 1 ≤ begunB c ∧ begunB c ≤ 4 := begunB_pos c
def tokV (k : Nat) (t : Bs) (n ln col : Nat) : Value := .agg #[.int .u8 k, .string ⟨t.toArray⟩, .int .u64 n, .int .i64 ln, .int .i64 col]
/-- What the closures share: the place, the text, the first closure. -/
structure Cut (w : World) (B bt ba bk : Nat) (s : Bs) (a : Nat) : Prop where
  txt : Bk w bt 9 [.string ⟨s.toArray⟩]
  pos : Bk w ba 3 [.int .i64 (a : Int)]
  tk : Bk w bk 80 [.func (.func 43) #[] #[.pointer (some ⟨ba, 0, none⟩), .pointer (some ⟨bt, 0, none⟩)]]
  ne1 : bt ≠ ba
  ne2 : bk ≠ ba
  hB : B ≤ ba
  ha : a ≤ s.length
theorem Cut.grown {w w' : World} {B bt ba bk : Nat} {s : Bs} {a a' : Nat} (h : Cut w B bt ba bk s a) (hg : w.grownBy w' (some ba)) (hp : Bk w' ba 3 [.int .i64 (a' : Int)]) (ha' : a' ≤ s.length) : Cut w' B bt ba bk s a' :=
  ⟨h.txt.grown hg (fun e => h.ne1 (Option.some.inj e)), hp, h.tk.grown hg (fun e => h.ne2 (Option.some.inj e)), h.ne1, h.ne2, h.hB, ha'⟩
theorem Cut.grown' {w w' : World} {B bt ba bk g : Nat} {s : Bs} {a : Nat} (h : Cut w B bt ba bk s a) (hg : w.grownBy w' (some g)) (h1 : ba ≠ g) (h2 : bt ≠ g) (h3 : bk ≠ g) : Cut w' B bt ba bk s a :=
  ⟨h.txt.grown hg (fun e => h2 (Option.some.inj e)), h.pos.grown hg (fun e => h1 (Option.some.inj e)), h.tk.grown hg (fun e => h3 (Option.some.inj e)), h.ne1, h.ne2, h.hB, h.ha⟩
theorem Cut.below {w w' : World} {B bt ba bk : Nat} {s : Bs} {a : Nat} (h : Cut w B bt ba bk s a) (hb : Below w.heap.size w w') : Cut w' B bt ba bk s a :=
  ⟨h.txt.kept hb, h.pos.kept hb, h.tk.kept hb, h.ne1, h.ne2, h.hB, h.ha⟩
theorem take_p {w : World} {B bt ba bk : Nat} {s : Bs} {a : Nat} (h : Cut w B bt ba bk s a) (hs : s.length ≤ 70000) :
    Calls Tryd.prog 43 #[.func (.func 45) #[] #[], .pointer (some ⟨ba, 0, none⟩), .pointer (some ⟨bt, 0, none⟩)] w (TakePost isP s a ba w) :=
  take_parts s a ba bt w hs h.ha h.pos h.txt h.ne1 (fun c W _ => parts_any c W)
theorem take_k {w : World} {B bt ba bk : Nat} {s : Bs} {a k : Nat} (hk : 1 ≤ k ∧ k ≤ 4) (h : Cut w B bt ba bk s a) (hs : s.length ≤ 70000) :
    Calls Tryd.prog 43 #[.func (.func 47) #[.int .u8 k] #[], .pointer (some ⟨ba, 0, none⟩), .pointer (some ⟨bt, 0, none⟩)] w (TakePost (hasB k) s a ba w) :=
  take_has k s a ba bt w hs h.ha h.pos h.txt h.ne1 (fun c W hc => has_any k c hk hc W)
/-- What the next word is: of the text from a on; whether there is one; where it stands behind it. -/
def Nx (s : Bs) (a k : Nat) (t : Bs) (col : Nat) (ok : Bool) (a' : Nat) : Prop :=
  match nextS (s.drop a) with
  | none => ok = false
  | some (k', t', g, _) => ok = true ∧ k = k' ∧ t = t' ∧ col = a + g + 1 ∧ a' = a + g + t.length
def NextPost (s : Bs) (a B bt ba bk : Nat) (w : World) (e : Ending) (w' : World) : Prop :=
  ∃ (k : Nat) (t : Bs) (col : Nat) (ok : Bool) (a' : Nat), e = .returned (.tuple #[.agg #[.int .u8 k, .string ⟨t.toArray⟩, .int .u64 0, .int .i64 0, .int .i64 col], .bool ok]) ∧ Nx s a k t col ok a' ∧ Cut w' B bt ba bk s a' ∧ w.grownBy w' (some ba)
theorem next_none {s : Bs} {a : Nat} (h : a + (tw isP (s.drop a)).length = s.length) : nextS (s.drop a) = none := by
  unfold nextS
  have : dw isP (s.drop a) = [] := by
    rw [dw_drop, List.drop_drop, h, List.drop_length]
  rw [this]
theorem next_some {s : Bs} {a : Nat} {c : UInt8} (h : s[a + (tw isP (s.drop a)).length]? = some c) :
    nextS (s.drop a) = some (begunB c.toNat, tw (hasB (begunB c.toNat)) (s.drop (a + (tw isP (s.drop a)).length)), (tw isP (s.drop a)).length, dw (hasB (begunB c.toNat)) (s.drop (a + (tw isP (s.drop a)).length))) := by
  have hd : dw isP (s.drop a) = s.drop (a + (tw isP (s.drop a)).length) := by rw [dw_drop, List.drop_drop]
  obtain ⟨h1, h2⟩ := List.getElem?_eq_some_iff.1 h
  have hc : s.drop (a + (tw isP (s.drop a)).length) = c :: s.drop (a + (tw isP (s.drop a)).length + 1) := by rw [List.drop_eq_getElem_cons h1, h2]
  unfold nextS
  rw [hd]
  rw [hc]
theorem wrap_i (n : Int) : IntKind.i64.wrap n = wrap64 n := by
  simp [IntKind.wrap, IntKind.bits, IntKind.signed, wrap64]
  split <;> omega
theorem grown_alloc {w w' : World} {o : Obj} {r : Option Nat} (h : (w.alloc o).grownBy w' r) : w.grownBy w' r :=
  ⟨h.os, h.tape, h.output, by have := h.size; simp at this; omega, fun i hi hn => (h.block i (by simp; omega) hn).trans (Below.heap_alloc w o i hi)⟩
theorem grown_drew {w w' : World} {n : Nat} {r : Option Nat} (h : (w.drewN n).grownBy w' r) : w.grownBy w' r :=
  ⟨h.os, h.tape, h.output, h.size, h.block⟩
theorem grown_new {w w' w'' : World} {r : Option Nat} {g : Nat} (h : w.grownBy w' r) (k : w'.grownBy w'' (some g)) (hg : w.heap.size ≤ g) : w.grownBy w'' r :=
  ⟨k.os.trans h.os, k.tape.trans h.tape, k.output.trans h.output, Nat.le_trans h.size k.size, fun i hi hn => (k.block i (Nat.lt_of_lt_of_le hi h.size) (fun e => by have := Option.some.inj e; omega)).trans (h.block i hi hn)⟩
theorem next_good {s : Bs} {a a1 a2 col B bt ba bk : Nat} {c : UInt8} {w w' : World} {e : Ending} (h1 : a1 = a + (tw isP (s.drop a)).length) (hc : s[a1]? = some c) (h2 : a2 = a1 + (tw (hasB (begunB c.toNat)) (s.drop a1)).length) (h3 : col = a1 + 1)
    (he : e = .returned (.tuple #[tokV (begunB c.toNat) (tw (hasB (begunB c.toNat)) (s.drop a1)) 0 0 col, .bool true])) (hC : Cut w' B bt ba bk s a2) (hg : w.grownBy w' (some ba)) : NextPost s a B bt ba bk w e w' := by
  subst h1 h2 h3
  unfold NextPost
  refine ⟨_, _, _, _, _, he, ?_, hC, hg⟩
  unfold Nx
  rw [next_some hc]
  exact ⟨rfl, rfl, rfl, rfl, rfl⟩
theorem next_over {s : Bs} {a a1 B bt ba bk : Nat} {w w' : World} {e : Ending} (h1 : a1 = a + (tw isP (s.drop a)).length) (hc : a1 = s.length)
    (he : e = .returned (.tuple #[tokV 0 [] 0 0 0, .bool false])) (hC : Cut w' B bt ba bk s a1) (hg : w.grownBy w' (some ba)) : NextPost s a B bt ba bk w e w' := by
  subst h1
  unfold NextPost
  refine ⟨0, [], 0, false, _, he, ?_, hC, hg⟩
  unfold Nx
  rw [next_none hc]
def zT : Array Value := #[.int .u8 0, .string ⟨#[]⟩, .int .u64 0, .int .i64 0, .int .i64 0]
set_option maxHeartbeats 2000000 in
set_option maxRecDepth 100000 in
theorem next_any (s : Bs) (a B bt ba bk : Nat) (w : World) (hs : s.length ≤ 70000) (hC : Cut w B bt ba bk s a) :
    Calls Tryd.prog 44 #[.pointer (some ⟨bk, 0, none⟩), .pointer (some ⟨ba, 0, none⟩), .pointer (some ⟨bt, 0, none⟩)] w (NextPost s a B bt ba bk w) := by
  have HC := Lib.hid hC
  have Hs := Lib.hid hs
  have hc0 := hC.tk.cell 0 rfl
  have ha := hC.ha
  have hkl := hC.tk.lt
  have hal := hC.pos.lt
  have htl := hC.txt.lt
  have hne : w.heap.size ≠ ba := by omega
  have hne2 : bt ≠ w.heap.size := by omega
  have hne3 : bk ≠ w.heap.size := by omega
  have HC1 := Lib.hid (hC.below ((Below.refl _ _).alloc (Nat.le_refl _) (.cells zT 35)))
  clear hC
  go_enter Tryd.func44, Tryd.ntmps44
  go_wp2_with fail
  refine (take_p HC1.out hs).mono ?_
  rintro e w1 ⟨rfl, hp1, hg1⟩
  obtain ⟨a1, ha1⟩ : ∃ a1, a1 = a + (tw isP (s.drop a)).length := ⟨_, rfl⟩
  rw [← ha1] at hp1
  have hal1 : a1 ≤ s.length := by have := tw_len isP (s.drop a); rw [List.length_drop] at this; omega
  have HC2 := Lib.hid (HC1.out.grown hg1 hp1 hal1)
  have hZ : Bk w1 w.heap.size 35 zT.toList := Bk.grown (Bk.new w _ _ rfl) hg1 (fun e => hne (Option.some.inj e))
  have HZ := Lib.hid hZ
  have hz0 := hZ.lt
  have HG1 := Lib.hid hg1
  have Ha1 := Lib.hid ha1
  have hA := hp1.cell 0 rfl
  have hT := HC2.out.txt.cell 0 rfl
  have hK := HC2.out.tk.cell 0 rfl
  have hkl := HC2.out.tk.lt
  have hal := HC2.out.pos.lt
  have htl := HC2.out.txt.lt
  have hsz : (⟨s.toArray⟩ : ByteArray).size = s.length := by rw [Lib.size_eq]
  clear hg1 hp1 ha1 hZ hc0
  by_cases hend : a1 = s.length
  · have he1 : ((a1 : Int) == (s.length : Int)) = true := by rw [hend]; simp
    have HZ2 := HZ
    have hz0 := HZ2.out.lt
    have z0 := HZ2.out.fz 0
    have z1 := HZ2.out.fz 1
    have z2 := HZ2.out.fz 2
    have z3 := HZ2.out.fz 3
    have z4 := HZ2.out.fz 4
    have y0 := HZ2.out.cell 0 rfl
    have y1 := HZ2.out.cell 1 rfl
    have y2 := HZ2.out.cell 2 rfl
    have y3 := HZ2.out.cell 3 rfl
    have y4 := HZ2.out.cell 4 rfl
    have Hend := Lib.hid hend
    clear hend
    go_wp2_with fail
    have HZ5 := Lib.hid (((((HZ2.out.set 0 (.int .u8 0)).set 1 (.string ⟨#[]⟩)).set 2 (.int .u64 0)).set 3 (.int .i64 0)).set 4 (.int .i64 0))
    have HG5 := Lib.hid (show w1.grownBy _ (some w.heap.size) from only_trans (only_trans (only_trans (only_trans (only_set w1 w.heap.size 0 (.int .u8 0)) (only_set _ _ 1 (.string ⟨#[]⟩))) (only_set _ _ 2 (.int .u64 0))) (only_set _ _ 3 (.int .i64 0))) (only_set _ _ 4 (.int .i64 0)))
    clear y0 y1 y2 y3 y4 z0 z1 z2 z3 z4 hz0
    revert HZ5 HG5
    generalize World.setCell _ _ _ = w5
    intro HZ5 HG5
    have hz0 := HZ5.out.lt
    have y0 := HZ5.out.cell 0 rfl
    have y1 := HZ5.out.cell 1 rfl
    have y2 := HZ5.out.cell 2 rfl
    have y3 := HZ5.out.cell 3 rfl
    have y4 := HZ5.out.cell 4 rfl
    refine bodyPost_ret (v := .tuple #[tokV 0 [] 0 0 0, .bool false]) ?_ rfl ?_
    · simp [results, Tryd.results44, go_sem, tokV, y0, y1, y2, y3, y4]
    · exact next_over Ha1.out Hend.out rfl (HC2.out.grown' HG5.out (fun e => hne e.symm) hne2 hne3) (grown_new (grown_alloc HG1.out) HG5.out (Nat.le_refl _))
  · obtain ⟨c, hc⟩ : ∃ c, s[a1]? = some c := ⟨_, List.getElem?_eq_getElem (by omega)⟩
    have hidx := fun W => idx_at s a1 c hc W
    have he1 : ((a1 : Int) == (s.length : Int)) = false := by rw [beq_eq_false_iff_ne]; omega
    obtain ⟨col, hcol⟩ : ∃ col, col = a1 + 1 := ⟨_, rfl⟩
    have hw : IntKind.i64.wrap ((a1 : Int) + 1) = (col : Int) := by rw [wrap_i]; unfold wrap64; omega
    have Hcol := Lib.hid hcol
    have Hc := Lib.hid hc
    have hcl : col ≤ 70001 := by omega
    clear hc hend hcol
    go_wp2_with fail
    go_quiet ((go_at_call 46; exact quiet_l ((begun_any c.toNat _).mono fun _ _ h => h)))
    go_wp2_with fail
    refine (take_k (begunB_pos _) (HC2.out.below (below_drewN (Below.refl _ _) _)) Hs.out).mono ?_
    rintro e w2 ⟨rfl, hp2, hg2⟩
    obtain ⟨a2, ha2⟩ : ∃ a2, a2 = a1 + (tw (hasB (begunB c.toNat)) (s.drop a1)).length := ⟨_, rfl⟩
    rw [← ha2] at hp2
    have hal2 : a2 ≤ s.length := by have := tw_len (hasB (begunB c.toNat)) (s.drop a1); rw [List.length_drop] at this; omega
    have HC3 := Lib.hid ((HC2.out.below (below_drewN (Below.refl _ _) nq)).grown hg2 hp2 hal2)
    have HZ2 := Lib.hid (Bk.grown (HZ.out.drewN nq) hg2 (fun e => hne (Option.some.inj e)))
    have hz0 := HZ2.out.lt
    have z0 := HZ2.out.fz 0
    have z1 := HZ2.out.fz 1
    have z2 := HZ2.out.fz 2
    have z3 := HZ2.out.fz 3
    have z4 := HZ2.out.fz 4
    have y0 := HZ2.out.cell 0 rfl
    have y1 := HZ2.out.cell 1 rfl
    have y2 := HZ2.out.cell 2 rfl
    have y3 := HZ2.out.cell 3 rfl
    have y4 := HZ2.out.cell 4 rfl
    have HG2 := Lib.hid hg2
    have Ha2 := Lib.hid ha2
    clear hp2 hg2 ha2
    go_wp2_with fail
    have HZ5 := Lib.hid (((((HZ2.out.set 0 (.int .u8 (begunB c.toNat))).set 1 (.string ⟨(tw (hasB (begunB c.toNat)) (s.drop a1)).toArray⟩)).set 2 (.int .u64 0)).set 3 (.int .i64 0)).set 4 (.int .i64 col))
    have HG5 := Lib.hid (show w2.grownBy _ (some w.heap.size) from only_trans (only_trans (only_trans (only_trans (only_set w2 w.heap.size 0 (.int .u8 (begunB c.toNat))) (only_set _ _ 1 (.string ⟨(tw (hasB (begunB c.toNat)) (s.drop a1)).toArray⟩))) (only_set _ _ 2 (.int .u64 0))) (only_set _ _ 3 (.int .i64 0))) (only_set _ _ 4 (.int .i64 col)))
    clear y0 y1 y2 y3 y4 z0 z1 z2 z3 z4 hz0
    revert HZ5 HG5
    generalize World.setCell _ _ _ = w5
    intro HZ5 HG5
    have hz0 := HZ5.out.lt
    have y0 := HZ5.out.cell 0 rfl
    have y1 := HZ5.out.cell 1 rfl
    have y2 := HZ5.out.cell 2 rfl
    have y3 := HZ5.out.cell 3 rfl
    have y4 := HZ5.out.cell 4 rfl
    refine bodyPost_ret (v := .tuple #[tokV (begunB c.toNat) (tw (hasB (begunB c.toNat)) (s.drop a1)) 0 0 col, .bool true]) ?_ rfl ?_
    · simp [results, Tryd.results44, go_sem, tokV, y0, y1, y2, y3, y4]
    · refine next_good Ha1.out Hc.out Ha2.out Hcol.out rfl (HC3.out.grown' HG5.out (fun e => hne e.symm) hne2 hne3) ?_
      exact grown_new (only_trans (grown_alloc HG1.out) (grown_drew HG2.out)) HG5.out (Nat.le_refl _)
end Go.Proofs.YthjbenjnhdgalaaDoor
