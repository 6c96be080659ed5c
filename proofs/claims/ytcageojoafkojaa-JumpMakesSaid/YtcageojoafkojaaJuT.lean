/- Tidy by lists; its small walks. -/
import Derived.Test.YtcageojoafkojaaJuC
namespace Go.Proofs.Ytcageojoafkojaa.Ju
open Go.RowKit Go.Maps Go.WideMaps Go.WideElems Go.ChangeMaps
theorem one_alloc (w : World) (o : Obj) : Below w.heap.size w (w.alloc o) := (Below.refl w.heap.size w).alloc (Nat.le_refl _) o
def ClP (l : List PtM) (w : World) (e : Ending) (w' : World) : Prop :=
  ∃ A cp, e = .returned (.slice A l.length cp) ∧ w'.ownsRow w.heap.size 125 7 (.slice A l.length cp) l.length (l.flatMap PtM.cells) ∧ Below w.heap.size w w'
set_option maxRecDepth 100000 in
set_option maxHeartbeats 1000000 in
theorem clone_any (l : List PtM) (n : Nat) (A : Option Addr) (cp : Nat) (w : World) (hl : l.length = n) (hr : Rd w 7 n A (l.flatMap PtM.cells)) (hn : n ≤ 65536) (hA : A = none → n = 0) :
    Calls Try.prog 44 #[.slice A n cp] w (ClP l w) := by
  cases A with
  | none =>
    have h0 := hA rfl
    have hnil := fun (w : World) (n c : Nat) => Lib.run_eql_slice_nil (P := Try.prog) w 65 125 none n c 0 0 Try.underlying65
    obtain rfl : l = [] := List.length_eq_zero_iff.1 (by omega)
    clear hr hl hA hn
    go_enter Try.func44, Try.ntmps44
    go_wp2_with fail
    go_ret
    exact ⟨none, 0, rfl, World.ownsRow_nil _ _ _ _, Below.refl _ _⟩
  | some a =>
    obtain ⟨i0, hi, hz0, hz1, hz2⟩ := info_parts infoPart
    have Hl := Lib.hid hl
    have hlen := flatz_len PtM.cells 7 (fun _ => rfl) l
    rw [hl] at hlen
    have Hlen := Lib.hid hlen
    have Hcell := Lib.hid (show ∀ j u, (l.flatMap PtM.cells)[j]? = some u → w.cell? (a.add j) = some u from fun j u hu => by
      rcases Nat.eq_zero_or_pos n with h0 | h0
      · have := (List.getElem?_eq_some_iff.1 hu).1
        rw [hlen, h0] at this; omega
      · obtain ⟨b, o, he, _, hc⟩ := hr.pos h0
        cases he
        rw [show (⟨b, o, none⟩ : Addr).add j = ⟨b, o + j, none⟩ by unfold Addr.add; split <;> simp_all]
        exact hc j u hu)
    have Hblk := Lib.hid (show 0 < n → a.block < w.heap.size from fun h0 => by
      obtain ⟨b, o, he, h1, hc⟩ := hr.pos h0
      cases he
      exact h1)
    clear hl hr hA
    have hnil := fun (w : World) (a : Addr) (n c : Nat) => Lib.run_eql_slice_nil (P := Try.prog) w 65 125 (some a) n c 0 0 Try.underlying65
    go_enter Try.func44, Try.ntmps44
    have Hown := Lib.hid (World.ownsRow_lit (base := w.heap.size) (e := 125) (size := 7) w #[] 0 (Nat.le_refl _) (by unfold maxLen; omega) rfl)
    have Hc2 := Lib.hid (show ∀ j u, (l.flatMap PtM.cells)[j]? = some u → (w.alloc (.cells #[] 125)).cell? (a.add j) = some u from fun j u hu => by
      have h1 := Hcell.out j u hu
      have h2 := Hblk.out (by
        rcases Nat.eq_zero_or_pos n with h0 | h0
        · have := (List.getElem?_eq_some_iff.1 hu).1
          rw [Hlen.out, h0] at this; omega
        · exact h0)
      rw [← h1]
      exact (one_alloc w _).cell (p := a.add j) (by unfold Addr.add; split <;> exact h2))
    have HB1 := Lib.hid (one_alloc w (.cells #[] 125))
    clear hlen
    go_wp2_with (at_builtin; refine wpList_append_own _ rfl (.tmp 5) (.tmp 6) 65 rfl w.heap.size 125 i0 _ 7 32 Try.underlying65 hi hz0 hz1 hz2 rfl (by decide) _ 0 [] rfl Hown.out a n cp (l.flatMap PtM.cells) rfl Hlen.out Hc2.out (fun u hu => by obtain ⟨x, _, hx⟩ := List.mem_flatMap.1 hu; exact pt_one x u hx) (by unfold maxLen; omega) (by omega) HB1.out.size ?_; intro v' w4 hown' hgrow _; obtain ⟨A', c', rfl, hnc', -, -, -⟩ := own_typed hown'; have Hw := Lib.hid hown'; clear hown')
    go_ret
    rw [Nat.zero_add] at *
    have hw := Hw.out
    simp only [List.nil_append] at hw
    exact ⟨A', c', (by rw [Hl.out]; rfl), (by rw [Hl.out]; exact hw), HB1.out.grown hgrow HB1.out.size (fun k hk => by cases hk; exact Nat.le_refl _)⟩
/-! Lists alone. -/
def endN : Nat → List (Int × Int) → Int → Int
  | 0, _, n => n
  | k + 1, o, n => match lk n o with | none => n | some t => endN k o t
/-- Where a way to a name leads. -/
def endF (o : List (Int × Int)) (n : Int) : Int := endN (cnt o) o n
def InR (n : Int) : Prop := -9223372036854775808 ≤ n ∧ n ≤ 9223372036854775807
def InO (o : List (Int × Int)) : Prop := ∀ e ∈ o, InR e.1 ∧ InR e.2
theorem lk_in {β : Type} {n : Int} {v : β} : ∀ {o : List (Int × β)}, lk n o = some v → (n, v) ∈ o
  | [], h => by simp [lk] at h
  | (m, u) :: o, h => by
    rw [lk_cons] at h
    split at h
    · rename_i e; subst e; cases h; exact List.mem_cons_self
    · exact List.mem_cons_of_mem _ (lk_in h)
theorem endN_in {o : List (Int × Int)} (ho : InO o) : ∀ (k : Nat) (n : Int), InR n → InR (endN k o n)
  | 0, _, h => h
  | k + 1, n, h => by
    unfold endN
    cases hl : lk n o with
    | none => exact h
    | some t => exact endN_in ho k t (ho _ (lk_in hl)).2
theorem tidy_mD : ∀ o : List (Int × Int), Tidy (mD o)
  | [] => tidy_empty
  | _ :: o => (tidy_mD o).put (show WideAt.IsKeyLit (Lit.int .i64 _) from trivial) _
theorem size_mD : ∀ o : List (Int × Int), Maps.size (mD o) = cnt o
  | [] => rfl
  | (n, v) :: o => by
    rw [mD_cons, size_put (tidy_mD o), mD_has, size_mD o]
    rfl
/-- How many go to a name. -/
def gW (n : Int) (W : List (Int × Int)) : Int := (lk n W).getD 0
def cntW (p : PtM) (k : Int) (W : List (Int × Int)) : List (Int × Int) :=
  if p.kd = 3 then (p.el, gW p.el ((p.to, gW p.to W + k) :: W) + k) :: (p.to, gW p.to W + k) :: W
  else if p.kd = 4 then (p.to, gW p.to W + k) :: W else W
/-- All numbers are small. -/
def SmW (b : Nat) (W : List (Int × Int)) : Prop := W.length ≤ b ∧ ∀ e ∈ W, InR e.1 ∧ -(b : Int) ≤ e.2 ∧ e.2 ≤ b
theorem gW_sm {b : Nat} {W : List (Int × Int)} (h : SmW b W) (n : Int) : -(b : Int) ≤ gW n W ∧ gW n W ≤ b := by
  unfold gW
  cases hl : lk n W with
  | none => simp only [Option.getD_none]; omega
  | some v => exact (h.2 _ (lk_in hl)).2
theorem SmW.push {b : Nat} {W : List (Int × Int)} (h : SmW b W) {n k : Int} (hn : InR n) (hk : -1 ≤ k ∧ k ≤ 1) : SmW (b + 1) ((n, gW n W + k) :: W) := by
  have hg := gW_sm h n
  refine ⟨by simp [h.1], fun e he => ?_⟩
  rcases List.mem_cons.1 he with rfl | he
  · exact ⟨hn, by simp only; omega, by simp only; omega⟩
  · have := h.2 e he; exact ⟨this.1, by omega, by omega⟩
theorem cntW_sm {b : Nat} {W : List (Int × Int)} (h : SmW b W) {p : PtM} (hp : p.ok) {k : Int} (hk : -1 ≤ k ∧ k ≤ 1) : SmW (b + 2) (cntW p k W) := by
  unfold cntW
  split
  · exact (h.push ⟨hp.to1, hp.to2⟩ hk).push ⟨hp.el1, hp.el2⟩ hk
  · split
    · have := h.push ⟨hp.to1, hp.to2⟩ hk
      exact ⟨by have := this.1; omega, fun e he => by have := this.2 e he; exact ⟨this.1, by omega, by omega⟩⟩
    · exact ⟨by have := h.1; omega, fun e he => by have := h.2 e he; exact ⟨this.1, by omega, by omega⟩⟩
def endsB (p : PtM) : Bool := decide (p.kd = 4 ∨ p.kd = 2 ∧ p.i.c % 8 = 6)
structure AlM where
  left : List PtM
  ended : Bool
  W : List (Int × Int)
def aliveS (s : AlM) (p : PtM) : AlM :=
  if p.kd = 1 ∧ gW p.to s.W = 0 then s
  else if s.ended = true ∧ p.kd ≠ 1 then ⟨s.left, s.ended, cntW p (-1) s.W⟩
  else ⟨s.left ++ [p], endsB p, s.W⟩
def usesW (l : List PtM) : List (Int × Int) := l.foldl (fun W p => cntW p 1 W) []
def aliveF (l : List PtM) : List PtM := (l.foldl aliveS ⟨[], false, usesW l⟩).left
/-- Is a name among those with which parts begin? -/
def cnB (n : Int) : List PtM → Bool
  | [] => false
  | p :: t => if p.kd ≠ 1 then false else if p.to = n then true else cnB n t
def leavF : List PtM → List PtM
  | [] => []
  | p :: t => if p.kd = 4 ∧ cnB p.to t = true then leavF t else p :: leavF t
def ledP (o : List (Int × Int)) (p : PtM) : PtM :=
  if p.kd = 3 then ⟨p.kd, endF o p.to, endF o p.el, p.i⟩ else if p.kd = 4 then ⟨p.kd, endF o p.to, p.el, p.i⟩ else p
structure LdM where
  l : List PtM
  o : List (Int × Int)
  nx : PtM
def zPt : PtM := ⟨0, 0, 0, ⟨0, 0, 0, 0⟩⟩
def leadS (s : LdM) (k : Nat) : LdM :=
  match s.l[k]? with
  | none => s
  | some p => if p.kd = 1 then (if s.nx.kd = 4 then ⟨s.l, (p.to, s.nx.to) :: s.o, s.nx⟩ else s) else ⟨s.l.set k (ledP s.o p), s.o, ledP s.o p⟩
def leadF (l : List PtM) : List PtM := ((List.range l.length).reverse.foldl leadS ⟨l, [], zPt⟩).l
def roundF (l : List PtM) : List PtM := leavF (aliveF (leadF l))
def tidyN : Nat → List PtM → List PtM
  | 0, l => l
  | k + 1, l => if (roundF l).length = l.length then roundF l else tidyN k (roundF l)
def tidyF (l : List PtM) : List PtM := tidyN (l.length + 1) l
theorem leadS_len (s : LdM) (k : Nat) : (leadS s k).l.length = s.l.length := by
  unfold leadS
  split
  · rfl
  · split
    · split <;> rfl
    · simp
theorem leadL_len (ks : List Nat) : ∀ s : LdM, (ks.foldl leadS s).l.length = s.l.length := by
  induction ks with
  | nil => intro s; rfl
  | cons k ks ih => intro s; rw [List.foldl_cons, ih, leadS_len]
theorem leadF_len (l : List PtM) : (leadF l).length = l.length := leadL_len _ _
theorem aliveS_len (s : AlM) (p : PtM) : (aliveS s p).left.length ≤ s.left.length + 1 := by
  unfold aliveS
  split
  · omega
  · split <;> simp
theorem alive_len' (l : List PtM) : ∀ s : AlM, (l.foldl aliveS s).left.length ≤ s.left.length + l.length := by
  induction l with
  | nil => intro s; simp
  | cons p l ih => intro s; have := ih (aliveS s p); have := aliveS_len s p; rw [List.foldl_cons, List.length_cons]; omega
theorem aliveF_len (l : List PtM) : (aliveF l).length ≤ l.length := by have := alive_len' l ⟨[], false, usesW l⟩; simpa [aliveF] using this
theorem leavF_len : ∀ l : List PtM, (leavF l).length ≤ l.length
  | [] => Nat.le_refl _
  | p :: t => by unfold leavF; have := leavF_len t; split <;> simp <;> omega
theorem roundF_len (l : List PtM) : (roundF l).length ≤ l.length := Nat.le_trans (leavF_len _) (Nat.le_trans (aliveF_len _) (Nat.le_of_eq (leadF_len l)))
theorem tidyN_more : ∀ (k j : Nat) (l : List PtM), l.length < k → l.length < j → tidyN k l = tidyN j l
  | 0, _, _, h, _ => by omega
  | _ + 1, 0, _, _, h => by omega
  | k + 1, j + 1, l, h1, h2 => by
    unfold tidyN
    by_cases e : (roundF l).length = l.length
    · rw [if_pos e, if_pos e]
    · rw [if_neg e, if_neg e]
      have := roundF_len l
      exact tidyN_more k j _ (by omega) (by omega)
theorem tidyF_end {l : List PtM} (h : (roundF l).length = l.length) : tidyF l = roundF l := by unfold tidyF tidyN; rw [if_pos h]
theorem tidyF_on {l : List PtM} (h : (roundF l).length ≠ l.length) : tidyF l = tidyF (roundF l) := by
  have := roundF_len l
  unfold tidyF
  rw [tidyN, if_neg h]
  exact tidyN_more _ _ _ (by omega) (by omega)
/-! What may be. -/
theorem led_ok {o : List (Int × Int)} (ho : InO o) {p : PtM} (hp : p.ok) : (ledP o p).ok := by
  have h1 := endN_in ho (cnt o) p.to ⟨hp.to1, hp.to2⟩
  have h2 := endN_in ho (cnt o) p.el ⟨hp.el1, hp.el2⟩
  unfold ledP
  split
  · exact ⟨hp.kd, h1.1, h1.2, h2.1, h2.2, hp.i⟩
  · split
    · exact ⟨hp.kd, h1.1, h1.2, hp.el1, hp.el2, hp.i⟩
    · exact hp
structure LdOk (s : LdM) : Prop where
  l : ∀ p ∈ s.l, p.ok
  o : InO s.o
  nx : s.nx.ok
theorem leadS_ok {s : LdM} (h : LdOk s) (k : Nat) : LdOk (leadS s k) := by
  unfold leadS
  split
  · exact h
  · rename_i p hp
    have hpo := h.l p (List.mem_of_getElem? hp)
    split
    · split
      · refine ⟨h.l, fun e he => ?_, h.nx⟩
        rcases List.mem_cons.1 he with rfl | he
        · exact ⟨⟨hpo.to1, hpo.to2⟩, ⟨h.nx.to1, h.nx.to2⟩⟩
        · exact h.o e he
      · exact h
    · refine ⟨fun q hq => ?_, h.o, led_ok h.o hpo⟩
      rcases List.mem_or_eq_of_mem_set hq with hq | rfl
      · exact h.l q hq
      · exact led_ok h.o hpo
theorem zPt_ok : zPt.ok := ⟨by decide, by decide, by decide, by decide, by decide, ⟨by decide, by decide, by decide, by decide⟩⟩
theorem leadL_ok (ks : List Nat) : ∀ {s : LdM}, LdOk s → LdOk (ks.foldl leadS s) := by
  induction ks with
  | nil => intro s h; exact h
  | cons k ks ih => intro s h; exact ih (leadS_ok h k)
theorem leadF_ok {l : List PtM} (h : ∀ p ∈ l, p.ok) : ∀ p ∈ leadF l, p.ok := (leadL_ok _ (s := ⟨l, [], zPt⟩) ⟨h, fun e he => by simp at he, zPt_ok⟩).l
theorem alive_sub (l : List PtM) : ∀ (s : AlM), ∀ p ∈ (l.foldl aliveS s).left, p ∈ s.left ∨ p ∈ l := by
  induction l with
  | nil => intro s p h; exact Or.inl h
  | cons q l ih =>
    intro s p h
    rcases ih _ p h with h | h
    · unfold aliveS at h
      split at h
      · exact Or.inl h
      · split at h
        · exact Or.inl h
        · rcases List.mem_append.1 h with h | h
          · exact Or.inl h
          · exact Or.inr (by rw [List.mem_singleton.1 h]; exact List.mem_cons_self)
    · exact Or.inr (List.mem_cons_of_mem _ h)
theorem aliveF_sub {l : List PtM} {p : PtM} (h : p ∈ aliveF l) : p ∈ l := by
  rcases alive_sub l _ p h with h | h
  · simp at h
  · exact h
theorem leavF_sub : ∀ {l : List PtM} {p : PtM}, p ∈ leavF l → p ∈ l
  | [], _, h => h
  | q :: t, p, h => by
    unfold leavF at h
    split at h
    · exact List.mem_cons_of_mem _ (leavF_sub h)
    · rcases List.mem_cons.1 h with rfl | h
      · exact List.mem_cons_self
      · exact List.mem_cons_of_mem _ (leavF_sub h)
theorem roundF_ok {l : List PtM} (h : ∀ p ∈ l, p.ok) : ∀ p ∈ roundF l, p.ok := fun p hp => leadF_ok h p (aliveF_sub (leavF_sub hp))
end Go.Proofs.Ytcageojoafkojaa.Ju

