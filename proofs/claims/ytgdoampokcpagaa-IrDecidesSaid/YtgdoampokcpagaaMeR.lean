/- Does a rule speak of a call: the program's way and the document's; a call as rules see it. -/
import Derived.Test.YtgdoampokcpagaaMeH
namespace Go.Proofs.Ytgdoampokcpagaa.Me
open Go.RowKit Go.WideElems
theorem rcond_cells {w : World} {b o k : Nat} {l : List CondM} {x : CondM} (hc : ∀ k x, l[k]? = some x → ∀ j v, (CondM.rcells x)[j]? = some v → w.cell? ⟨b, o + (k * 4 + j), none⟩ = some v) (h : l[k]? = some x) :
    w.cell? ⟨b, o + k * 4, none⟩ = some (.int .i64 x.arg) ∧ w.cell? ⟨b, o + k * 4 + 1, none⟩ = some (.int .i64 x.op) ∧ w.cell? ⟨b, o + k * 4 + 2, none⟩ = some (.int .u64 x.mask) ∧ w.cell? ⟨b, o + k * 4 + 3, none⟩ = some (.int .u64 x.val) :=
  ⟨by have := hc k x h 0 _ rfl; simpa using this, by have := hc k x h 1 _ rfl; simpa [Nat.add_assoc] using this, by have := hc k x h 2 _ rfl; simpa [Nat.add_assoc] using this, by have := hc k x h 3 _ rfl; simpa [Nat.add_assoc] using this⟩
theorem mat_num {num act : Nat} {cs : List CondM} {x : RcM} (h : num ≠ x.num) : matB ⟨num, act, cs⟩ x = false := by
  unfold matB; rw [decide_eq_false h]; rfl
theorem mat_all {num act : Nat} {cs : List CondM} {x : RcM} (h : num = x.num) : matB ⟨num, act, cs⟩ x = cs.all fun c => holdB c x := by
  unfold matB; rw [decide_eq_true h, Bool.true_and]
theorem all_end {cs : List CondM} {x : RcM} {k : Nat} (hk : cs.length ≤ k) (h : ∀ c ∈ cs.take k, holdB c x = true) : (cs.all fun c => holdB c x) = true := by
  rw [List.take_of_length_le hk] at h
  exact List.all_eq_true.2 h
theorem all_bad {cs : List CondM} {x : RcM} {k : Nat} {c : CondM} (h : cs[k]? = some c) (hb : holdB c x = false) : (cs.all fun c => holdB c x) = false := by
  rw [List.all_eq_false]
  exact ⟨c, List.mem_of_getElem? h, by simp [hb]⟩
theorem all_on {cs : List CondM} {x : RcM} {k : Nat} {c : CondM} (h : ∀ c ∈ cs.take k, holdB c x = true) (hc : cs[k]? = some c) (hb : holdB c x = true) : ∀ c ∈ cs.take (k + 1), holdB c x = true := by
  intro y hy
  rw [List.take_add_one, hc] at hy
  rcases List.mem_append.1 hy with hy | hy
  · exact h y hy
  · simp only [Option.toList_some, List.mem_singleton] at hy; subst hy; exact hb
set_option maxHeartbeats 4000000 in
set_option maxRecDepth 100000 in
theorem matches_any (num act : Nat) (cs : List CondM) (A : Option Addr) (n cap : Nat) (x : RcM) (w : World) (hcs : ∀ c ∈ cs, c.ok) (hn : cs.length = n) (hl : n ≤ maxLen) (hR : Rd w 4 n A (cs.flatMap CondM.cells)) (hx : x.ok) :
    Calls Try.prog 39 #[.agg #[.int .u32 num, .int .u32 act, .slice A n cap], .agg #[.int .u32 x.num, .int .u32 x.arch, .int .u64 x.at_, .int .u64 x.a0, .int .u64 x.a1, .int .u64 x.a2, .int .u64 x.a3, .int .u64 x.a4, .int .u64 x.a5]] w (RetB (matB ⟨num, act, cs⟩ x) w) := by
  have hl' : n ≤ 9223372036854775807 := hl
  obtain ⟨hk1, hk2, hb⟩ := two_new w #[.int .u32 num, .int .u32 act, .slice A n cap] #[.int .u32 x.num, .int .u32 x.arch, .int .u64 x.at_, .int .u64 x.a0, .int .u64 x.a1, .int .u64 x.a2, .int .u64 x.a3, .int .u64 x.a4, .int .u64 x.a5] 56 49 (la := [.int .u32 num, .int .u32 act, .slice A n cap]) (lb := x.cells) rfl rfl
  have HR := Lib.hid (hR.below hb)
  have HC := Lib.hid hcs
  have HN := Lib.hid hn
  clear hR hcs hn hl
  go_enter Try.func39, Try.ntmps39
  go_upto_region 1 with fail
  generalize (w.alloc _).alloc _ = w2 at hk1 hk2 hb HR ⊢
  have HB0 := Lib.hid hb
  have q0 := hk1.cell 0 rfl
  have q2 := hk1.cell 2 rfl
  have y0 := hk2.cell 0 rfl
  have hlt1 := hk1.lt
  have hlt2 := hk2.lt
  have HK1 := Lib.hid hk1
  have HK2 := Lib.hid hk2
  clear hk1 hk2 hb
  by_cases hnum : num = x.num
  · have e1 : ((num : Int) != (x.num : Int)) = false := bne_f hnum
    have HV0 := Lib.hid (mat_all (act := act) (cs := cs) hnum)
    have HX := Lib.hid hx
    clear hnum hx
    go_wp2_with fail
    clear e1 q0 q2 y0
    go_loopw [15] (fun iv wr => ∃ k : Nat, iv = .int .i64 k ∧ k ≤ n ∧ Hid (∀ c ∈ cs.take k, holdB c x = true) ∧ Hid (Below w2.heap.size w2 wr)) (fun iv _ => n - (intOf iv).toNat)
    case atStart => exact ⟨0, rfl, Nat.zero_le _, Lib.hid (by simp), Below.refl _ _⟩
    case round =>
      obtain ⟨k, rfl, hk, HF, HB⟩ := hrel
      have hs := HB.out.size
      have hlw1 := Nat.lt_of_lt_of_le hlt1 hs
      have hlw2 := Nat.lt_of_lt_of_le hlt2 hs
      clear hs
      have q2 := (HK1.out.kept HB.out).cell 2 rfl
      have y0 := (HK2.out.kept HB.out).cell 0 rfl
      have y1 := (HK2.out.kept HB.out).cell 1 rfl
      have y2 := (HK2.out.kept HB.out).cell 2 rfl
      have y3 := (HK2.out.kept HB.out).cell 3 rfl
      have y4 := (HK2.out.kept HB.out).cell 4 rfl
      have y5 := (HK2.out.kept HB.out).cell 5 rfl
      have y6 := (HK2.out.kept HB.out).cell 6 rfl
      have y7 := (HK2.out.kept HB.out).cell 7 rfl
      have y8 := (HK2.out.kept HB.out).cell 8 rfl
      by_cases hlt : k < n
      · obtain ⟨c, hc⟩ : ∃ c, cs[k]? = some c := ⟨_, List.getElem?_eq_getElem (by have := HN.out; omega)⟩
        obtain ⟨b, o, hA, hbl, hcell⟩ := (HR.out.below HB.out).one (fun _ => rfl) (by omega) (by omega)
        subst hA
        obtain ⟨c0, c1, c2, c3⟩ := cond_cells hcell hc
        have hcok := HC.out c (List.mem_of_getElem? hc)
        have hck := Lib.hid (fun W => holds_any c.arg c.op c.mask c.val x W hcok.2.2.1 hcok.2.2.2.1 HX.out)
        have HXc := Lib.hid hc
        clear hcell hc hcok
        go_wp2_with fail
        refine (hck.out _).mono ?_
        clear hck c0 c1 c2 c3
        rintro e w3 ⟨rfl, hb3⟩
        have HB3 := Lib.hid ((HB.out.alloc HB.out.size (.cells #[.int .i64 c.arg, .int .u8 c.op, .int .u64 c.mask, .int .u64 c.val] 66)).trans (hb3.mono (by have := HB.out.size; simp; omega)))
        clear hb3
        have hce : (⟨c.arg, c.op, c.mask, c.val⟩ : CondM) = c := rfl
        rw [hce]
        clear hce y0 y1 y2 y3 y4 y5 y6 y7 y8 q2
        cases hz : holdB c x with
        | true =>
          have HF2 := Lib.hid (all_on HF.out HXc.out hz)
          clear hz
          go_wp2_with fail
          go_roundw
          case rel => exact ⟨k + 1, by go_num, by omega, HF2, HB3⟩
          case measure => simp [intOf]; omega
        | false =>
          have HV := Lib.hid (HV0.out.trans (all_bad HXc.out hz))
          clear hz
          go_wp2_with fail
          go_ret
          exact retb HV.out rfl (HB0.out.trans (HB3.out.mono HB0.out.size))
      · have HV := Lib.hid (HV0.out.trans (all_end (by have := HN.out; omega) HF.out))
        go_wp2_with fail
        go_ret
        exact retb HV.out rfl (HB0.out.trans (HB.out.mono HB0.out.size))
  · have e1 : ((num : Int) != (x.num : Int)) = true := bne_t hnum
    have HV := Lib.hid (mat_num (act := act) (cs := cs) hnum)
    clear hnum hx
    go_wp2_with fail
    go_ret
    exact retb HV.out rfl HB0.out
end Go.Proofs.Ytgdoampokcpagaa.Me

