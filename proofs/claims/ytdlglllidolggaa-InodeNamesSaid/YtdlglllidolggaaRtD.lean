/- The document's Node, dir, at, Look, Name, Len, New. -/
import Derived.Test.YtdlglllidolggaaRtC
import Derived.Test.YtdlglllidolggaaInN
import Derived.Test.YtdlglllidolggaaInK
namespace Go.Proofs.Ytdlglllidolggaa.In
open Go.RowKit Go.Maps Go.WideElems
section
variable {w w' : World} {B tb A k c g : Nat} {T : TrM} {mv nx : Value} {df lf : Nat → Value}
/-- A node's cells, wherever they stand. -/
structure At7 (w : World) (b o : Nat) (x : NdM) (dv lv : Value) : Prop where
  kd : w.cell? ⟨b, o, none⟩ = some (.int .i64 x.kd)
  cdv : w.cell? ⟨b, o + 1, none⟩ = some dv
  clv : w.cell? ⟨b, o + 2, none⟩ = some lv
  par : w.cell? ⟨b, o + 3, none⟩ = some (.int .i64 x.par)
  text : w.cell? ⟨b, o + 4, none⟩ = some (.string x.text)
  links : w.cell? ⟨b, o + 5, none⟩ = some (.int .i64 x.links)
  held : w.cell? ⟨b, o + 6, none⟩ = some (.int .i64 x.held)
  list : ERd w lv x.L
  lt : b < w.heap.size
theorem RtR.at7 (h : RtR w B tb T A k c mv nx df lf) {n : Nat} (hn : n < k) : At7 w A (n * 7) (T.nd n) (df n) (lf n) := by
  obtain ⟨h0, h1, h2, h3, h4, h5, h6⟩ := h.cells7 hn
  exact ⟨h0, h1, h2, h3, h4, h5, h6, h.list n hn, h.tyA.lt⟩
theorem erd_nil (w : World) : ERd w (.slice none 0 0) [] := ⟨none, 0, rfl, Nat.le_refl _, fun _ => rfl, TRd.nil _ _ _⟩
def NodP (w : World) (x : NdM) (e : Ending) (w' : World) : Prop := ∃ b o dv lv, e = .returned (.pointer (some ⟨b, o, none⟩)) ∧ At7 w' b o x dv lv ∧ Below w.heap.size w w'
set_option maxHeartbeats 1000000 in
theorem rnode_in (h : RtR w B tb T A k c mv nx df lf) {n : Nat} (hn : n < k) :
    Calls Try.prog 50 #[tP tb, .int .i64 n] w fun e w' => e = .returned (.pointer (some ⟨A, n * 7, none⟩)) ∧ w = w' := by
  have c0 := h.c0
  have hk := h.kk
  have hl := h.lim
  have hk2 : k ≤ 300 := by omega
  have hd : decide (k ≤ n) = false := decide_eq_false (by omega)
  clear h hk hl
  go_enter Try.func50, Try.ntmps50
  go_wp2
  go_ret
  exact ⟨rfl, rfl⟩
set_option maxHeartbeats 1000000 in
theorem rnode_out (h : RtR w B tb T A k c mv nx df lf) {n : Nat} (hn : k ≤ n) (hn2 : n ≤ 1000000) :
    Calls Try.prog 50 #[tP tb, .int .i64 n] w (NodP w (T.nd n)) := by
  have c0 := h.c0
  have hk := h.kk
  have hl := h.lim
  have hk2 : k ≤ 300 := by omega
  have hd : decide (k ≤ n) = true := decide_eq_true hn
  have HZ := Lib.hid (h.out n (.inr hn))
  clear h hk hl
  go_enter Try.func50, Try.ntmps50
  go_wp2
  go_ret
  rw [HZ.out]
  have hb : Bk (w.alloc (.cells #[.int .i64 0, .slice none 0 0, .slice none 0 0, .int .i64 0, .string ⟨#[]⟩, .int .i64 0, .int .i64 0] 41)) w.heap.size 41 (rnCells ndZ (.slice none 0 0) (.slice none 0 0)) := Bk.new w _ _ rfl
  exact ⟨w.heap.size, 0, _, _, rfl, ⟨hb.cell 0 rfl, hb.cell 1 rfl, hb.cell 2 rfl, hb.cell 3 rfl, hb.cell 4 rfl, hb.cell 5 rfl, hb.cell 6 rfl, erd_nil _, hb.lt⟩, oneb _ _⟩
theorem rnode_any (h : RtR w B tb T A k c mv nx df lf) {n : Nat} (hn2 : n ≤ 1000000) :
    Calls Try.prog 50 #[tP tb, .int .i64 n] w (NodP w (T.nd n)) := by
  by_cases hn : n < k
  · exact (rnode_in h hn).mono fun e w' ⟨he, hw⟩ => by subst hw; exact ⟨A, n * 7, _, _, he, h.at7 hn, Below.refl _ _⟩
  · exact rnode_out h (by omega) hn2
theorem rdir_any (h : RtR w B tb T A k c mv nx df lf) {n : Nat} (hn2 : n ≤ 1000000) :
    Calls Try.prog 55 #[tP tb, .int .i64 n] w fun e w' => e = .returned (.int .i64 (dirE T n)) ∧ Below w.heap.size w w' := by
  have hnd := rnode_any h hn2
  have hkd := (h.ls n).kd
  obtain ⟨q, hq⟩ : ∃ q, q = (T.nd n).kd := ⟨_, rfl⟩
  have HQ := Lib.hid hq
  rw [← hq] at hkd
  clear hq h
  by_cases q0 : q = 0
  · go_enter Try.func55, Try.ntmps55
    go_wp2_with fail
    refine hnd.mono ?_
    rintro e w1 ⟨b, o, dv, lv, rfl, h7, hb⟩
    have a0 := h7.kd
    rw [← HQ.out, q0] at a0
    have Hb := Lib.hid hb
    have Q0 := Lib.hid q0
    clear hb h7 hnd q0
    go_wp2
    go_ret
    exact ⟨by unfold dirE; rw [if_pos (by rw [← HQ.out]; exact Q0.out)]; rfl, Hb.out⟩
  by_cases q2 : q = 2
  · go_enter Try.func55, Try.ntmps55
    go_wp2_with fail
    refine hnd.mono ?_
    rintro e w1 ⟨b, o, dv, lv, rfl, h7, hb⟩
    have a0 := h7.kd
    rw [← HQ.out, q2] at a0
    have Hb := Lib.hid hb
    have Q0 := Lib.hid q0
    have Q2 := Lib.hid q2
    clear hb h7 hnd q0 q2
    go_wp2
    go_ret
    exact ⟨by unfold dirE; rw [if_neg (by rw [← HQ.out]; exact Q0.out), if_pos (by rw [← HQ.out]; exact Q2.out)]; rfl, Hb.out⟩
  · have e0 : ((q : Int) == 0) = false := by simp; omega
    have e2 : ((q : Int) == 2) = false := by simp; omega
    have Q0 := Lib.hid q0
    have Q2 := Lib.hid q2
    clear q0 q2
    go_enter Try.func55, Try.ntmps55
    go_wp2_with fail
    refine hnd.mono ?_
    rintro e w1 ⟨b, o, dv, lv, rfl, h7, hb⟩
    have a0 := h7.kd
    rw [← HQ.out] at a0
    have Hb := Lib.hid hb
    clear hb h7 hnd
    go_wp2
    go_ret
    exact ⟨by unfold dirE; rw [if_neg (by rw [← HQ.out]; exact Q0.out), if_neg (by rw [← HQ.out]; exact Q2.out)]; rfl, Hb.out⟩
/-! Where a name stands. -/
def atF (s : Bs) : Es → Int
  | [] => -1
  | e :: L => if e.1 = s then 0 else if atF s L < 0 then -1 else atF s L + 1
theorem atF_ge (s : Bs) : ∀ L : Es, -1 ≤ atF s L
  | [] => by show (-1 : Int) ≤ -1; decide
  | e :: L => by unfold atF; have := atF_ge s L; split; omega; split <;> omega
theorem atF_none {s : Bs} : ∀ {L : Es}, (∀ e ∈ L, e.1 ≠ s) → atF s L = -1
  | [], _ => rfl
  | e :: L, h => by
    unfold atF
    rw [if_neg (h e (by simp)), atF_none (fun x hx => h x (by simp [hx]))]; decide
theorem atF_some {s : Bs} : ∀ {L : Es} {i : Nat} {e : Bs × Nat}, L[i]? = some e → e.1 = s → (∀ j x, j < i → L[j]? = some x → x.1 ≠ s) → atF s L = i
  | [], _, _, h, _, _ => by simp at h
  | x :: L, 0, e, h, he, _ => by
    simp at h; subst h
    unfold atF; rw [if_pos he]; rfl
  | x :: L, i + 1, e, h, he, hn => by
    have ih := atF_some (L := L) (i := i) (by simpa using h) he (fun j y hj hy => hn (j + 1) y (by omega) (by simpa using hy))
    unfold atF
    rw [if_neg (hn 0 x (by omega) rfl), ih, if_neg (by omega)]; push_cast; rfl
theorem en_at {L : Es} {i : Nat} {e : Bs × Nat} (h : L[i]? = some e) : (L.flatMap enC)[i * 2]? = some (.string ⟨e.1.toArray⟩) ∧ (L.flatMap enC)[i * 2 + 1]? = some (.int .i64 e.2) := by
  have key : ∀ (L : Es) (i j : Nat), j < 2 → (L.flatMap enC)[i * 2 + j]? = (L[i]?).bind (fun x => (enC x)[j]?) := by
    intro L
    induction L with
    | nil => intro i j _; simp
    | cons x L ih =>
      intro i j hj
      rw [List.flatMap_cons]
      cases i with
      | zero => rw [List.getElem?_append_left (by show _ < 2; omega)]; simp
      | succ i => rw [List.getElem?_append_right (by show 2 ≤ _; omega), show (i + 1) * 2 + j - (enC x).length = i * 2 + j from by show (i + 1) * 2 + j - 2 = _; omega, ih i j hj]; simp
  have h0 := key L i 0 (by omega)
  have h1 := key L i 1 (by omega)
  rw [h] at h0 h1
  exact ⟨h0, h1⟩
theorem ERd.at_ {lv : Value} {L : Es} (h : ERd w lv L) : ∃ b o q, (L.length = 0 ∧ lv = .slice q 0 (match lv with | .slice _ _ c => c | _ => 0) ∨ ∃ c, lv = .slice (some ⟨b, o, none⟩) L.length c ∧ ∀ i e, L[i]? = some e → w.cell? ⟨b, o + i * 2, none⟩ = some (.string ⟨e.1.toArray⟩) ∧ w.cell? ⟨b, o + i * 2 + 1, none⟩ = some (.int .i64 e.2)) := by
  obtain ⟨A1, c, rfl, h1, h2, h3⟩ := h
  rcases h3.rd.at_ with h0 | ⟨b, o, e, _, hc⟩
  · exact ⟨0, 0, A1, .inl ⟨h0, by rw [h0]⟩⟩
  · refine ⟨b, o, none, .inr ⟨c, by rw [e], fun i e he => ?_⟩⟩
    obtain ⟨q1, q2⟩ := en_at he
    exact ⟨hc _ _ q1, by have := hc _ _ q2; rwa [← Nat.add_assoc] at this⟩
end
end Go.Proofs.Ytdlglllidolggaa.In
