/- A text's words. -/
import Derived.Test.YthjbenjnhdgalaaDoorLineW
import Derived.Lib.Split
namespace Go.Proofs.YthjbenjnhdgalaaDoor
open Go.RowKit
def strs (ws : List Bs) : List Value := ws.map fun x => Value.string ⟨x.toArray⟩
theorem strs_len (ws : List Bs) : (strs ws).length = ws.length := by simp [strs]
theorem strs_snoc (ws : List Bs) (x : Bs) : strs ws ++ [.string ⟨x.toArray⟩] = strs (ws ++ [x]) := by simp [strs]
theorem strs_at {ws : List Bs} {k : Nat} {x : Bs} (h : ws[k]? = some x) : (strs ws)[k]? = some (.string ⟨x.toArray⟩) := by simp [strs, h]
theorem Seg.grownO {w w' : World} {B z n : Nat} {A : Option Addr} {xs : List Value} {r : Option Nat} (h : Seg w B z n A xs) (hg : w.grownBy w' r) (hr : n ≠ 0 → ∀ a, A = some a → r ≠ some a.block) : Seg w' B z n A xs := by
  refine ⟨h.len, ?_⟩
  by_cases hn : n = 0
  · exact .inl hn
  · rcases h.at_ with e | ⟨b, o, e, h0, hl, hc⟩
    · exact .inl e
    · refine .inr ⟨b, o, e, h0, Nat.lt_of_lt_of_le hl hg.size, fun j u hu => ?_⟩
      rw [← hc j u hu]
      unfold World.cell?
      rw [hg.block b hl (fun e' => hr hn _ e e'.symm)]
theorem lines_len (s : Bs) : (lines s).length ≤ s.length + 1 := by
  induction s with
  | nil => simp [lines]
  | cons c t ih =>
    unfold lines
    split
    · simpa using ih
    · split
      · rename_i h r e; rw [e] at ih; simp at ih ⊢; omega
      · simp
theorem lines_mem (s : Bs) : ∀ l ∈ lines s, l.length ≤ s.length ∧ ∀ c ∈ l, c ∈ s := by
  induction s with
  | nil => intro l hl; simp [lines] at hl; subst hl; simp
  | cons c t ih =>
    intro l hl
    unfold lines at hl
    split at hl
    · rcases List.mem_cons.1 hl with rfl | hl
      · simp
      · obtain ⟨h1, h2⟩ := ih l hl
        exact ⟨by simp; omega, fun c hc => List.mem_cons_of_mem _ (h2 c hc)⟩
    · split at hl
      · rename_i h r e
        rcases List.mem_cons.1 hl with rfl | hl
        · obtain ⟨h1, h2⟩ := ih h (by rw [e]; simp)
          refine ⟨by simp; omega, fun d hd => ?_⟩
          rcases List.mem_cons.1 hd with rfl | hd
          · simp
          · exact List.mem_cons_of_mem _ (h2 d hd)
        · obtain ⟨h1, h2⟩ := ih l (by rw [e]; simp [hl])
          exact ⟨by simp; omega, fun c hc => List.mem_cons_of_mem _ (h2 c hc)⟩
      · rename_i e; exact absurd e (lines_ne t)
def SplitPost (s : Bs) (w : World) (e : Ending) (w' : World) : Prop :=
  ∃ A : Nat, e = .returned (.slice (some ⟨A, 0, none⟩) (lines s).length (lines s).length) ∧ Seg w' w.heap.size 1 (lines s).length (some ⟨A, 0, none⟩) (strs (lines s)) ∧ Below w.heap.size w w'
theorem split_any (s : ByteArray) (w : World) (hs : s.size ≤ 65536) (hE : Env w) : Calls Tryd.prog 18 #[.string s, .string ⟨#[10]⟩] w (SplitPost s.data.toList w) := by
  obtain ⟨m, hm⟩ := hE.ml
  have hl := splitB_lines s
  have hlen : Lib.countB s ⟨#[10]⟩ + 1 = (lines s.data.toList).length := by
    rw [← hl, List.length_map, Lib.splitB_all ⟨#[10]⟩ (by decide) 0 _ s rfl]
  have hst : (Lib.splitB ⟨#[10]⟩ 0 (Lib.countB s ⟨#[10]⟩) s).map Value.string = strs (lines s.data.toList) := by
    rw [← hl]
    unfold strs
    rw [List.map_map]
    exact List.map_congr_left (fun x _ => by simp)
  refine (Tryd.strings_Split s ⟨#[10]⟩ m w (by omega) hm (by decide)).mono ?_
  rintro e w' ⟨he, hw⟩
  rw [hlen] at he
  rw [hst] at hw
  subst hw
  exact ⟨w.heap.size, he, (Bk.new w _ _ rfl).seg (by simp [strs]) (Nat.le_refl _), (Below.refl _ _).alloc (Nat.le_refl _) _⟩
theorem neq_wr (a b : Wr) (w : World) : (binOp .neq 39 (.agg #[.int .i64 a.l, .int .i64 a.c, .int .i64 a.e]) (.agg #[.int .i64 b.l, .int .i64 b.c, .int .i64 b.e])).run Tryd.prog w = .ok (.bool (!decide (a = b))) w := by
  rw [run_neq_struct, run_equalIn_agg w 9999 _ _ _ (by simp [Program.fieldsOf, Tryd.underlying39]) (by kernel_rfl)]
  obtain ⟨a1, a2, a3⟩ := a
  obtain ⟨b1, b2, b3⟩ := b
  by_cases h1 : a1 = b1 <;> by_cases h2 : a2 = b2 <;> by_cases h3 : a3 = b3 <;> simp [Op.eqFields, Program.fieldsOf, Tryd.underlying39, go_sem, h1, h2, h3] <;> omega
theorem eql_wr (a b : Wr) (w : World) : (binOp .eql 39 (.agg #[.int .i64 a.l, .int .i64 a.c, .int .i64 a.e]) (.agg #[.int .i64 b.l, .int .i64 b.c, .int .i64 b.e])).run Tryd.prog w = .ok (.bool (decide (a = b))) w := by
  rw [run_eql_struct, run_equalIn_agg w 9999 _ _ _ (by simp [Program.fieldsOf, Tryd.underlying39]) (by kernel_rfl)]
  obtain ⟨a1, a2, a3⟩ := a
  obtain ⟨b1, b2, b3⟩ := b
  by_cases h1 : a1 = b1 <;> by_cases h2 : a2 = b2 <;> by_cases h3 : a3 = b3 <;> simp [Op.eqFields, Program.fieldsOf, Tryd.underlying39, go_sem, h1, h2, h3] <;> omega
theorem lexF_len (ln : Nat) : ∀ (f : Nat) (s : Bs) (a : Nat), (lexF ln f s a).1.length ≤ s.length
  | 0, _, _ => by simp [lexF]
  | f + 1, s, a => by
    cases hn : nextS s with
    | none => rw [lexF_none hn]; simp
    | some x =>
      obtain ⟨k, t, g, r⟩ := x
      by_cases hv : (valB k t).2 = 0
      · have hl := nextS_len hn
        have ht := List.length_pos_iff.2 (next_pos hn hv)
        rw [lexF_step hn hv]
        have := lexF_len ln f r (a + g + t.length)
        simp
        omega
      · rw [lexF_bad hn hv]; simp
theorem lineB_len (ln : Nat) (l : Bs) : (lineB ln l).1.length ≤ l.length + 1 := by
  have h1 := lexF_len ln ((cutH l).length + 1) (cutH l) 0
  have h2 := cutH_len l
  unfold lineB lineR
  split
  · simp
  · split
    · simp
    · simp; omega
theorem lexL_bad {ls : List Bs} {k : Nat} {l : Bs} {acc : List Tok} (h : ls[k]? = some l) (he : (lineB (k + 1) l).2 ≠ noW) : lexL (ls.drop k) k acc = ([], (lineB (k + 1) l).2) := by
  obtain ⟨a1, e1⟩ := List.getElem?_eq_some_iff.1 h
  rw [List.drop_eq_getElem_cons a1, e1, lexL, if_pos he]
theorem lexL_on {ls : List Bs} {k : Nat} {l : Bs} {acc : List Tok} (h : ls[k]? = some l) (he : (lineB (k + 1) l).2 = noW) : lexL (ls.drop k) k acc = lexL (ls.drop (k + 1)) (k + 1) (acc ++ (lineB (k + 1) l).1) := by
  obtain ⟨a1, e1⟩ := List.getElem?_eq_some_iff.1 h
  rw [List.drop_eq_getElem_cons a1, e1, lexL, if_neg (by simpa using he)]
theorem own_slice {w : World} {base : Nat} {e : TypeId} {z n : Nat} {v : Value} {xs : List Value} (h : w.ownsRow base e z v n xs) :
    ∃ A c, v = .slice A n c ∧ n ≤ c ∧ Rd w z n A xs ∧ (A = none → c = 0) := by
  rcases h.2 with ⟨rfl, rfl⟩ | ⟨g, cap, cur, rfl, hb, hh, hn, hm, hs, rfl⟩
  · exact ⟨none, 0, rfl, Nat.le_refl _, ⟨h.1, .inl rfl⟩, fun _ => rfl⟩
  · refine ⟨_, cap, rfl, hn, ⟨h.1, .inr ⟨g, 0, rfl, (Array.getElem?_eq_some_iff.1 hh).1, fun j u hu => ?_⟩⟩, fun e => by cases e⟩
    have := h.cells (g := g) rfl j u hu
    rw [← this]
    simp [Addr.add]
    by_cases hj : j = 0 <;> simp [hj]
structure PsL (w : World) (A : Nat) (Ls : List Bs) (L : List Tok) (v : Value) (wr : World) : Prop where
  lin : Seg wr (w.heap.size + 1) 1 Ls.length (some ⟨A, 0, none⟩) (strs Ls)
  wrg : Bk wr w.heap.size 39 wr0
  own : wr.ownsRow w.heap.size 35 5 v L.length (flatT L)
  apart : ∀ g, v.ownBlock = some g → g ≠ A ∧ g ≠ w.heap.size
  lt : w.heap.size < A ∧ A < wr.heap.size
  bel : Below w.heap.size w wr
theorem PsL.kept {w wr w' : World} {A : Nat} {Ls : List Bs} {L : List Tok} {v : Value} (h : PsL w A Ls L v wr) (hb : Below wr.heap.size wr w') : PsL w A Ls L v w' :=
  ⟨h.lin.below hb, h.wrg.kept hb, own_below h.own hb, h.apart, ⟨h.lt.1, Nat.lt_of_lt_of_le h.lt.2 hb.size⟩, h.bel.trans (hb.mono h.bel.size)⟩
theorem PsL.put {w wr w' : World} {A : Nat} {Ls : List Bs} {L M : List Tok} {v v' : Value} (h : PsL w A Ls L v wr) (hown : w'.ownsRow w.heap.size 35 5 v' (L.length + M.length) (flatT L ++ flatT M))
    (hg : wr.grownBy w' v.ownBlock) (hat : v'.ownBlock = v.ownBlock ∨ v'.ownBlock = some wr.heap.size) : PsL w A Ls (L ++ M) v' w' := by
  have hlt := h.lt
  have hl4 := h.wrg.lt
  refine ⟨Seg.grownO h.lin hg (fun hn a ha e => by cases ha; exact (h.apart _ e).1 rfl), h.wrg.grown hg (fun e => (h.apart _ e.symm).2 rfl), by rw [flatT_app, List.length_append]; exact hown, fun g hg' => ?_, ⟨hlt.1, Nat.lt_of_lt_of_le hlt.2 hg.size⟩, h.bel.grown hg h.bel.size (fun g hg' => (h.own.lt g hg').1)⟩
  rcases hat with e | e
  · exact h.apart g (e ▸ hg')
  · rw [e] at hg'; have := Option.some.inj hg'; omega
end Go.Proofs.YthjbenjnhdgalaaDoor
