/- Words as cells: five each. -/
import Derived.Test.YthjbenjnhdgalaaDoorValue
import Derived.Test.YthjbenjnhdgalaaDoorSeg
import Derived.Test.YthjbenjnhdgalaaDoorRow
import Derived.ProofKit
import Derived.Maps.AppendAt
import Derived.Laws.AppendOwnNone
namespace Go.Proofs.YthjbenjnhdgalaaDoor
open Go.RowKit Go.ChangeShapes Go.WideShapes Go.ChangeAt Go.WideElems
def Tok.cells (x : Tok) : List Value := [.int .u8 x.k, .string ⟨x.t.toArray⟩, .int .u64 x.n, .int .i64 x.line, .int .i64 x.col]
def flatT (L : List Tok) : List Value := L.flatMap Tok.cells
theorem flatT_len (L : List Tok) : (flatT L).length = L.length * 5 := by
  induction L with
  | nil => rfl
  | cons x L ih => simp only [flatT, List.flatMap_cons, List.length_append, List.length_cons, Tok.cells] at ih ⊢; rw [ih]; simp; omega
theorem flatT_app (L M : List Tok) : flatT (L ++ M) = flatT L ++ flatT M := by simp [flatT]
theorem flatT_one (x : Tok) : flatT [x] = x.cells := by simp [flatT]
theorem cells_oneT (x : Tok) : ∀ u ∈ x.cells, u.oneCell' = true := by
  intro u hu
  simp only [Tok.cells, List.mem_cons, List.not_mem_nil, or_false] at hu
  rcases hu with rfl | rfl | rfl | rfl | rfl <;> rfl
theorem flat_oneT (L : List Tok) : ∀ u ∈ flatT L, u.oneCell' = true := by
  intro u hu
  obtain ⟨x, _, hx⟩ := List.mem_flatMap.1 hu
  exact cells_oneT x u hx
theorem tok_at : ∀ (l : List Tok) (k j : Nat), j < 5 → (flatT l)[k * 5 + j]? = (l[k]?).bind (fun x => x.cells[j]?)
  | [], k, j, _ => by simp [flatT]
  | x :: l, k, j, hj => by
    rw [flatT, List.flatMap_cons]
    cases k with
    | zero => rw [List.getElem?_append_left (by simp [Tok.cells]; omega)]; simp
    | succ k =>
      rw [List.getElem?_append_right (by simp [Tok.cells]; omega), show (x.cells).length = 5 from rfl, show (k + 1) * 5 + j - 5 = k * 5 + j from by omega]
      have := tok_at l k j hj
      rw [flatT] at this
      rw [this]
      simp
/-- The five cells of the k-th. -/
theorem five_cells {w : World} {l : List Tok} {b o k : Nat} {x : Tok} (h : ∀ j u, (flatT l)[j]? = some u → w.cell? ⟨b, o + j, none⟩ = some u) (hx : l[k]? = some x) :
    w.cell? ⟨b, o + k * 5, none⟩ = some (.int .u8 x.k) ∧ w.cell? ⟨b, o + k * 5 + 1, none⟩ = some (.string ⟨x.t.toArray⟩) ∧ w.cell? ⟨b, o + k * 5 + 2, none⟩ = some (.int .u64 x.n) ∧ w.cell? ⟨b, o + k * 5 + 3, none⟩ = some (.int .i64 x.line) ∧ w.cell? ⟨b, o + k * 5 + 4, none⟩ = some (.int .i64 x.col) := by
  have hh : ∀ j, j < 5 → ∀ u, x.cells[j]? = some u → w.cell? ⟨b, o + k * 5 + j, none⟩ = some u := fun j hj u hu => by
    rw [Nat.add_assoc]; exact h _ _ (by rw [tok_at l k j hj, hx]; exact hu)
  exact ⟨hh 0 (by omega) _ rfl, hh 1 (by omega) _ rfl, hh 2 (by omega) _ rfl, hh 3 (by omega) _ rfl, hh 4 (by omega) _ rfl⟩
theorem infoTok : (Tryd.prog.info? 35).map (fun i => (i.zero, i.size, i.bytes)) = some (some (.agg #[.int .u8 0, .string ⟨#[]⟩, .int .u64 0, .int .i64 0, .int .i64 0]), 5, 48) := by kernel_rfl
theorem add_at' (b o j : Nat) : (⟨b, o, none⟩ : Addr).add j = ⟨b, o + j, none⟩ := by unfold Addr.add; split <;> simp_all
theorem bk_news {w : World} {g t : Nat} {l : List Value} (h : Bk w g t l) : ∀ j u, l[j]? = some u → w.cell? ((⟨g, 0, none⟩ : Addr).add j) = some u := fun j u hu => by rw [add_at', Nat.zero_add]; exact h.cell j hu
theorem bk_new_at {l : List Value} {n : Nat} (w : World) (T : TypeId) (a : Array Value) (h : a = l.toArray) (hn : n = w.heap.size) : Bk (w.alloc (.cells a T)) n T l := by subst hn; exact Bk.new w T a h
theorem below_more {w w' : World} (h : Below w.heap.size w w') (o : Obj) : Below w.heap.size w (w'.alloc o) := h.alloc h.size o
/-- One list of words behind another one: append of any slice. -/
theorem append_toks {w : World} {ops : Array Oper} {rest : List Oper} {o : Oper} {a : Act} {Q : Exit → Act → World → Prop} (hgd : o.guard = none) (s x : Operand)
    (ho : o.op = .call { callee := .builtin .append, args := #[s, x], argTypes := #[26, 26] }) (base : Nat) (v : Value) (n : Nat) (xs : List Value) (hs : a.eval s = v) (hown : w.ownsRow base 35 5 v n xs)
    (L : List Tok) (A : Option Addr) (m c : Nat) (hm : L.length = m) (hx : a.eval x = .slice A m c) (hR : Rd w 5 m A (flatT L)) (hnil : A = none → c = 0) (hn : n + m ≤ 10000000000) (hbase : base ≤ w.heap.size)
    (h : ∀ v' w', w'.ownsRow base 35 5 v' (n + m) (xs ++ flatT L) → w.grownBy w' v.ownBlock → (v'.ownBlock = v.ownBlock ∨ v'.ownBlock = some w.heap.size) → wpList Tryd.prog ops Q rest (a.put o.dst v') w') : wpList Tryd.prog ops Q (o :: rest) a w := by
  obtain ⟨i0, hi, hz0, hz1, hz2⟩ := info_parts infoTok
  subst hm
  cases A with
  | none =>
    obtain rfl := hnil rfl
    have hL : L = [] := by
      rcases hR.at_ with e | ⟨b, o, e, _⟩
      · exact List.length_eq_zero_iff.1 e
      · cases e
    subst hL
    refine wpList_append_own_none hgd s x 26 ho base 35 i0 5 Tryd.underlying26 hi v n xs hs hown hx ?_
    exact h v w (by simpa [flatT] using hown) (only_refl w _) (.inl rfl)
  | some ad =>
    refine wpList_append_own_at w hgd s x 26 ho base 35 i0 _ 5 48 Tryd.underlying26 hi hz0 hz1 hz2 rfl (by decide) v n xs hs hown ad L.length c (flatT L) hx (by rw [flatT_len]) ?_ (flat_oneT L) (by unfold maxLen; omega) (by omega) hbase (fun v' w' h1 h2 _ h3 => h v' w' h1 h2 h3)
    rcases hR.at_ with e | ⟨b, o, e, _, hc⟩
    · have hL : L = [] := List.length_eq_zero_iff.1 e
      subst hL
      intro j u hu
      simp [flatT] at hu
    · cases e
      intro j u hu
      rw [add_at']
      exact hc j u hu
end Go.Proofs.YthjbenjnhdgalaaDoor
