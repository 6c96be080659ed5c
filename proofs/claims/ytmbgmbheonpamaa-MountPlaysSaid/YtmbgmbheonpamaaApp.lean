/- append at the level of one operation. -/
import Derived.Test.YtmbgmbheonpamaaInB
namespace Go.Proofs.Ytmbgmbheonpamaa.In
open Go.RowKit Go.Maps Go.WideElems
theorem op_append {o : Oper} {a : Act} {w : World} {K : Act → World → Prop} {Q : Exit → Act → World → Prop} (s x : Operand) (t : TypeId) (ho : o.op = .call { callee := .builtin .append, args := #[s, x], argTypes := #[t, t] })
    (v y v' : Value) (w' : World) (hs : a.eval s = v) (hx : a.eval x = y) (hr : (Builtin.append_ #[t, t] o.type #[v, y]).run Try.prog w = .ok v' w') (h : K (a.put o.dst v') w') : Oper.wp Try.prog o a w K Q := by
  unfold Oper.wp execOp
  simp only [ho, resolve, invoke, builtin, Sem.run_bind, Sem.run_pure, Result.andThen_ok, List.map_toArray, List.map_cons, List.map_nil, hs, hx, hr]
  exact h
theorem run_none8 {w : World} (base : Nat) (t ty e : TypeId) (i : TypeInfo) (size : Nat) (ht : Try.prog.underlying t = some (.slice e)) (hi : Try.prog.info? e = some i) (c : Nat) (v : Value) (n : Nat) (xs : List Value) (hown : w.ownsRow base e size v n xs) :
    (Builtin.append_ #[t, t] ty #[v, .slice none 0 c]).run Try.prog w = .ok v w := by
  rcases hown.2 with ⟨rfl, rfl⟩ | ⟨g, cap, cur, rfl, _, _, hnc, _⟩
  · simp [Builtin.append_, run_underlying ht, sizeOf, typeInfo, hi, Builtin.lenOf, Builtin.firstCells]
  · simp [Builtin.append_, run_underlying ht, sizeOf, typeInfo, hi, Builtin.lenOf, Builtin.firstCells, hnc, storeCells]

theorem run_list8 {w : World} (t ty e : TypeId) (zero : Value) (size bytes : Nat) (hinfo : (Try.prog.info? e).map (fun i => (i.zero, i.size, i.bytes)) = some (some zero, size, bytes)) (ht : Try.prog.underlying t = some (.slice e)) (hzs : zero.cells.size = size) (hsz : 0 < size) (hby : bytes ≤ 128)
    (base : Nat) (v : Value) (n : Nat) (xs : List Value) (hown : w.ownsRow base e size v n xs) (A : Option Addr) (m c : Nat) (news : List Value) (hR : Rd w size m A news) (h1 : ∀ u ∈ news, u.oneCell' = true) (hn : n + m ≤ 100000) (hbase : base ≤ w.heap.size) :
    ∃ v' w', (Builtin.append_ #[t, t] ty #[v, .slice A m c]).run Try.prog w = .ok v' w' ∧ w'.ownsRow base e size v' (n + m) (xs ++ news) ∧ w.grownBy w' v.ownBlock ∧ (v'.ownBlock = v.ownBlock ∨ v'.ownBlock = some w.heap.size) := by
  obtain ⟨i0, hi, hz0, hz1, hz2⟩ := info_parts hinfo
  cases A with
  | none =>
    obtain rfl : m = 0 := by
      rcases Nat.eq_zero_or_pos m with h | h
      · exact h
      · obtain ⟨b, o, e, _⟩ := hR.pos h
        cases e
    have hnil : news = [] := by have := hR.len; simp at this; exact this
    subst hnil
    exact ⟨v, w, run_none8 base t ty e i0 size ht hi c v n xs hown, by simpa using hown, ⟨rfl, rfl, rfl, Nat.le_refl _, fun _ _ _ => rfl⟩, .inl rfl⟩
  | some ad =>
    obtain ⟨v', w', h2, h3, h4, _, h5⟩ := run_append_own_at (P := Try.prog) w base t ty e i0 zero size bytes ht hi hz0 hz1 hz2 hzs hsz v n xs hown ad m c news hR.len (fun j u hu => by
      have hlt := (List.getElem?_eq_some_iff.1 hu).1
      rw [hR.len] at hlt
      obtain ⟨b, o, e, hb, hc⟩ := hR.pos (by cases m with | zero => simp at hlt | succ m => omega)
      cases e
      rw [addr_at]; exact hc j u hu) h1 (by unfold maxLen; omega) (by have : (n + m) * bytes ≤ 100000 * 128 := Nat.mul_le_mul hn hby; omega) hbase
    exact ⟨v', w', h2, h3, h4, h5⟩
theorem rd_tk {w : World} {z n m : Nat} {A : Option Addr} {xs : List Value} (h : Rd w z n A xs) (hm : m ≤ n) : Rd w z m A (xs.take (m * z)) := by
  refine ⟨by rw [List.length_take, h.len]; exact Nat.min_eq_left (Nat.mul_le_mul_right z hm), ?_⟩
  rcases h.at_ with e | ⟨b, o, e, hb, hc⟩
  · exact .inl (by omega)
  · refine .inr ⟨b, o, e, hb, fun j u hu => hc j u ?_⟩
    rw [List.getElem?_take] at hu
    split at hu
    · exact hu
    · cases hu
theorem rd_dr {w : World} {z n m : Nat} {a : Addr} {xs : List Value} (h : Rd w z n (some a) xs) (hm : m ≤ n) : Rd w z (n - m) (some (a.add (m * z))) (xs.drop (m * z)) := by
  refine ⟨by rw [List.length_drop, h.len, Nat.sub_mul], ?_⟩
  rcases h.at_ with e | ⟨b, o, e, hb, hc⟩
  · exact .inl (by omega)
  · cases e
    refine .inr ⟨b, o + m * z, by rw [addr_at], hb, fun j u hu => ?_⟩
    rw [List.getElem?_drop] at hu
    have := hc _ u hu
    rwa [← Nat.add_assoc] at this
end Go.Proofs.Ytmbgmbheonpamaa.In
