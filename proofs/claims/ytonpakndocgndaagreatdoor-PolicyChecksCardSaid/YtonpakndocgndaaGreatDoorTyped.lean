/- Rows told apart by their blocks' types; one thing behind a row. -/
import Derived.Test.YtonpakndocgndaaGreatDoorPolM
import Derived.Test.YtonpakndocgndaaGreatDoorRow
import Derived.Laws.AppendOwnNone
namespace Go.Proofs.YtonpakndocgndaaGreatDoor
open Go.RowKit Go.WideElems
theorem oneb (w : World) (o : Obj) : Below w.heap.size w (w.alloc o) := (Below.refl _ _).alloc (Nat.le_refl _) _
theorem addr_at (b o j : Nat) : (⟨b, o, none⟩ : Addr).add j = ⟨b, o + j, none⟩ := by unfold Addr.add; split <;> simp_all
/-- A block of things of a type. -/
def TyB (w : World) (b : Nat) (T : TypeId) : Prop := ∃ cur fz, w.heap[b]? = some (.cells cur T fz)
theorem TyB.lt {w : World} {b : Nat} {T : TypeId} (h : TyB w b T) : b < w.heap.size := by obtain ⟨_, _, h⟩ := h; exact (Array.getElem?_eq_some_iff.1 h).1
theorem TyB.ne {w : World} {b c : Nat} {T U : TypeId} (h : TyB w b T) (k : TyB w c U) (hn : T ≠ U) : b ≠ c := by
  rintro rfl
  obtain ⟨_, _, h⟩ := h
  obtain ⟨_, _, k⟩ := k
  rw [h] at k
  cases k
  exact hn rfl
theorem Bk.tyb {w : World} {g t : Nat} {l : List Value} (h : Bk w g t l) : TyB w g t := ⟨_, _, h⟩
theorem TyB.below {w w' : World} {b : Nat} {T : TypeId} (h : TyB w b T) (hb : Below w.heap.size w w') : TyB w' b T := by
  obtain ⟨c, f, h⟩ := h
  exact ⟨c, f, (hb.block b (Array.getElem?_eq_some_iff.1 h).1).trans h⟩
/-- A slice that reads so, in a block of a type. -/
structure TRd (w : World) (T : TypeId) (z n : Nat) (A : Option Addr) (xs : List Value) : Prop where
  rd : Rd w z n A xs
  ty : n = 0 ∨ ∃ a, A = some a ∧ TyB w a.block T
theorem TRd.nil (w : World) (T : TypeId) (z : Nat) : TRd w T z 0 none [] := ⟨Rd.nil _ _ _, .inl rfl⟩
theorem TRd.below {w w' : World} {T : TypeId} {z n : Nat} {A : Option Addr} {xs : List Value} (h : TRd w T z n A xs) (hb : Below w.heap.size w w') : TRd w' T z n A xs :=
  ⟨h.rd.below hb, h.ty.imp id fun ⟨a, e, k⟩ => ⟨a, e, k.below hb⟩⟩
theorem TRd.grown {w w' : World} {T : TypeId} {z n g : Nat} {A : Option Addr} {xs : List Value} (h : TRd w T z n A xs) (hg : w.grownBy w' (some g)) (ho : Off n A g) : TRd w' T z n A xs :=
  ⟨h.rd.grownO ho hg, by
    rcases h.ty with e | ⟨a, e, c, f, k⟩
    · exact .inl e
    · rcases ho with e2 | ho
      · exact .inl e2
      · exact .inr ⟨a, e, c, f, (hg.block _ (Array.getElem?_eq_some_iff.1 k).1 (fun e2 => ho a e (Option.some.inj e2))).trans k⟩⟩
theorem TRd.grownN {w w' : World} {T : TypeId} {z n : Nat} {A : Option Addr} {xs : List Value} (h : TRd w T z n A xs) (hg : w.grownBy w' none) : TRd w' T z n A xs :=
  h.below ⟨hg.os, hg.tape, hg.output, hg.size, fun i hi => hg.block i hi (by simp)⟩
theorem TRd.off {w : World} {T U : TypeId} {z n g : Nat} {A : Option Addr} {xs : List Value} (h : TRd w T z n A xs) (k : TyB w g U) (hn : T ≠ U) : Off n A g :=
  h.ty.imp id fun ⟨a, e, c⟩ b hb => by cases e.symm.trans hb; exact c.ne k hn
theorem TRd.offlt {w : World} {T : TypeId} {z n g : Nat} {A : Option Addr} {xs : List Value} (h : TRd w T z n A xs) (hg : w.heap.size ≤ g) : Off n A g := h.rd.off hg
/-- What a call owns: where it lies, of which type. -/
theorem own_typed {w : World} {base : Nat} {e : TypeId} {z n : Nat} {v : Value} {xs : List Value} (h : w.ownsRow base e z v n xs) :
    ∃ A c, v = .slice A n c ∧ n ≤ c ∧ TRd w e z n A xs ∧ (∀ g, v.ownBlock = some g → TyB w g e) ∧ (A = none → c = 0) := by
  rcases h.2 with ⟨rfl, rfl⟩ | ⟨g, cap, cur, rfl, hb, hh, hn, hm, hs, rfl⟩
  · exact ⟨none, 0, rfl, Nat.le_refl _, ⟨⟨h.1, .inl rfl⟩, .inl rfl⟩, fun g hg => (by cases hg), fun _ => rfl⟩
  · refine ⟨_, cap, rfl, hn, ⟨⟨h.1, .inr ⟨g, 0, rfl, (Array.getElem?_eq_some_iff.1 hh).1, fun j u hu => ?_⟩⟩, .inr ⟨_, rfl, _, _, hh⟩⟩, fun g' hg' => ?_, fun e => by cases e⟩
    · have := h.cells (g := g) rfl j u hu
      rw [← this, addr_at]
    · cases hg'
      exact ⟨_, _, hh⟩
theorem own_keep {w w' : World} {base : Nat} {e : TypeId} {z n g : Nat} {v : Value} {xs : List Value} (h : w.ownsRow base e z v n xs) (hg : w.grownBy w' (some g)) (hne : ∀ b, v.ownBlock = some b → b ≠ g) : w'.ownsRow base e z v n xs := by
  refine ⟨h.1, h.2.imp id ?_⟩
  rintro ⟨b, cap, cur, e, h1, h2, h3⟩
  refine ⟨b, cap, cur, e, h1, ?_, h3⟩
  rw [hg.block b (Array.getElem?_eq_some_iff.1 h2).1 (fun q => hne b (by subst e; rfl) (Option.some.inj q))]
  exact h2
theorem own_keepN {w w' : World} {base : Nat} {e : TypeId} {z n : Nat} {v : Value} {xs : List Value} (h : w.ownsRow base e z v n xs) (hg : Below w.heap.size w w') : w'.ownsRow base e z v n xs := own_below h hg
/-- One thing behind a row that the call owns. -/
theorem append_one {w : World} {ops : Array Oper} {rest : List Oper} {o : Oper} {a : Act} {Q : Exit → Act → World → Prop} (hgd : o.guard = none) (s x : Operand) (t e : TypeId)
    (ho : o.op = .call { callee := .builtin .append, args := #[s, x], argTypes := #[t, t] }) (zero : Value) (size bytes : Nat)
    (hinfo : (Tryz.prog.info? e).map (fun i => (i.zero, i.size, i.bytes)) = some (some zero, size, bytes)) (ht : Tryz.prog.underlying t = some (.slice e)) (hzs : zero.cells.size = size) (hsz : 0 < size) (hby : bytes ≤ 64)
    (base : Nat) (v : Value) (n : Nat) (xs : List Value) (hs : a.eval s = v) (hown : w.ownsRow base e size v n xs) (g : Nat) (news : List Value) (hx : a.eval x = .slice (some ⟨g, 0, none⟩) 1 1) (hl : news.length = size) (hB : Bk w g e news) (h1 : ∀ u ∈ news, u.oneCell' = true) (hn : n ≤ 100000) (hbase : base ≤ w.heap.size)
    (h : ∀ v' w', w'.ownsRow base e size v' (n + 1) (xs ++ news) → w.grownBy w' v.ownBlock → (v'.ownBlock = v.ownBlock ∨ v'.ownBlock = some w.heap.size) → wpList Tryz.prog ops Q rest (a.put o.dst v') w') : wpList Tryz.prog ops Q (o :: rest) a w := by
  obtain ⟨i0, hi, hz0, hz1, hz2⟩ := info_parts hinfo
  refine wpList_append_own_at w hgd s x t ho base e i0 zero size bytes ht hi hz0 hz1 hz2 hzs hsz v n xs hs hown ⟨g, 0, none⟩ 1 1 news hx (by omega) (fun j u hu => by rw [addr_at, Nat.zero_add]; exact hB.cell j hu) h1 (by unfold maxLen; omega) ?_ hbase (fun v' w' h1 h2 _ h3 => h v' w' h1 h2 h3)
  have : (n + 1) * bytes ≤ 100001 * 64 := Nat.mul_le_mul (by omega) hby
  omega
/-- What a row's append leaves of another row, by the types of their blocks. -/
theorem TRd.appended {w w' : World} {T U : TypeId} {z n : Nat} {A : Option Addr} {xs : List Value} {v : Value} (h : TRd w T z n A xs) (hg : w.grownBy w' v.ownBlock) (hv : ∀ g, v.ownBlock = some g → TyB w g U) (hn : T ≠ U) : TRd w' T z n A xs := by
  cases hb : v.ownBlock with
  | none => rw [hb] at hg; exact h.grownN hg
  | some g => rw [hb] at hg; exact h.grown hg (h.off (hv g hb) hn)
theorem own_appended {w w' : World} {base : Nat} {e U : TypeId} {z n : Nat} {v u : Value} {xs : List Value} (h : w.ownsRow base e z u n xs) (hg : w.grownBy w' v.ownBlock) (hv : ∀ g, v.ownBlock = some g → TyB w g U) (hn : e ≠ U) : w'.ownsRow base e z u n xs := by
  cases hb : v.ownBlock with
  | none => rw [hb] at hg; exact own_below h ⟨hg.os, hg.tape, hg.output, hg.size, fun i hi => hg.block i hi (by simp)⟩
  | some g =>
    rw [hb] at hg
    obtain ⟨_, _, _, _, _, hty, _⟩ := own_typed h
    exact own_keep h hg (fun b hb2 => (hty b hb2).ne (hv g hb) hn)
theorem Bk.appended {w w' : World} {g t : Nat} {l : List Value} {U : TypeId} {v : Value} (h : Bk w g t l) (hg : w.grownBy w' v.ownBlock) (hv : ∀ b, v.ownBlock = some b → TyB w b U) (hn : t ≠ U) : Bk w' g t l := by
  refine h.grown hg ?_
  cases hb : v.ownBlock with
  | none => simp
  | some b => intro e; exact (h.tyb.ne (hv b hb) hn) (Option.some.inj e)
theorem Bk.appendedB {w w' : World} {g t B : Nat} {l : List Value} {v : Value} (h : Bk w g t l) (hg : w.grownBy w' v.ownBlock) (hv : ∀ b, v.ownBlock = some b → B ≤ b) (hn : g < B) : Bk w' g t l := by
  refine h.grown hg ?_
  intro e
  have := hv g e.symm
  omega
theorem infoRC : (Tryz.prog.info? 65).map (fun i => (i.zero, i.size, i.bytes)) = some (some (.agg #[.int .i64 0, .int .i64 0, .int .u64 0, .int .u64 0]), 4, 32) := by kernel_rfl
theorem infoRR : (Tryz.prog.info? 109).map (fun i => (i.zero, i.size, i.bytes)) = some (some (.agg #[.int .u32 0, .int .u32 0, .slice none 0 0]), 3, 32) := by kernel_rfl
theorem infoRB : (Tryz.prog.info? 113).map (fun i => (i.zero, i.size, i.bytes)) = some (some (.agg #[.string ⟨#[]⟩, .int .i64 0]), 2, 24) := by kernel_rfl
theorem infoRP : (Tryz.prog.info? 116).map (fun i => (i.zero, i.size, i.bytes)) = some (some (.agg #[.int .i64 0, .int .i64 0]), 2, 16) := by kernel_rfl
theorem infoPC : (Tryz.prog.info? 39).map (fun i => (i.zero, i.size, i.bytes)) = some (some (.agg #[.int .i64 0, .int .u8 0, .int .u64 0, .int .u64 0]), 4, 32) := by kernel_rfl
theorem infoPR : (Tryz.prog.info? 47).map (fun i => (i.zero, i.size, i.bytes)) = some (some (.agg #[.int .u32 0, .int .u32 0, .slice none 0 0]), 3, 32) := by kernel_rfl
theorem infoPB : (Tryz.prog.info? 49).map (fun i => (i.zero, i.size, i.bytes)) = some (some (.agg #[.string ⟨#[]⟩, .int .u16 0]), 2, 24) := by kernel_rfl
theorem infoPP : (Tryz.prog.info? 51).map (fun i => (i.zero, i.size, i.bytes)) = some (some (.agg #[.int .u16 0, .int .u16 0]), 2, 4) := by kernel_rfl
end Go.Proofs.YtonpakndocgndaaGreatDoor
