/- Slices by their blocks' types; frames in which only blocks of some kinds have turned. -/
import Derived.Test.YtmbgmbheonpamaaSeg
import Derived.Laws.AppendOwnNone
import Derived.Maps.OwnSet
import Derived.Maps.OwnOps
namespace Go.Proofs.Ytmbgmbheonpamaa.In
open Go.RowKit Go.WideElems
def Off (n : Nat) (A : Option Addr) (t : Nat) : Prop := n = 0 ∨ ∀ a, A = some a → a.block ≠ t
theorem rd_grownO {w w' : World} {z n t : Nat} {A : Option Addr} {xs : List Value} (h : Rd w z n A xs) (ho : Off n A t) (g : w.grownBy w' (some t)) : Rd w' z n A xs :=
  ⟨h.len, by
    rcases ho with e | ho
    · exact .inl e
    · refine h.at_.imp id fun ⟨b, o, e, hl, hc⟩ => ⟨b, o, e, Nat.lt_of_lt_of_le hl g.size, fun j u hu => ?_⟩
      rw [← hc j u hu]
      unfold World.cell?
      rw [g.block b hl (fun h => ho _ e (Option.some.inj h))]⟩
theorem oneb (w : World) (o : Obj) : Below w.heap.size w (w.alloc o) := (Below.refl _ _).alloc (Nat.le_refl _) _
theorem addr_at (b o j : Nat) : (⟨b, o, none⟩ : Addr).add j = ⟨b, o + j, none⟩ := by unfold Addr.add; split <;> simp_all
/-- A block of things of a type. -/
def TyB (w : World) (b : Nat) (T : TypeId) : Prop := ∃ cur fz, w.heap[b]? = some (.cells cur T fz)
theorem TyB.lt {w : World} {b : Nat} {T : TypeId} (h : TyB w b T) : b < w.heap.size := by obtain ⟨_, _, h⟩ := h; exact (Array.getElem?_eq_some_iff.1 h).1
theorem TyB.ne {w : World} {b c : Nat} {T U : TypeId} (h : TyB w b T) (k : TyB w c U) (hn : T ≠ U) : b ≠ c := by
  rintro rfl
  obtain ⟨_, _, h⟩ := h
  obtain ⟨_, _, k⟩ := k
  rw [h] at k
  cases k
  exact hn rfl
theorem bk_tyb {w : World} {g t : Nat} {l : List Value} (h : Bk w g t l) : TyB w g t := ⟨_, _, h⟩
theorem TyB.same {w w' : World} {b : Nat} {T : TypeId} (h : TyB w b T) (hb : w'.heap[b]? = w.heap[b]?) : TyB w' b T := by
  obtain ⟨c, f, h⟩ := h; exact ⟨c, f, hb.trans h⟩
theorem TyB.below {w w' : World} {b : Nat} {T : TypeId} (h : TyB w b T) (hb : Below w.heap.size w w') : TyB w' b T := h.same (hb.block b h.lt)
/-- A slice that reads so, in a block of a type. -/
structure TRd (w : World) (T : TypeId) (z n : Nat) (A : Option Addr) (xs : List Value) : Prop where
  rd : Rd w z n A xs
  ty : n = 0 ∨ ∃ a, A = some a ∧ TyB w a.block T
theorem TRd.nil (w : World) (T : TypeId) (z : Nat) : TRd w T z 0 none [] := ⟨Rd.nil _ _ _, .inl rfl⟩
theorem TRd.below {w w' : World} {T : TypeId} {z n : Nat} {A : Option Addr} {xs : List Value} (h : TRd w T z n A xs) (hb : Below w.heap.size w w') : TRd w' T z n A xs :=
  ⟨h.rd.below hb, h.ty.imp id fun ⟨a, e, k⟩ => ⟨a, e, k.below hb⟩⟩
/-- It stays where its block does. -/
theorem TRd.same {w w' : World} {T : TypeId} {z n : Nat} {A : Option Addr} {xs : List Value} (h : TRd w T z n A xs) (hs : w.heap.size ≤ w'.heap.size) (hb : ∀ b, TyB w b T → w'.heap[b]? = w.heap[b]?) : TRd w' T z n A xs := by
  refine ⟨⟨h.rd.len, ?_⟩, h.ty.imp id fun ⟨a, e, k⟩ => ⟨a, e, k.same (hb _ k)⟩⟩
  rcases h.ty with e | ⟨a, e, k⟩
  · exact .inl e
  · refine h.rd.at_.imp id fun ⟨b, o, e2, hl, hc⟩ => ⟨b, o, e2, Nat.lt_of_lt_of_le hl hs, fun j u hu => ?_⟩
    rw [← hc j u hu]
    obtain rfl : a = ⟨b, o, none⟩ := Option.some.inj (e.symm.trans e2)
    unfold World.cell?
    rw [hb b k]
/-- What a call owns: where it lies, of which type. -/
theorem own_typed {w : World} {base : Nat} {e : TypeId} {z n : Nat} {v : Value} {xs : List Value} (h : w.ownsRow base e z v n xs) :
    ∃ A c, v = .slice A n c ∧ n ≤ c ∧ TRd w e z n A xs ∧ (∀ g, v.ownBlock = some g → TyB w g e) ∧ (A = none → c = 0) := by
  rcases h.2 with ⟨rfl, rfl⟩ | ⟨g, cap, cur, rfl, hb, hh, hn, hm, hs, rfl⟩
  · exact ⟨none, 0, rfl, Nat.le_refl _, ⟨⟨h.1, .inl rfl⟩, .inl rfl⟩, fun g hg => (by cases hg), fun _ => rfl⟩
  · refine ⟨_, cap, rfl, hn, ⟨⟨h.1, .inr ⟨g, 0, rfl, (Array.getElem?_eq_some_iff.1 hh).1, fun j u hu => ?_⟩⟩, .inr ⟨_, rfl, _, _, hh⟩⟩, fun g' hg' => ?_, fun e => by cases e⟩
    · have := h.cells (g := g) rfl j u hu
      rw [← this, addr_at]
    · cases hg'
      exact ⟨_, _, hh⟩
theorem own_keep {w w' : World} {base : Nat} {e : TypeId} {z n g : Nat} {v : Value} {xs : List Value} (h : w.ownsRow base e z v n xs) (hg : w.grownBy w' (some g)) (hne : ∀ b, v.ownBlock = some b → b ≠ g) : w'.ownsRow base e z v n xs := by
  refine ⟨h.1, h.2.imp id ?_⟩
  rintro ⟨b, cap, cur, e, h1, h2, h3⟩
  refine ⟨b, cap, cur, e, h1, ?_, h3⟩
  rw [hg.block b (Array.getElem?_eq_some_iff.1 h2).1 (fun q => hne b (by subst e; rfl) (Option.some.inj q))]
  exact h2
/-- One thing behind a row that the call owns. -/
theorem append_one {w : World} {ops : Array Oper} {rest : List Oper} {o : Oper} {a : Act} {Q : Exit → Act → World → Prop} (hgd : o.guard = none) (s x : Operand) (t e : TypeId)
    (ho : o.op = .call { callee := .builtin .append, args := #[s, x], argTypes := #[t, t] }) (zero : Value) (size bytes : Nat)
    (hinfo : (Try.prog.info? e).map (fun i => (i.zero, i.size, i.bytes)) = some (some zero, size, bytes)) (ht : Try.prog.underlying t = some (.slice e)) (hzs : zero.cells.size = size) (hsz : 0 < size) (hby : bytes ≤ 128)
    (base : Nat) (v : Value) (n : Nat) (xs : List Value) (hs : a.eval s = v) (hown : w.ownsRow base e size v n xs) (g : Nat) (news : List Value) (hx : a.eval x = .slice (some ⟨g, 0, none⟩) 1 1) (hl : news.length = size) (hB : Bk w g e news) (h1 : ∀ u ∈ news, u.oneCell' = true) (hn : n ≤ 100000) (hbase : base ≤ w.heap.size)
    (h : ∀ v' w', w'.ownsRow base e size v' (n + 1) (xs ++ news) → w.grownBy w' v.ownBlock → (v'.ownBlock = v.ownBlock ∨ v'.ownBlock = some w.heap.size) → wpList Try.prog ops Q rest (a.put o.dst v') w') : wpList Try.prog ops Q (o :: rest) a w := by
  obtain ⟨i0, hi, hz0, hz1, hz2⟩ := info_parts hinfo
  refine wpList_append_own_at w hgd s x t ho base e i0 zero size bytes ht hi hz0 hz1 hz2 hzs hsz v n xs hs hown ⟨g, 0, none⟩ 1 1 news hx (by omega) (fun j u hu => by rw [addr_at, Nat.zero_add]; exact hB.cell j hu) h1 (by unfold maxLen; omega) ?_ hbase (fun v' w' h1 h2 _ h3 => h v' w' h1 h2 h3)
  have : (n + 1) * bytes ≤ 100001 * 128 := Nat.mul_le_mul (by omega) hby
  omega
/-! Frames by kinds of blocks. -/
/-- A block of one of these types, or a map where maps may be written. -/
def Kin (ts : List TypeId) (maps : Bool) (w : World) (b : Nat) : Prop := (∃ t ∈ ts, TyB w b t) ∨ (maps = true ∧ ∃ es c, w.heap[b]? = some (.map es c))
theorem Kin.same {ts : List TypeId} {m : Bool} {w w' : World} {b : Nat} (hb : w'.heap[b]? = w.heap[b]?) (h : Kin ts m w' b) : Kin ts m w b := by
  rcases h with ⟨t, ht, h⟩ | ⟨hm, es, c, h⟩
  · exact .inl ⟨t, ht, h.same hb.symm⟩
  · exact .inr ⟨hm, es, c, hb.symm.trans h⟩
/-- From block B on blocks of these kinds may have turned, no others. -/
structure Fr (ts : List TypeId) (m : Bool) (B : Nat) (w w' : World) : Prop where
  os : w'.os = w.os
  tape : w'.tape = w.tape
  output : w'.output = w.output
  size : w.heap.size ≤ w'.heap.size
  block : ∀ b, b < w.heap.size → (b < B ∨ ¬ Kin ts m w b) → w'.heap[b]? = w.heap[b]?
theorem Fr.refl (ts : List TypeId) (m : Bool) (B : Nat) (w : World) : Fr ts m B w w := ⟨rfl, rfl, rfl, Nat.le_refl _, fun _ _ _ => rfl⟩
theorem Fr.trans {ts : List TypeId} {m : Bool} {B : Nat} {w w1 w2 : World} (h : Fr ts m B w w1) (k : Fr ts m B w1 w2) : Fr ts m B w w2 :=
  ⟨k.os.trans h.os, k.tape.trans h.tape, k.output.trans h.output, Nat.le_trans h.size k.size, fun b hb hk => by
    have e := h.block b hb hk
    exact (k.block b (Nat.lt_of_lt_of_le hb h.size) (hk.imp id fun hn hk => hn (hk.same e))).trans e⟩
theorem Fr.ofBelow {ts : List TypeId} {m : Bool} {B : Nat} {w w' : World} (h : Below w.heap.size w w') : Fr ts m B w w' := ⟨h.os, h.tape, h.output, h.size, fun b hb _ => h.block b hb⟩
theorem Fr.below {ts : List TypeId} {m : Bool} {B : Nat} {w w' : World} (h : Fr ts m B w w') (hB : B ≤ w.heap.size) : Below B w w' := ⟨h.os, h.tape, h.output, h.size, fun b hb => h.block b (Nat.lt_of_lt_of_le hb hB) (.inl hb)⟩
theorem Fr.ofGrown {ts : List TypeId} {m : Bool} {B g : Nat} {w w' : World} (h : w.grownBy w' (some g)) (hg : w.heap.size ≤ g ∨ (B ≤ g ∧ Kin ts m w g)) : Fr ts m B w w' :=
  ⟨h.os, h.tape, h.output, h.size, fun b hb hk => h.block b hb fun e => by
    cases e
    rcases hg with hg | ⟨h1, h2⟩
    · omega
    · rcases hk with hk | hk
      · omega
      · exact hk h2⟩
theorem Fr.mono {ts : List TypeId} {m : Bool} {B B' : Nat} {w w' : World} (h : Fr ts m B w w') (hB : B' ≤ B) : Fr ts m B' w w' :=
  ⟨h.os, h.tape, h.output, h.size, fun b hb hk => h.block b hb (hk.imp (fun h => Nat.lt_of_lt_of_le h hB) id)⟩
theorem Fr.tyb {ts : List TypeId} {m : Bool} {B b : Nat} {T : TypeId} {w w' : World} (h : Fr ts m B w w') (k : TyB w b T) (hT : T ∉ ts) : w'.heap[b]? = w.heap[b]? :=
  h.block b k.lt (.inr fun hk => by
    rcases hk with ⟨t, ht, k2⟩ | ⟨_, es, c, k2⟩
    · exact k.ne k2 (fun e => hT (e ▸ ht)) rfl
    · obtain ⟨_, _, k⟩ := k
      rw [k] at k2; cases k2)
theorem Fr.bk {ts : List TypeId} {m : Bool} {B b T : Nat} {l : List Value} {w w' : World} (h : Fr ts m B w w') (k : Bk w b T l) (hT : T ∉ ts) : Bk w' b T l := (h.tyb (bk_tyb k) hT).trans k
theorem Fr.trd {ts : List TypeId} {m : Bool} {B z n : Nat} {T : TypeId} {A : Option Addr} {xs : List Value} {w w' : World} (h : Fr ts m B w w') (k : TRd w T z n A xs) (hT : T ∉ ts) : TRd w' T z n A xs :=
  k.same h.size fun _ hb => h.tyb hb hT
theorem om_lt {w : World} {P : Program} {T : TypeId} {R : Value → Option (DataW Unit × List MemPlace)} {b n : Nat} {D : DataW Unit} (h : w.ownsMap P T R b n D) : b < w.heap.size := by obtain ⟨es, c, h1, _⟩ := h; exact (Array.getElem?_eq_some_iff.1 h1).1
theorem om_block {w w' : World} {P : Program} {T : TypeId} {R : Value → Option (DataW Unit × List MemPlace)} {b n : Nat} {D : DataW Unit} (h : w.ownsMap P T R b n D) (hb : w'.heap[b]? = w.heap[b]?) : w'.ownsMap P T R b n D := by obtain ⟨es, c, h1, h2⟩ := h; exact ⟨es, c, hb.trans h1, h2⟩
theorem om_tight {w : World} {P : Program} {T : TypeId} {R : Value → Option (DataW Unit × List MemPlace)} {b n : Nat} {D : DataW Unit} (h : w.ownsMap P T R b n D) : w.ownsMap P T R b (Maps.size D) D := by
  obtain ⟨es, c, h1, F, h2, rfl⟩ := h
  exact ⟨es, c, h1, F, by simp [Maps.size, length_sorted], rfl⟩
theorem om_ne {w : World} {P : Program} {T : TypeId} {R : Value → Option (DataW Unit × List MemPlace)} {b n g : Nat} {D : DataW Unit} {U : TypeId} (h : w.ownsMap P T R b n D) (k : TyB w g U) : b ≠ g := by
  rintro rfl
  obtain ⟨es, c, h1, _⟩ := h
  obtain ⟨_, _, k⟩ := k
  rw [h1] at k; cases k
end Go.Proofs.Ytmbgmbheonpamaa.In
