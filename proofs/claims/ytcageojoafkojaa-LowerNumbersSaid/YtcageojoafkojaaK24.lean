/- LowerNumbers: the walk. -/
import Derived.Test.YtcageojoafkojaaK23
import Derived.Test.YtcageojoafkojaaK22
import Derived.OpenShut
namespace Go.Proofs.Ytcageojoafkojaa.Lo
open Go.RowKit Go.WideElems Go.Proofs.Ytcageojoafkojaa.Ju Go.Proofs.Ytcageojoafkojaa.Me Go.Proofs.Ytcageojoafkojaa.Ir
def u32s (l : List Nat) : List Value := l.map fun (x : Nat) => .int .u32 (x : Int)
theorem row_u32 {w : World} {A : Option Addr} {len cap : Nat} {zs : List Int} (h : IsRow .u32 w A len cap zs) : ∃ l : List Nat, l.length = len ∧ (∀ x ∈ l, x < 4294967296) ∧ Rd w 1 len A (u32s l) ∧ len ≤ maxLen ∧ (A = none → len = 0 ∧ cap = 0) := by
  rcases h with ⟨rfl, rfl, rfl, rfl⟩ | ⟨a, rfl, h1, h2, h3, h4, h5⟩
  · exact ⟨[], rfl, by simp, Rd.nil _ _ _, by unfold maxLen; omega, fun _ => ⟨rfl, rfl⟩⟩
  · have hb : ∀ z ∈ zs, 0 ≤ z ∧ z < 4294967296 := fun z hz => by have := bounds_u32 (h5 z hz); omega
    refine ⟨(zs.take len).map Int.toNat, by simp; omega, fun x hx => ?_, rd_of (by simp [u32s]; omega) (by omega) (fun j u hu => ?_), by omega, fun e => by cases e⟩
    · obtain ⟨z, hz, rfl⟩ := List.mem_map.1 hx
      have := hb z (List.mem_of_mem_take hz)
      omega
    · unfold u32s at hu
      rw [List.map_map, List.getElem?_map] at hu
      cases hz : (zs.take len)[j]? with
      | none => rw [hz] at hu; cases hu
      | some z =>
        rw [hz] at hu
        obtain ⟨h6, h7⟩ := List.getElem?_eq_some_iff.1 hz
        rw [List.length_take] at h6
        have hm : z ∈ zs := List.mem_of_mem_take (List.mem_of_getElem? hz)
        have hzz : zs.getD j 0 = z := by
          rw [List.getElem_take] at h7
          rw [List.getD_eq_getElem?_getD, List.getElem?_eq_getElem (by omega), h7]; rfl
        have hc := h4 j (by omega)
        rw [hzz] at hc
        have := hb z hm
        simp only [Option.map_some, Function.comp, Option.some.injEq] at hu
        rw [← hu, hc]
        congr 2
        omega
/-- A plan while it is put together. -/
structure QS (w0 wr : World) (pb : Nat) (v : Value) (cs : List CaV) : Prop where
  bel : Below w0.heap.size w0 wr
  pb0 : w0.heap.size ≤ pb
  box : Bk wr pb 42 [v, .int .u32 2147418112]
  row : wr.ownsRow w0.heap.size 50 2 v cs.length (cs.flatMap CaV.cells)
  brs : ∀ c ∈ cs, TRd wr 54 2 c.brs.length c.A (c.brs.flatMap BrV.cells)
theorem QS.kept {w0 wr w' : World} {pb : Nat} {v : Value} {cs : List CaV} (h : QS w0 wr pb v cs) (hb : Below wr.heap.size wr w') : QS w0 w' pb v cs :=
  ⟨h.bel.trans (hb.mono h.bel.size), h.pb0, h.box.kept hb, own_keepN h.row hb, fun c hc => (h.brs c hc).below hb⟩
theorem ca_two {w : World} {b o k : Nat} {l : List CaV} {x : CaV} (hc : ∀ k x, l[k]? = some x → ∀ j v, (CaV.cells x)[j]? = some v → w.cell? ⟨b, o + (k * 2 + j), none⟩ = some v) (h : l[k]? = some x) :
    w.cell? ⟨b, o + k * 2, none⟩ = some (.int .u32 x.num) := by have := hc k x h 0 _ rfl; simpa using this
theorem run_none_c {w : World} (base : Nat) (t ty e : TypeId) (i : TypeInfo) (size : Nat) (ht : Try.prog.underlying t = some (.slice e)) (hi : Try.prog.info? e = some i) (c : Nat)
    (v : Value) (n : Nat) (xs : List Value) (hown : w.ownsRow base e size v n xs) : (Builtin.append_ #[t, t] ty #[v, .slice none 0 c]).run Try.prog w = .ok v w := by
  rcases hown.2 with ⟨rfl, rfl⟩ | ⟨g, cap, cur, rfl, _, _, hnc, _⟩
  · simp [Builtin.append_, run_underlying ht, sizeOf, typeInfo, hi, Builtin.lenOf, Builtin.firstCells]
  · simp [Builtin.append_, run_underlying ht, sizeOf, typeInfo, hi, Builtin.lenOf, Builtin.firstCells, hnc, storeCells]
/-- A list behind a row that the call owns: the run. -/
theorem run_list {w : World} (t ty e : TypeId) (zero : Value) (size bytes : Nat) (hinfo : (Try.prog.info? e).map (fun i => (i.zero, i.size, i.bytes)) = some (some zero, size, bytes)) (ht : Try.prog.underlying t = some (.slice e)) (hzs : zero.cells.size = size) (hsz : 0 < size) (hby : bytes ≤ 128)
    (base : Nat) (v : Value) (n : Nat) (xs : List Value) (hown : w.ownsRow base e size v n xs) (A : Option Addr) (m c : Nat) (news : List Value) (hR : Rd w size m A news) (h1 : ∀ u ∈ news, u.oneCell' = true) (hn : n + m ≤ 100000) (hbase : base ≤ w.heap.size) :
    ∃ v' w', (Builtin.append_ #[t, t] ty #[v, .slice A m c]).run Try.prog w = .ok v' w' ∧ w'.ownsRow base e size v' (n + m) (xs ++ news) ∧ w.grownBy w' v.ownBlock ∧ (v'.ownBlock = v.ownBlock ∨ v'.ownBlock = some w.heap.size) := by
  obtain ⟨i0, hi, hz0, hz1, hz2⟩ := info_parts hinfo
  cases A with
  | none =>
    obtain rfl : m = 0 := by
      rcases Nat.eq_zero_or_pos m with h | h
      · exact h
      · obtain ⟨b, o, e, _⟩ := hR.pos h
        cases e
    have hnil : news = [] := by have := hR.len; simp at this; exact this
    subst hnil
    exact ⟨v, w, run_none_c base t ty e i0 size ht hi c v n xs hown, by simpa using hown, ⟨rfl, rfl, rfl, Nat.le_refl _, fun _ _ _ => rfl⟩, .inl rfl⟩
  | some ad =>
    obtain ⟨v', w', h2, h3, h4, _, h5⟩ := run_append_own_at (P := Try.prog) w base t ty e i0 zero size bytes ht hi hz0 hz1 hz2 hzs hsz v n xs hown ad m c news hR.len (fun j u hu => by
      have hlt := (List.getElem?_eq_some_iff.1 hu).1
      rw [hR.len] at hlt
      obtain ⟨b, o, e, hb, hc⟩ := hR.pos (by cases m with | zero => simp at hlt | succ m => omega)
      cases e
      rw [addr_at]; exact hc j u hu) h1 (by unfold maxLen; omega) (by have : (n + m) * bytes ≤ 100000 * 128 := Nat.mul_le_mul hn hby; omega) hbase
    exact ⟨v', w', h2, h3, h4, h5⟩
theorem own0_ne {W : World} {gN t n c : Nat} {l : List Value} (h : Bk W gN t l) : ∀ g, (Value.slice (some ⟨W.heap.size, 0, none⟩) n c).ownBlock = some g → g ≠ gN := fun g hg => by
  cases hg
  exact Nat.ne_of_gt h.lt
theorem own_next {v v' : Value} {W : World} {gN t : Nat} {l : List Value} (hat : v'.ownBlock = v.ownBlock ∨ v'.ownBlock = some W.heap.size) (hd : ∀ g, v.ownBlock = some g → g ≠ gN) (h : Bk W gN t l) : ∀ g, v'.ownBlock = some g → g ≠ gN := fun g hg => by
  rcases hat with e | e
  · exact hd g (e ▸ hg)
  · rw [e] at hg; cases hg
    exact Nat.ne_of_gt h.lt
theorem own_emptyN (w : World) (e : TypeId) (size : Nat) : (w.alloc (.cells #[] e)).ownsRow w.heap.size e size (.slice (some ⟨w.heap.size, 0, none⟩) 0 0) 0 [] := by
  exact ⟨by simp, .inr ⟨w.heap.size, 0, #[], rfl, Nat.le_refl _, heap_alloc_new w _, Nat.le_refl _, by unfold maxLen; omega, by simp, by simp⟩⟩
theorem rd_take {w : World} {A : Option Addr} {m i : Nat} {cs : List CaV} (h : Rd w 2 m A (cs.flatMap CaV.cells)) (hm : m = cs.length) (hi : i ≤ m) : Rd w 2 i A ((cs.take i).flatMap CaV.cells) := by
  refine ⟨by rw [flatz_len CaV.cells 2 (fun _ => rfl), List.length_take, Nat.min_eq_left (by omega)], ?_⟩
  rcases Nat.eq_zero_or_pos i with h0 | h0
  · exact .inl h0
  obtain ⟨b, o, e, hb, hc⟩ := h.pos (by omega)
  refine .inr ⟨b, o, e, hb, fun j u hu => hc _ _ ?_⟩
  have e : cs.flatMap CaV.cells = (cs.take i).flatMap CaV.cells ++ (cs.drop i).flatMap CaV.cells := by rw [← List.flatMap_append, List.take_append_drop]
  rw [e, List.getElem?_append_left (List.getElem?_eq_some_iff.1 hu).1]
  exact hu
theorem rd_drop {w : World} {A : Option Addr} {m i c : Nat} {cs : List CaV} (h : Rd w 2 m A (cs.flatMap CaV.cells)) (hm : m = cs.length) (hi : i ≤ m) (hcm : m ≤ c) : Rd w 2 (m - i) (if c = i then A else Option.map (fun x => x.add (i * 2)) A) ((cs.drop i).flatMap CaV.cells) := by
  refine ⟨by rw [flatz_len CaV.cells 2 (fun _ => rfl), List.length_drop, hm], ?_⟩
  rcases Nat.eq_zero_or_pos (m - i) with h0 | h0
  · exact .inl h0
  obtain ⟨b, o, e, hb, hc⟩ := h.pos (by omega)
  subst e
  refine .inr ⟨b, o + i * 2, by rw [if_neg (by omega), Option.map_some, addr_at], hb, fun j u hu => ?_⟩
  rw [Nat.add_assoc]
  refine hc _ _ ?_
  have e : cs.flatMap CaV.cells = (cs.take i).flatMap CaV.cells ++ (cs.drop i).flatMap CaV.cells := by rw [← List.flatMap_append, List.take_append_drop]
  rw [e, List.getElem?_append_right (by rw [flatz_len CaV.cells 2 (fun _ => rfl), List.length_take]; omega), flatz_len CaV.cells 2 (fun _ => rfl), List.length_take]
  rw [show i * 2 + j - min i cs.length * 2 = j from by rw [Nat.min_eq_left (by omega)]; omega]
  exact hu
theorem cas_one (l : List CaV) : ∀ u ∈ l.flatMap CaV.cells, u.oneCell' = true := by
  intro u hu
  obtain ⟨x, _, hx⟩ := List.mem_flatMap.1 hu
  simp only [CaV.cells, List.mem_cons, List.not_mem_nil, or_false] at hx
  rcases hx with rfl | rfl <;> rfl
/-- A list behind a row that the call owns. -/
theorem append_listN {w : World} {ops : Array Oper} {rest : List Oper} {o : Oper} {a : Act} {Q : Exit → Act → World → Prop} (hgd : o.guard = none) (s x : Operand) (t e : TypeId)
    (ho : o.op = .call { callee := .builtin .append, args := #[s, x], argTypes := #[t, t] }) (zero : Value) (size bytes : Nat)
    (hinfo : (Try.prog.info? e).map (fun i => (i.zero, i.size, i.bytes)) = some (some zero, size, bytes)) (ht : Try.prog.underlying t = some (.slice e)) (hzs : zero.cells.size = size) (hsz : 0 < size) (hby : bytes ≤ 64)
    (base : Nat) (v : Value) (n : Nat) (xs : List Value) (hs : a.eval s = v) (hown : w.ownsRow base e size v n xs) (A : Option Addr) (m c : Nat) (news : List Value) (hx : a.eval x = .slice A m c) (hA : A = none → m = 0 ∧ c = 0) (hR : Rd w size m A news) (h1 : ∀ u ∈ news, u.oneCell' = true) (hn : n + m ≤ 100000) (hbase : base ≤ w.heap.size)
    (h : ∀ v' w', w'.ownsRow base e size v' (n + m) (xs ++ news) → w.grownBy w' v.ownBlock → (v'.ownBlock = v.ownBlock ∨ v'.ownBlock = some w.heap.size) → wpList Try.prog ops Q rest (a.put o.dst v') w') : wpList Try.prog ops Q (o :: rest) a w := by
  obtain ⟨i0, hi, hz0, hz1, hz2⟩ := info_parts hinfo
  cases A with
  | none =>
    obtain ⟨rfl, rfl⟩ := hA rfl
    have hnil : news = [] := by have := hR.len; simp at this; exact this
    subst hnil
    refine wpList_append_own_none hgd s x t ho base e i0 size ht hi v n xs hs hown hx (h v w ?_ ⟨rfl, rfl, rfl, Nat.le_refl _, fun _ _ _ => rfl⟩ (.inl rfl))
    simpa using hown
  | some ad =>
    refine wpList_append_own_at w hgd s x t ho base e i0 zero size bytes ht hi hz0 hz1 hz2 hzs hsz v n xs hs hown ad m c news hx hR.len (fun j u hu => ?_) h1 (by unfold maxLen; omega) ?_ hbase (fun v' w' h1 h2 _ h3 => h v' w' h1 h2 h3)
    · have hlt := (List.getElem?_eq_some_iff.1 hu).1
      rw [hR.len] at hlt
      obtain ⟨b, o, e, hb, hc⟩ := hR.pos (by cases m with | zero => simp at hlt | succ m => omega)
      cases e
      rw [addr_at]; exact hc j u hu
    · have : (n + m) * bytes ≤ 100000 * 64 := Nat.mul_le_mul hn hby
      omega
theorem wrap_natU (z : Int) : ∃ v : Nat, v < 4294967296 ∧ IntKind.u32.wrap z = (v : Int) := by
  refine ⟨(z % 4294967296).toNat, by omega, ?_⟩
  rw [IntKind.wrap_u32]; omega
theorem own_one (w : World) (e : TypeId) (u : Value) : (w.alloc (.cells #[u] e)).ownsRow w.heap.size e 1 (.slice (some ⟨w.heap.size, 0, none⟩) 1 1) 1 [u] := by
  exact ⟨by simp, .inr ⟨w.heap.size, 1, #[u], rfl, Nat.le_refl _, heap_alloc_new w _, Nat.le_refl _, by unfold maxLen; omega, by simp, by simp⟩⟩
theorem infoU32 : (Try.prog.info? 22).map (fun i => (i.zero, i.size, i.bytes)) = some (some (.int .u32 0), 1, 4) := by kernel_rfl
theorem u32s_one (l : List Nat) : ∀ u ∈ u32s l, u.oneCell' = true := by
  intro u hu
  obtain ⟨x, _, rfl⟩ := List.mem_map.1 hu
  rfl
theorem two_ints (a b : Nat) : ∀ u ∈ [Value.int .u32 a, .int .u32 b], u.oneCell' = true := by
  intro u hu
  simp only [List.mem_cons, List.not_mem_nil, or_false] at hu
  rcases hu with rfl | rfl <;> rfl
theorem two_one (a : Nat) (A : Option Addr) (n c : Nat) : ∀ u ∈ [Value.int .u32 a, .slice A n c], u.oneCell' = true := by
  intro u hu
  simp only [List.mem_cons, List.not_mem_nil, or_false] at hu
  rcases hu with rfl | rfl <;> rfl
theorem QS.store {w0 wy vh : World} {pb N : Nat} {v v' : Value} {cs cs' : List CaV} {xs : List Value} (h : QS w0 wy pb v cs) (hb : Below wy.heap.size wy vh) (ho : vh.ownsRow wy.heap.size 50 2 v' N xs) (hN : N = cs'.length) (hx : xs = cs'.flatMap CaV.cells)
    (hbr : ∀ c ∈ cs', TRd vh 54 2 c.brs.length c.A (c.brs.flatMap BrV.cells)) : QS w0 (vh.setCell ⟨pb, 0, none⟩ v') pb v' cs' := by
  subst hN hx
  have hbx := h.box.kept hb
  have hs := only_set vh pb 0 v'
  have hl := h.box.lt
  refine ⟨(h.bel.trans (hb.mono h.bel.size)).setCell h.pb0 _, h.pb0, hbx.set 0 _, own_base (own_keep ho hs (fun b hb => by have := (ho.lt b hb).1; omega)) h.bel.size, fun c hc => ?_⟩
  exact (hbr c hc).grown hs ((hbr c hc).off hbx.tyb (by decide))
set_option maxHeartbeats 32000000 in
set_option maxRecDepth 100000 in
theorem walk_lowerNumbers (A : Option Addr) (n c : Nat) (zs : List Int) (z : Int) (w : World) (hl : IsRow .u32 w A n c zs) (hz : (Lit.int .u32 z).wf = true) :
    Calls Try.prog 6 #[.slice A n c, .int .u32 z] w (Ju.RetB true w) := by
  obtain ⟨l, hln, hl32, hlR, hlm, hlA⟩ := row_u32 hl
  have HLA := Lib.hid hlA
  have HL32 := Lib.hid hl32
  have HLn := Lib.hid hln
  have HLR := Lib.hid hlR
  have HZ := Lib.hid (bounds_u32 hz)
  have hn63 : n ≤ 9223372036854775807 := hlm
  clear hl32 hln hlR hlm hlA hl hz
  go_enter Try.func6, Try.ntmps6
  go_wp2_with fail
  refine (Lo.awake_any _).mono ?_
  rintro e w3 ⟨rfl, hb3⟩
  have HBw := Lib.hid hb3
  clear hb3
  by_cases h20 : 100 < n
  · have g20 : (100 : Int) < (n : Int) := by omega
    have d20 : decide ((100 : Int) < (n : Int)) = true := decide_eq_true g20
    clear h20
    go_wp2_with fail
    go_ret
    exact ⟨rfl, HBw.out⟩
  have g20 : ¬ (100 : Int) < (n : Int) := by omega
  have d20 : decide ((100 : Int) < (n : Int)) = false := decide_eq_false g20
  have hn100 : n ≤ 100 := by omega
  clear h20
  have HLR := Lib.hid (HLR.out.below HBw.out)
  go_upto_region 6 with fail
  have hk5 := Bk.new w3 42 #[.slice none 0 0, .int .u32 2147418112] (l := [.slice none 0 0, .int .u32 2147418112]) rfl
  have hb5 := oneb w3 (.cells #[.slice none 0 0, .int .u32 2147418112] 42)
  generalize World.alloc w3 _ = w4 at hk5 hb5 ⊢
  have HQ := Lib.hid (show QS w3 w4 w3.heap.size (.slice none 0 0) [] from ⟨hb5, Nat.le_refl _, hk5, World.ownsRow_nil _ _ _ _, fun c hc => by cases hc⟩)
  have HPB := Lib.hid (Nat.le_refl w3.heap.size)
  obtain ⟨pb, hpb⟩ : ∃ p, p = w3.heap.size := ⟨_, rfl⟩
  rw [← hpb] at HQ ⊢
  clear hk5 hb5 hpb HPB
  go_wp2_with fail
  go_loopw [29] (fun iv wz => ∃ (j : Nat) (cs : List CaV) (v : Value), iv = .int .i64 j ∧ j ≤ n ∧ cs.length ≤ j ∧ Hid (QS w3 wz pb v cs) ∧ Hid (Rising cs) ∧ Hid (∀ c ∈ cs, NumC c)) (fun iv _ => n - (intOf iv).toNat)
  case atStart => exact ⟨0, [], _, rfl, Nat.zero_le _, Nat.le_refl _, HQ, Lib.hid List.Pairwise.nil, Lib.hid (fun c hc => by cases hc)⟩
  case round =>
    clear HQ
    rename World => wz
    obtain ⟨j, cs, v, rfl, hj, hcj, HQ, HRi, HNu⟩ := hrel
    by_cases hin : j < n
    · obtain ⟨x, hx⟩ : ∃ x, l[j]? = some x := ⟨_, List.getElem?_eq_getElem (by have := HLn.out; omega)⟩
      have hx32 : x < 4294967296 := HL32.out x (List.mem_of_getElem? hx)
      obtain ⟨la, lo, hA, hlb, hlc⟩ := HLR.out.pos (by omega)
      subst hA
      have c0 := (HQ.out.bel.cell hlb).trans (hlc j (.int .u32 x) (by unfold u32s; rw [List.getElem?_map, hx]; rfl))
      clear hlc hx
      obtain ⟨m, hm⟩ : ∃ m, m = cs.length := ⟨_, rfl⟩
      rw [← hm] at hcj
      obtain ⟨CA, Cc, hv, hxa, hTR, hxb⟩ := own_typed HQ.out.row
      clear hxb
      rw [← hm] at hv hTR hxa
      have HmC := Lib.hid hxa
      clear hxa
      subst hv
      have HCm := Lib.hid hm
      have HTR := Lib.hid hTR.rd
      clear hm hTR
      have p0 := HQ.out.box.cell 0 rfl
      have p1 := HQ.out.box.cell 1 rfl
      have pl := HQ.out.box.lt
      go_upto_region 9 with fail
      go_cut [8] from 8 to 8 (fun s8 wy => wy = wz ∧ s8 = .int .i64 0)
      case first =>
        go_wp2_with fail
        go_meet
        case rel => exact ⟨by trivial, rfl⟩
      obtain ⟨rfl, rfl⟩ := hcut
      rename World => wz
      rename_i KK hKK
      refine hKK _ _ ?_
      refine wp_seq_k (fun KL hKL => ?_)
      go_cut [8] from 33 to 49 (fun s8 wy => wy = wz ∧ ∃ i : Nat, s8 = .int .i64 i ∧ i ≤ m ∧ Hid (∀ c ∈ cs.take i, c.num < x) ∧ Hid (∀ c, cs[i]? = some c → x ≤ c.num))
      case first =>
        go_wp2_with fail
        go_loopw [8] (fun iv wy => ∃ i : Nat, iv = .int .i64 i ∧ i ≤ m ∧ wy = wz ∧ Hid (∀ c ∈ cs.take i, c.num < x)) (fun iv _ => m - (intOf iv).toNat)
        case atStart => exact ⟨0, rfl, Nat.zero_le _, rfl, Lib.hid (fun c hc => by simp at hc)⟩
        case round =>
          rename World => wy
          obtain ⟨i, rfl, him, rfl, HTk⟩ := hrel
          have hi0 : (0 : Int) ≤ (i : Int) := by omega
          by_cases hlt : i < m
          · have gi : (i : Int) < (m : Int) := by omega
            have di : decide ((i : Int) < (m : Int)) = true := decide_eq_true gi
            obtain ⟨q, hq⟩ : ∃ q, cs[i]? = some q := ⟨_, List.getElem?_eq_getElem (by have := HCm.out; omega)⟩
            obtain ⟨cb, co, hCA, hcl, hcell⟩ := HTR.out.one (f := CaV.cells) (fun _ => rfl) (by omega) (by omega)
            subst hCA
            have q0 := ca_two hcell hq
            clear hcell
            by_cases hqx : q.num < x
            · have gq : (q.num : Int) < (x : Int) := by omega
              have dq : decide ((q.num : Int) < (x : Int)) = true := decide_eq_true gq
              have HTk := Lib.hid (take_more HTk.out hq hqx)
              clear hq hqx
              go_wp2_with fail
              go_roundw
              case rel => exact ⟨i + 1, by go_num, by omega, by trivial, HTk⟩
              case measure => simp [intOf]; omega
            · have gq : ¬ (q.num : Int) < (x : Int) := by omega
              have dq : decide ((q.num : Int) < (x : Int)) = false := decide_eq_false gq
              have HN1 := Lib.hid (show ∀ c, cs[i]? = some c → x ≤ c.num from fun c hc => by rw [hq] at hc; cases hc; omega)
              clear hq hqx
              go_wp2_with fail
              go_meet
              case rel => exact ⟨by trivial, i, rfl, him, HTk, HN1⟩
          · have gi : ¬ (i : Int) < (m : Int) := by omega
            have di : decide ((i : Int) < (m : Int)) = false := decide_eq_false gi
            have HN1 := Lib.hid (show ∀ c, cs[i]? = some c → x ≤ c.num from fun c hc => by rw [List.getElem?_eq_none (by have := HCm.out; omega)] at hc; cases hc)
            clear hlt
            go_wp2_with fail
            go_meet
            case rel => exact ⟨by trivial, i, rfl, him, HTk, HN1⟩
      obtain ⟨rfl, i, rfl, him, HTk, HN1⟩ := hcut
      rename World => wz
      have hi0 : (0 : Int) ≤ (i : Int) := by omega
      go_upto_region 12 with fail
      go_cut [64] from 50 to 64 (fun s64 wy => wy = wz ∧ (s64 = .bool true ∨ (s64 = .bool false ∧ Hid (∀ c, cs[i]? = some c → x < c.num))))
      case first =>
        by_cases hlt : i < m
        · have gi : (i : Int) < (m : Int) := by omega
          have di : decide ((i : Int) < (m : Int)) = true := decide_eq_true gi
          obtain ⟨q, hq⟩ : ∃ q, cs[i]? = some q := ⟨_, List.getElem?_eq_getElem (by have := HCm.out; omega)⟩
          obtain ⟨cb, co, hCA, hcl, hcell⟩ := HTR.out.one (f := CaV.cells) (fun _ => rfl) (by omega) (by omega)
          subst hCA
          have q0 := ca_two hcell hq
          clear hcell
          by_cases hqe : q.num = x
          · have ge : (q.num : Int) = (x : Int) := by omega
            have dge : ((q.num : Int) == (x : Int)) = true := by simpa using ge
            clear hq hqe
            go_wp2_with fail
            go_meet
            case rel => exact ⟨by trivial, .inl rfl⟩
          · have ge : ¬ (q.num : Int) = (x : Int) := by omega
            have dge : ((q.num : Int) == (x : Int)) = false := by simpa using ge
            have HN2 := Lib.hid (show ∀ c, cs[i]? = some c → x < c.num from fun c hc => by have := HN1.out c hc; rw [hq] at hc; cases hc; omega)
            clear hq hqe
            go_wp2_with fail
            go_meet
            case rel => exact ⟨by trivial, .inr ⟨rfl, HN2⟩⟩
        · have gi : ¬ (i : Int) < (m : Int) := by omega
          have di : decide ((i : Int) < (m : Int)) = false := decide_eq_false gi
          have HN2 := Lib.hid (show ∀ c, cs[i]? = some c → x < c.num from fun c hc => by rw [List.getElem?_eq_none (by have := HCm.out; omega)] at hc; cases hc)
          clear hlt
          go_wp2_with fail
          go_meet
          case rel => exact ⟨by trivial, .inr ⟨rfl, HN2⟩⟩
      case rest =>
        rename World => wd
        obtain ⟨rfl, rfl | ⟨rfl, HN2⟩⟩ := hcut
        · go_wp2_with fail
          go_roundw
          case rel => exact ⟨j + 1, cs, _, by go_num, by omega, by have := HCm.out; omega, HQ, HRi, HNu⟩
          case measure => simp [intOf]; omega
        · have hx4 : x % 4000 < 4000 := Nat.mod_lt _ (by omega)
          have HX4 := Lib.hid hx4
          clear hx4
          go_wp2_with fail
          refine (Rec.fail_any _ _).mono ?_
          rintro e wdd ⟨rfl, rfl⟩
          rw [show (327680 + Rec.clampN ((x : Int) % 4000 + 1) : Nat) = actN x from clamp_act x]
          obtain ⟨ax, hax⟩ : ∃ a, a = actN x := ⟨_, rfl⟩
          rw [← hax]
          have HAx := Lib.hid hax
          clear hax
          go_upto_region 14 with fail
          obtain ⟨hkb, hkc, hb2⟩ := two_new wd #[.slice none 0 0, .int .u32 ax] #[.int .u32 x, .slice (some ⟨wd.heap.size, 0, none⟩) 1 1] 54 50 (la := [.slice none 0 0, .int .u32 ax]) (lb := [.int .u32 x, .slice (some ⟨wd.heap.size, 0, none⟩) 1 1]) rfl rfl
          generalize (wd.alloc _).alloc _ = wy at hkb hkc hb2 ⊢
          obtain ⟨gc, hgc⟩ : ∃ g, g = wd.heap.size + 1 := ⟨_, rfl⟩
          rw [← hgc] at hkc ⊢
          obtain ⟨gb, hgb⟩ : ∃ g, g = wd.heap.size := ⟨_, rfl⟩
          rw [← hgb] at hkb hkc ⊢
          have HQ := Lib.hid (HQ.out.kept hb2)
          have HRw := Lib.hid (HTR.out.below hb2)
          have HRt := Lib.hid (fun W (h : Below wy.heap.size wy W) => (rd_take HRw.out HCm.out him).below h)
          have HRd := Lib.hid (fun W (h : Below wy.heap.size wy W) => (rd_drop HRw.out HCm.out him HmC.out).below h)
          have hic : i ≤ Cc := by have := HmC.out; omega
          have hmc : m ≤ Cc := HmC.out
          have HKc := Lib.hid hkc
          have HPc := Lib.hid (show pb ≠ gc from fun e => by rw [e] at pl; omega)
          have HBr := Lib.hid (show ∀ q ∈ cs.take i ++ (⟨x, [⟨⟨[], ax⟩, none, 0⟩], some ⟨gb, 0, none⟩, 1⟩ : CaV) :: cs.drop i, TRd wy 54 2 q.brs.length q.A (q.brs.flatMap BrV.cells) from fun q hq => by
            rcases List.mem_append.1 hq with hq | hq
            · exact HQ.out.brs q (List.mem_of_mem_take hq)
            · rcases List.mem_cons.1 hq with rfl | hq
              · exact ⟨Ju.bk_rd (n := 1) (z := 2) hkb rfl, .inr ⟨_, rfl, hkb.tyb⟩⟩
              · exact HQ.out.brs q (List.mem_of_mem_drop hq))
          have HNu := Lib.hid (ins_nums (i := i) (n := ⟨x, [⟨⟨[], ax⟩, none, 0⟩], some ⟨gb, 0, none⟩, 1⟩) HNu.out ⟨hx32, by rw [HAx.out]⟩)
          have HRi := Lib.hid (ins_rising (i := i) (n := ⟨x, [⟨⟨[], ax⟩, none, 0⟩], some ⟨gb, 0, none⟩, 1⟩) HRi.out HTk.out HN2.out)
          have HLe := Lib.hid (ins_len (cs := cs) (i := i) (n := ⟨x, [⟨⟨[], ax⟩, none, 0⟩], some ⟨gb, 0, none⟩, 1⟩) (by have := HCm.out; omega))
          have HLt := Lib.hid (show (cs.take i).length = i from by rw [List.length_take]; have := HCm.out; omega)
          have HLd := Lib.hid (show (cs.drop i).length = m - i from by rw [List.length_drop]; have := HCm.out; omega)
          have x0 := hkc.cell 0 rfl
          have x1 := hkc.cell 1 rfl
          have HmkS := Lib.hid (fun W (h : Bk W gc 50 [.int .u32 x, .slice (some ⟨gb, 0, none⟩) 1 1]) => (show (fun w' => w'.cell? ⟨gc, 0, none⟩ = some (.int .u32 x) ∧ w'.cell? ⟨gc, 1, none⟩ = some (.slice (some ⟨gb, 0, none⟩) 1 1)) W from ⟨h.cell 0 rfl, h.cell 1 rfl⟩))
          have gim : (i : Int) ≤ (m : Int) := by omega
          clear hkb hkc hb2 hgc hgb HTR HTk HN1 HN2 p0 p1 pl
          obtain ⟨cs', hcs'⟩ : ∃ l, l = cs.take i ++ (⟨x, [⟨⟨[], ax⟩, none, 0⟩], some ⟨gb, 0, none⟩, 1⟩ : CaV) :: cs.drop i := ⟨_, rfl⟩
          rw [← hcs'] at HBr HNu HRi HLe
          have HCe := Lib.hid (show (cs.take i).flatMap CaV.cells ++ [.int .u32 x, .slice (some ⟨gb, 0, none⟩) 1 1] ++ (cs.drop i).flatMap CaV.cells = cs'.flatMap CaV.cells from by rw [hcs', List.flatMap_append, List.flatMap_cons, List.append_assoc]; rfl)
          clear hcs'
          have HLj := Lib.hid (show cs'.length ≤ j + 1 from by have := HLe.out; have := HCm.out; omega)
          refine wp_region_held_drew (S := (fun w' => w'.cell? ⟨gc, 0, none⟩ = some (.int .u32 x) ∧ w'.cell? ⟨gc, 1, none⟩ = some (.slice (some ⟨gb, 0, none⟩) 1 1))) (by kernel_rfl) ?_ (fun hHeld => ?_)
          · exact ⟨x0, x1⟩
          have HBv := Lib.hid (Below.refl wy.heap.size wy).drew
          clear x0 x1
          generalize wy.drew = vh at hHeld HBv ⊢
          refine wpAnyH_take (i := 1) (v := ?_) (by first | (simp only [List.getElem?_toArray, List.getElem?_cons_succ, List.getElem?_cons_zero] <;> rfl) | rfl) (by kernel_rfl) (by kernel_rfl) (by kernel_rfl) (by exact fun _ _ _ h => h) (Or.inl ⟨by rfl, ?_⟩) hHeld ?_
          rotate_left 1
          · (intro w hSw; (try dsimp only at hSw); (go_simp) <;> (with_reducible rfl))
          try simp only [Act.put, List.setIfInBounds_toArray, List.set_cons_zero, List.set_cons_succ]
          refine wpAnyH_take (i := 3) (v := ?_) (by first | (simp only [List.getElem?_toArray, List.getElem?_cons_succ, List.getElem?_cons_zero] <;> rfl) | rfl) (by kernel_rfl) (by kernel_rfl) (by kernel_rfl) (by exact fun _ _ _ h => h) (Or.inl ⟨by rfl, ?_⟩) hHeld ?_
          rotate_left 1
          · (intro w hSw; (try dsimp only at hSw); (go_simp) <;> (with_reducible rfl))
          try simp only [Act.put, List.setIfInBounds_toArray, List.set_cons_zero, List.set_cons_succ]
          refine wpAnyH_take (i := 6) (v := ?_) (by first | (simp only [List.getElem?_toArray, List.getElem?_cons_succ, List.getElem?_cons_zero] <;> rfl) | rfl) (by kernel_rfl) (by kernel_rfl) (by kernel_rfl) (by exact fun _ _ _ h => h) (Or.inl ⟨by rfl, ?_⟩) hHeld ?_
          rotate_left 1
          · (intro w hSw; (try dsimp only at hSw); (go_simp) <;> (with_reducible rfl))
          try simp only [Act.put, List.setIfInBounds_toArray, List.set_cons_zero, List.set_cons_succ]
          refine wpAnyH_take (i := 9) (v := ?_) (by first | (simp only [List.getElem?_toArray, List.getElem?_cons_succ, List.getElem?_cons_zero] <;> rfl) | rfl) (by kernel_rfl) (by kernel_rfl) (by kernel_rfl) (by exact fun _ _ _ h => h) (Or.inl ⟨by rfl, ?_⟩) hHeld ?_
          rotate_left 1
          · (intro w hSw; (try dsimp only at hSw); (go_simp) <;> (with_reducible rfl))
          try simp only [Act.put, List.setIfInBounds_toArray, List.set_cons_zero, List.set_cons_succ]
          refine wpAnyH_take (i := 11) (v := ?_) (by first | (simp only [List.getElem?_toArray, List.getElem?_cons_succ, List.getElem?_cons_zero] <;> rfl) | rfl) (by kernel_rfl) (by kernel_rfl) (by kernel_rfl) (by exact fun _ _ _ h => h) (Or.inl ⟨by rfl, ?_⟩) hHeld ?_
          rotate_left 1
          · (intro w hSw; (try dsimp only at hSw); (go_simp) <;> (with_reducible rfl))
          try simp only [Act.put, List.setIfInBounds_toArray, List.set_cons_zero, List.set_cons_succ]
          repeat' first
            | (refine AllReadyH.cons (i := 0) (by first | (simp only [List.getElem?_toArray, List.getElem?_cons_zero] <;> rfl) | rfl) (fun K hK => ?_) ?_
               go_simp
               have hbb := oneb vh (.cells #[] 50)
               have hown := own_base (own_emptyN vh 50 2) HBv.out.size
               have HBn := Lib.hid (HBv.out.trans (hbb.mono HBv.out.size))
               first | (have HD := Lib.hid (own0_ne (n := 0) (c := 0) HN.out)) | skip
               clear hHeld
               refine hK.out _ _ (HmkS.out _ (HKc.out.kept HBn.out)) (fun hHeld => ?_)
               clear hK K
               first | (have HZ9 := Lib.hid (HN.out.kept hbb); try clear HN; have HN := HZ9; clear HZ9) | skip
               clear HBv
               first | (generalize World.alloc vh _ = vi at hbb hown HBn hHeld HN HD ⊢) | (generalize World.alloc vh _ = vi at hbb hown HBn hHeld ⊢)
               have HO := Lib.hid hown
               clear hown hbb
               have HBv := HBn
               clear HBn
               try clear vh
               rename World => vh
               try simp only [Act.put, List.setIfInBounds_toArray, List.set_cons_zero, List.set_cons_succ])
            | (refine AllReadyH.cons (i := 2) (by first | (simp only [List.getElem?_toArray, List.getElem?_cons_succ, List.getElem?_cons_zero] <;> rfl) | rfl) (fun K hK => ?_) ?_
               have y2 := (HQ.out.box.kept HBv.out).cell 0 rfl
               have yl := (HQ.out.box.kept HBv.out).lt
               go_simp
               refine hK.out _ _ hHeld (fun _ => ?_)
               clear hK K y2 yl
               try simp only [Act.put, List.setIfInBounds_toArray, List.set_cons_zero, List.set_cons_succ]
               refine wpAnyH_take (i := 4) (v := ?_) (by first | (simp only [List.getElem?_toArray, List.getElem?_cons_succ, List.getElem?_cons_zero] <;> rfl) | rfl) (by kernel_rfl) (by kernel_rfl) (by kernel_rfl) (by exact fun _ _ _ h => h) (Or.inl ⟨by rfl, ?_⟩) hHeld ?_
               rotate_left 1
               · (intro w hSw; (try dsimp only at hSw); (go_simp) <;> (with_reducible rfl))
               try simp only [Act.put, List.setIfInBounds_toArray, List.set_cons_zero, List.set_cons_succ])
            | (refine AllReadyH.cons (i := 5) (by first | (simp only [List.getElem?_toArray, List.getElem?_cons_succ, List.getElem?_cons_zero] <;> rfl) | rfl) (fun K hK => ?_) ?_
               obtain ⟨vv, vi, hr, ho, hg, hat⟩ := run_list 40 40 50 _ 2 32 infoCa Try.underlying40 rfl (by decide) (by decide) wy.heap.size _ 0 [] HO.out CA i Cc ((cs.take i).flatMap CaV.cells) (HRt.out _ HBv.out) (cas_one _) (by omega) HBv.out.size
               rw [Nat.zero_add, List.nil_append] at ho
               obtain ⟨_, _, _, _, _, hty, _⟩ := own_typed HO.out
               have HBn := Lib.hid (HBv.out.grown hg HBv.out.size (fun g e => (HO.out.lt g e).1))
               first | (have HDn := Lib.hid (own_next hat HD.out HN.out); have HZ9 := Lib.hid (HN.out.grown hg (fun e => HD.out _ e.symm rfl)); try clear HN; have HN := HZ9; clear HZ9; clear HD; have HD := HDn; clear HDn) | skip
               refine op_append (.tmp 74) (.tmp 78) 40 rfl _ _ _ vi rfl rfl hr ?_
               clear hHeld
               refine hK.out _ _ (HmkS.out _ (HKc.out.kept HBn.out)) (fun hHeld => ?_)
               clear hK K
               clear HO
               have HO := Lib.hid ho
               clear ho hg hat hty hr
               clear HBv
               have HBv := HBn
               clear HBn
               try clear vh
               rename World => vh
               try simp only [Act.put, List.setIfInBounds_toArray, List.set_cons_zero, List.set_cons_succ])
            | (refine AllReadyH.cons (i := 7) (by first | (simp only [List.getElem?_toArray, List.getElem?_cons_succ, List.getElem?_cons_zero] <;> rfl) | rfl) (fun K hK => ?_) ?_
               go_simp
               have hbb := oneb vh (.cells #[.int .u32 x, .slice (some ⟨gb, 0, none⟩) 1 1] 50)
               have hN := Bk.new vh 50 #[.int .u32 x, .slice (some ⟨gb, 0, none⟩) 1 1] (l := [.int .u32 x, .slice (some ⟨gb, 0, none⟩) 1 1]) rfl
               have HBn := Lib.hid (HBv.out.trans (hbb.mono HBv.out.size))
               first | (have HD := Lib.hid (fun g hg => Nat.ne_of_lt (HO.out.lt g hg).2)) | skip
               clear hHeld
               refine hK.out _ _ (HmkS.out _ (HKc.out.kept HBn.out)) (fun hHeld => ?_)
               clear hK K
               first | (have HZ9 := Lib.hid (own_keepN HO.out hbb); try clear HO; have HO := HZ9; clear HZ9) | skip
               clear HBv
               first | (generalize World.alloc vh _ = vi at hbb hN HBn hHeld HO ⊢) | (generalize World.alloc vh _ = vi at hbb hN HBn hHeld ⊢)
               have HN := Lib.hid hN
               clear hN hbb
               have HBv := HBn
               clear HBn
               try clear vh
               rename World => vh
               try simp only [Act.put, List.setIfInBounds_toArray, List.set_cons_zero, List.set_cons_succ])
            | (refine AllReadyH.cons (i := 8) (by first | (simp only [List.getElem?_toArray, List.getElem?_cons_succ, List.getElem?_cons_zero] <;> rfl) | rfl) (fun K hK => ?_) ?_
               obtain ⟨vv, vi, hr, ho, hg, hat⟩ := run_list 40 40 50 _ 2 32 infoCa Try.underlying40 rfl (by decide) (by decide) wy.heap.size _ i ((cs.take i).flatMap CaV.cells) HO.out (some ⟨_, 0, none⟩) 1 1 [.int .u32 x, .slice (some ⟨gb, 0, none⟩) 1 1] (Ju.bk_rd (n := 1) (z := 2) HN.out rfl) (two_one _ _ _ _) (by omega) HBv.out.size
               obtain ⟨_, _, _, _, _, hty, _⟩ := own_typed HO.out
               have HBn := Lib.hid (HBv.out.grown hg HBv.out.size (fun g e => (HO.out.lt g e).1))
               first | (have HDn := Lib.hid (own_next hat HD.out HN.out); have HZ9 := Lib.hid (HN.out.grown hg (fun e => HD.out _ e.symm rfl)); try clear HN; have HN := HZ9; clear HZ9; clear HD; have HD := HDn; clear HDn) | skip
               refine op_append (.tmp 79) (.tmp 81) 40 rfl _ _ _ vi rfl rfl hr ?_
               clear hHeld
               refine hK.out _ _ (HmkS.out _ (HKc.out.kept HBn.out)) (fun hHeld => ?_)
               clear hK K
               clear HO
               have HO := Lib.hid ho
               clear ho hg hat hty hr
               clear HBv
               have HBv := HBn
               clear HBn
               try clear vh
               rename World => vh
               try simp only [Act.put, List.setIfInBounds_toArray, List.set_cons_zero, List.set_cons_succ])
            | (refine AllReadyH.cons (i := 10) (by first | (simp only [List.getElem?_toArray, List.getElem?_cons_succ, List.getElem?_cons_zero] <;> rfl) | rfl) (fun K hK => ?_) ?_
               have y2 := (HQ.out.box.kept HBv.out).cell 0 rfl
               have yl := (HQ.out.box.kept HBv.out).lt
               go_simp
               refine hK.out _ _ hHeld (fun _ => ?_)
               clear hK K y2 yl
               try simp only [Act.put, List.setIfInBounds_toArray, List.set_cons_zero, List.set_cons_succ]
               refine wpAnyH_take (i := 12) (v := ?_) (by first | (simp only [List.getElem?_toArray, List.getElem?_cons_succ, List.getElem?_cons_zero] <;> rfl) | rfl) (by kernel_rfl) (by kernel_rfl) (by kernel_rfl) (by exact fun _ _ _ h => h) (Or.inl ⟨by rfl, ?_⟩) hHeld ?_
               rotate_left 1
               · (intro w hSw; (try dsimp only at hSw); (go_simp) <;> (with_reducible rfl))
               try simp only [Act.put, List.setIfInBounds_toArray, List.set_cons_zero, List.set_cons_succ])
            | (refine AllReadyH.cons (i := 13) (by first | (simp only [List.getElem?_toArray, List.getElem?_cons_succ, List.getElem?_cons_zero] <;> rfl) | rfl) (fun K hK => ?_) ?_
               obtain ⟨vv, vi, hr, ho, hg, hat⟩ := run_list 40 40 50 _ 2 32 infoCa Try.underlying40 rfl (by decide) (by decide) wy.heap.size _ (i + 1) ((cs.take i).flatMap CaV.cells ++ [.int .u32 x, .slice (some ⟨gb, 0, none⟩) 1 1]) HO.out (if Cc = i then CA else Option.map (fun x => x.add (i * 2)) CA) (m - i) (Cc - i) ((cs.drop i).flatMap CaV.cells) (HRd.out _ HBv.out) (cas_one _) (by omega) HBv.out.size
               rw [HCe.out] at ho
               obtain ⟨A7, c7, hve, _⟩ := own_typed ho
               obtain ⟨n7, hn7⟩ : ∃ n, n = i + 1 + (m - i) := ⟨_, rfl⟩
               rw [← hn7] at hve ho
               subst hve
               have HN7 := Lib.hid hn7
               clear hn7
               obtain ⟨_, _, _, _, _, hty, _⟩ := own_typed HO.out
               have HBn := Lib.hid (HBv.out.grown hg HBv.out.size (fun g e => (HO.out.lt g e).1))
               first | (have HDn := Lib.hid (own_next hat HD.out HN.out); have HZ9 := Lib.hid (HN.out.grown hg (fun e => HD.out _ e.symm rfl)); try clear HN; have HN := HZ9; clear HZ9; clear HD; have HD := HDn; clear HDn) | skip
               refine op_append (.tmp 82) (.tmp 86) 40 rfl _ _ _ vi rfl rfl hr ?_
               clear hHeld
               refine hK.out _ _ (HmkS.out _ (HKc.out.kept HBn.out)) (fun hHeld => ?_)
               clear hK K
               clear HO
               have HO := Lib.hid ho
               clear ho hg hat hty hr
               clear HBv
               have HBv := HBn
               clear HBn
               try clear vh
               rename World => vh
               try simp only [Act.put, List.setIfInBounds_toArray, List.set_cons_zero, List.set_cons_succ]
               refine wpAnyH_take (i := 14) (v := ?_) (by first | (simp only [List.getElem?_toArray, List.getElem?_cons_succ, List.getElem?_cons_zero] <;> rfl) | rfl) (by kernel_rfl) (by kernel_rfl) (by kernel_rfl) (by exact fun _ _ _ h => h) (Or.inl ⟨by rfl, ?_⟩) hHeld ?_
               rotate_left 1
               · (intro w hSw; (try dsimp only at hSw); (go_simp) <;> (with_reducible rfl))
               try simp only [Act.put, List.setIfInBounds_toArray, List.set_cons_zero, List.set_cons_succ])
            | (refine AllReadyH.cons (i := 15) (by first | (simp only [List.getElem?_toArray, List.getElem?_cons_succ, List.getElem?_cons_zero] <;> rfl) | rfl) (fun K hK => ?_) ?_
               have y2 := (HQ.out.box.kept HBv.out).cell 0 rfl
               have z2 := (HQ.out.box.kept HBv.out).fz 0
               have yl := (HQ.out.box.kept HBv.out).lt
               go_simp
               have hs := only_set vh pb 0 (.slice A7 n7 c7)
               have hq := QS.store HQ.out HBv.out HO.out (by have := HLe.out; have := HCm.out; have := HN7.out; omega) rfl (fun c hc => (HBr.out c hc).below HBv.out)
               refine hK.out _ _ (HmkS.out _ ((HKc.out.kept HBv.out).grown hs (fun e => HPc.out (Option.some.inj e).symm))) (fun _ => ?_)
               clear hK K y2 z2 yl hs
               try simp only [Act.put, List.setIfInBounds_toArray, List.set_cons_zero, List.set_cons_succ])
            | (exact AllReadyH.nil)
            | (refine wpAnyH_ready (rs := [0, 2, 7, 10]) (by decide +kernel) (by simp) ?_)
            | (refine wpAnyH_ready (rs := [2, 7, 10]) (by decide +kernel) (by simp) ?_)
            | (refine wpAnyH_ready (rs := [5, 7, 10]) (by decide +kernel) (by simp) ?_)
            | (refine wpAnyH_ready (rs := [7, 10]) (by decide +kernel) (by simp) ?_)
            | (refine wpAnyH_ready (rs := [8, 10]) (by decide +kernel) (by simp) ?_)
            | (refine wpAnyH_ready (rs := [10]) (by decide +kernel) (by simp) ?_)
            | (refine wpAnyH_ready (rs := [13]) (by decide +kernel) (by simp) ?_)
            | (refine wpAnyH_ready (rs := [15]) (by decide +kernel) (by simp) ?_)
            | (refine wpAnyH_ready (rs := [8]) (by decide +kernel) (by simp) ?_)
            | (refine wpAnyH_ready (rs := [7]) (by decide +kernel) (by simp) ?_)
            | (refine wpAnyH_ready (rs := [5, 10]) (by decide +kernel) (by simp) ?_)
            | (refine wpAnyH_ready (rs := [5]) (by decide +kernel) (by simp) ?_)
            | (refine wpAnyH_ready (rs := [5, 7]) (by decide +kernel) (by simp) ?_)
            | (refine wpAnyH_ready (rs := [2, 10]) (by decide +kernel) (by simp) ?_)
            | (refine wpAnyH_ready (rs := [2]) (by decide +kernel) (by simp) ?_)
            | (refine wpAnyH_ready (rs := [2, 7]) (by decide +kernel) (by simp) ?_)
            | (refine wpAnyH_ready (rs := [0, 7, 10]) (by decide +kernel) (by simp) ?_)
            | (refine wpAnyH_ready (rs := [0, 10]) (by decide +kernel) (by simp) ?_)
            | (refine wpAnyH_ready (rs := [0]) (by decide +kernel) (by simp) ?_)
            | (refine wpAnyH_ready (rs := [0, 7]) (by decide +kernel) (by simp) ?_)
            | (refine wpAnyH_ready (rs := [0, 2, 10]) (by decide +kernel) (by simp) ?_)
            | (refine wpAnyH_ready (rs := [0, 2]) (by decide +kernel) (by simp) ?_)
            | (refine wpAnyH_ready (rs := [0, 2, 7]) (by decide +kernel) (by simp) ?_)
            | (refine wpAnyH_done (by kernel_rfl) ?_ _
               clear hHeld
               have HQn := Lib.hid hq
               clear hq
               go_wp2_with fail
               go_roundw
               case rel => exact ⟨j + 1, cs', _, by go_num, by omega, HLj.out, HQn, HRi, HNu⟩
               case measure => simp [intOf]; omega)
    · obtain ⟨m, hm⟩ : ∃ m, m = cs.length := ⟨_, rfl⟩
      obtain ⟨CA, Cc, hv, hxa, hTR, hxb⟩ := own_typed HQ.out.row
      subst hv
      clear hxb
      have hP : PlanR wz CA cs := ⟨hTR, HQ.out.brs, fun c hc b hb => by
        rw [(HNu.out c hc).brs] at hb
        simp only [List.mem_singleton] at hb
        subst hb
        exact TRd.nil _ _ _⟩
      have hsm := fun c hc => (HNu.out c hc).small
      obtain ⟨hMd, hPlL, hOk⟩ := nums_made (d := 2147418112) (by omega) HNu.out (by omega)
      have HPl := Lib.hid (fun W (h : Below wz.heap.size wz W) => plan_any cs CA m Cc 2147418112 W ((csin_of hP hsm).below h) hm.symm (by omega) (by omega) (by omega))
      have HDe := Lib.hid (fun (x : RcM) (hx : x.ok) W (h : Below wz.heap.size wz W) => decide_any cs m CA Cc 2147418112 x W hm.symm (by omega) (rising_asc HRi.out) (hP.below h) hsm hx)
      have HSy := Lib.hid (fun (x : RcM) (hx : x.ok) (bs : List Nat) (hs : Sees (recW bs) x) (r : Nat) (hr : DecR 2147418112 cs x r) => nums_say HRi.out HNu.out hMd hx hs hr)
      have HMd := Lib.hid hMd
      have HOk := Lib.hid hOk
      have HBw := Lib.hid (HBw.out.trans (HQ.out.bel.mono HBw.out.size))
      have HLR := Lib.hid (HLR.out.below HQ.out.bel)
      have HKp := Lib.hid HQ.out.box
      rw [← hm] at HKp
      obtain ⟨PL, hPL⟩ : ∃ z, z = planL 2147418112 (cs.map CaV.m) := ⟨_, rfl⟩
      rw [← hPL] at HPl HSy HMd HOk hPlL
      obtain ⟨N, hN⟩ : ∃ z, z = PL.length := ⟨_, rfl⟩
      unfold PtPost at HPl
      rw [← hN] at HPl hPlL
      have HPk := Lib.hid hN.symm
      have hN65 : N ≤ 65000 := by omega
      clear hP hsm hMd hPlL hOk hTR hxa hPL hN hm HNu HRi HQ
      have p0 := HKp.out.cell 0 rfl
      have p1 := HKp.out.cell 1 rfl
      have pl := HKp.out.lt
      go_wp2_with fail
      refine (HPl.out _ (Below.refl _ _)).mono ?_
      clear p0 p1 pl HPl
      rintro e w8 ⟨A1, c1, rfl, hr1, hb8⟩
      have HR1 := Lib.hid hr1
      have HBz := Lib.hid hb8
      have HBw := Lib.hid (HBw.out.trans (hb8.mono HBw.out.size))
      clear hr1 hb8
      go_wp2_with fail
      refine (make_any PL N A1 c1 w8 HPk.out (by omega) HOk.out HR1.out).mono ?_
      rintro e w9 ⟨hb2, hmk, _⟩
      obtain ⟨v, hr, rfl⟩ := hmk HMd.out.ok
      have HIk := Lib.hid (make_oks PL HOk.out HMd.out.ok)
      have HIl := Lib.hid (make_len PL HMd.out.ok)
      have HGd := Lib.hid HMd.out.good
      have HSay := Lib.hid HMd.out.says
      obtain ⟨ins, hins⟩ : ∃ i, i = (makeF PL).2.ins := ⟨_, rfl⟩
      have hins' : (makeF PL).2.ins = ins := hins.symm
      rw [← hins] at hr HIk HIl HGd HSay
      obtain ⟨K, hK⟩ : ∃ K, K = ins.length := ⟨_, rfl⟩
      rw [← hK] at hr HIl
      have hK4 : K ≤ 4096 := HIl.out
      obtain ⟨Aa, ca, rfl, _⟩ := own_typed hr
      have HBm := Lib.hid hb2
      have HBw := Lib.hid (HBw.out.trans (hb2.mono HBw.out.size))
      have HKl := Lib.hid hK.symm
      have HL1 := Lib.hid (load_any ins K Aa ca w9 hK.symm HIk.out (own_rdI hr) (by unfold maxLen; omega))
      clear hb2 hmk hr hins hK HMd HIl
      have HBz := Lib.hid (HBz.out.trans (HBm.out.mono HBz.out.size))
      have HBw9 := HBw
      go_wp2_with fail
      refine HL1.out.mono ?_
      rintro e w10 ⟨_, _, _, hb3, hgood | ⟨hbad, _⟩⟩
      rotate_left 1
      · exact absurd HGd.out hbad
      obtain ⟨_, rfl, rfl, p, fb, fo, fc, hp, hpb, rfl, hF⟩ := hgood
      have HPw := Lib.hid (show w.heap.size ≤ p from Nat.le_trans HBw.out.size hp)
      have HPw2 := Lib.hid (show w9.heap.size ≤ p from hp)
      have HBw := Lib.hid (HBw.out.trans (hb3.mono HBw.out.size))
      have HB23 := Lib.hid hb3
      go_upto_region 18 with fail
      have hx := Bk.new w10 76 #[.int .i64 0, .int .i64 0] (l := [.int .i64 0, .int .i64 0]) rfl
      have hb4 := oneb w10 (.cells #[.int .i64 0, .int .i64 0] 76)
      generalize World.alloc w10 _ = w11 at hx hb4 ⊢
      have hF4 := hF.below hb4
      obtain ⟨BB, hBB⟩ : ∃ b, b = w10.heap.size := ⟨_, rfl⟩
      have HBw := Lib.hid (HBw.out.trans (hb4.mono HBw.out.size))
      have HB24 := Lib.hid (HB23.out.trans (hb4.mono HB23.out.size))
      rw [← hBB] at hF4 hx ⊢
      have HF := Lib.hid hF4
      have HX := Lib.hid hx
      have HXp := Lib.hid (show BB ≠ p by have := hF4.lp; omega)
      clear hb3 hp hpb hF hx hb4 hF4 hBB HL1 HB23
      have HB9 := Lib.hid HB24.out
      have HBz9 := HBz
      have y0 := HX.out.cell 0 rfl
      have y1 := HX.out.cell 1 rfl
      have yl := HX.out.lt
      have hQ : ∀ W : World, (binOp .neq 76 (.agg #[.int .i64 0, .int .i64 0]) (.agg #[.int .i64 0, .int .i64 0])).run Try.prog W = .ok (.bool false) W := fun W => by kernel_rfl
      obtain ⟨zn, hzn⟩ : ∃ k : Nat, z = (k : Int) := ⟨z.toNat, by have := HZ.out.1; omega⟩
      subst hzn
      have HLR := Lib.hid (HLR.out.below (HBz9.out.trans (HB9.out.mono HBz9.out.size)))
      have HB11 := Lib.hid (Below.refl w11.heap.size w11)
      go_wp2_with (first | (at_builtin; (refine append_listN rfl (.tmp 109) (.tmp 110) 86 22 rfl _ 1 4 infoU32 Try.underlying86 rfl (by decide) (by decide) w11.heap.size _ 1 [.int .u32 zn] rfl (own_one w11 _ _) A n c (u32s l) rfl HLA.out (HLR.out.below (oneb w11 _)) (u32s_one l) (by omega) (by simp) ?_); intro v1 w12 hown hgrow hat; have hb12 := (oneb w11 (.cells #[.int .u32 zn] 22)).grown hgrow (by simp) (fun g hg => by cases hg; exact Nat.le_refl _); have HB12 := Lib.hid hb12; have HO12 := Lib.hid hown; clear hown hgrow hat hb12) | (at_builtin; go_loud (refine append_listN rfl (.tmp 111) (.tmp 112) 86 22 rfl _ 1 4 infoU32 Try.underlying86 rfl (by decide) (by decide) w11.heap.size _ (1 + n) _ rfl (own_keepN HO12.out (oneb w12 (.cells #[.int .u32 0, .int .u32 4294967295] 22))) (some ⟨w12.heap.size, 0, none⟩) 2 2 [.int .u32 0, .int .u32 4294967295] rfl (fun e => by cases e) (Ju.bk_rd (n := 2) (z := 1) (Bk.new w12 22 #[.int .u32 0, .int .u32 4294967295] rfl) rfl) (two_ints 0 4294967295) (by omega) (by have := HB12.out.size; simp; omega) ?_); intro v2 w13 hown hgrow hat; obtain ⟨q3, hq3⟩ : ∃ q, q = 1 + n + 2 := ⟨_, rfl⟩; rw [← hq3] at hown; obtain ⟨LA, lc, hve, _, htr, _⟩ := own_typed hown; have HQ3 := Lib.hid hq3; have HLL := Lib.hid htr; have HB13 := Lib.hid ((HB12.out.trans ((oneb w12 (.cells #[.int .u32 0, .int .u32 4294967295] 22)).mono HB12.out.size)).grown hgrow (by have := HB12.out.size; simp; omega) (fun g e => (HO12.out.lt g e).1)); clear hown hgrow hat htr hq3 HO12 HB12; subst hve))
      have HLL := Lib.hid (show TRd w13 22 1 q3 LA (u32s (zn :: (l ++ [0, 4294967295]))) from by have := HLL.out; simpa [u32s] using this)
      obtain ⟨ll, hll⟩ : ∃ x, x = zn :: (l ++ [0, 4294967295]) := ⟨_, rfl⟩
      rw [← hll] at HLL
      have Hl32 := Lib.hid (show ∀ y ∈ ll, y < 4294967296 from fun y hy => by
        rw [hll] at hy
        rcases List.mem_cons.1 hy with rfl | hy
        · have := HZ.out.2; omega
        · rcases List.mem_append.1 hy with hy | hy
          · exact HL32.out y hy
          · simp only [List.mem_cons, List.not_mem_nil, or_false] at hy
            omega)
      have Hll := Lib.hid (show ll.length = q3 from by rw [hll]; have := HLn.out; have := HQ3.out; simp; omega)
      clear hll
      have hq63 : q3 ≤ 1000 := by have := HQ3.out; omega
      have HF := Lib.hid (HF.out.below (HB13.out.mono HF.out.le))
      have HB9 := Lib.hid (HB9.out.trans (HB13.out.mono HB9.out.size))
      have HW9 := Lib.hid (show Below w.heap.size w w9 from HBw9.out)
      clear HB13 HB24 HX HXp y0 y1 yl hQ HLR HL32 HZ HLn HLA HQ3 HB11 HBw
      go_wp2_with fail
      go_loopw [115] (fun iv wz => ∃ q st : Nat, iv = .int .i64 q ∧ q ≤ q3 ∧ st ≤ 20000 * q ∧ Hid (Fil wz BB p fb fo fc ins (3 * q) st) ∧ Hid (Below w9.heap.size w9 wz) ∧ Hid (TRd wz 22 1 q3 LA (u32s ll))) (fun iv _ => q3 - (intOf iv).toNat)
      case atStart => exact ⟨0, 0, rfl, Nat.zero_le _, by omega, HF, HB9, HLL⟩
      case round =>
        clear HF HB9 HLL
        rename World => wz
        obtain ⟨q, st, rfl, hq, hst, HF, HB9, HLL⟩ := hrel
        by_cases hin : q < q3
        · obtain ⟨y, hy⟩ : ∃ y, ll[q]? = some y := ⟨_, List.getElem?_eq_getElem (by have := Hll.out; omega)⟩
          have hy32 := Hl32.out y (List.mem_of_getElem? hy)
          obtain ⟨ya, yo, hA, hyl, hyc⟩ := HLL.out.rd.pos (by omega)
          subst hA
          have c0 := hyc q (.int .u32 y) (by unfold u32s; rw [List.getElem?_map, hy]; rfl)
          clear hyc hy
          go_upto_region 23 with fail
          obtain ⟨y1, hy1, e1⟩ := wrap_natU ((y : Int) + 1)
          obtain ⟨y2, hy2, e2⟩ := wrap_natU ((y : Int) - 1)
          have H3 := Lib.hid (show ∀ k x, [y, y1, y2][k]? = some x → x < 4294967296 from fun k x hx => by
            have := List.mem_of_getElem? hx
            simp only [List.mem_cons, List.not_mem_nil, or_false] at this
            rcases this with rfl | rfl | rfl
            · exact hy32
            · exact hy1
            · exact hy2)
          go_wp2_with fail
          have hb3 := oneb wz (.cells #[.int .u32 y, .int .u32 y1, .int .u32 y2] 22)
          have hk3 := Bk.new wz 22 #[.int .u32 y, .int .u32 y1, .int .u32 y2] (l := u32s [y, y1, y2]) rfl
          generalize World.alloc wz _ = wx at hb3 hk3 ⊢
          generalize wz.heap.size = g3 at hk3 ⊢
          have HF := Lib.hid (HF.out.below (hb3.mono HF.out.le))
          have HLL := Lib.hid (HLL.out.below hb3)
          have HB9 := Lib.hid (HB9.out.trans (hb3.mono HB9.out.size))
          have HK3 := Lib.hid hk3
          clear hb3 hk3 e1 e2 hy1 hy2 hyl
          go_loopw [126] (fun iv wy => ∃ k s3 : Nat, iv = .int .i64 k ∧ k ≤ 3 ∧ s3 ≤ st + 4096 * k ∧ Hid (Fil wy BB p fb fo fc ins (3 * q + k) s3) ∧ Hid (Below w9.heap.size w9 wy) ∧ Hid (TRd wy 22 1 q3 (some ⟨ya, yo, none⟩) (u32s ll)) ∧ Hid (Bk wy g3 22 (u32s [y, y1, y2]))) (fun iv _ => 3 - (intOf iv).toNat)
          case atStart => exact ⟨0, st, rfl, by omega, by omega, HF, HB9, HLL, HK3⟩
          case round =>
            clear HF HB9 HLL HK3 c0
            rename World => wy
            obtain ⟨k, s3, rfl, hk, hs3, HF, HB9, HLL, HK3⟩ := hrel
            by_cases hk3 : k < 3
            · obtain ⟨x, hx⟩ : ∃ x, [y, y1, y2][k]? = some x := ⟨_, List.getElem?_eq_getElem (by simpa using hk3)⟩
              have hx32 := H3.out k x hx
              have c1 := HK3.out.cell k (show (u32s [y, y1, y2])[k]? = some (.int .u32 x) by unfold u32s; rw [List.getElem?_map, hx]; rfl)
              have cl := HK3.out.lt
              clear hx
              go_upto_region 27 with fail
              have hbx := oneb wy (.cells #[.int .u32 x, .int .u32 3221225534, .int .u64 0, .int .u64 0, .int .u64 0, .int .u64 0, .int .u64 0, .int .u64 0, .int .u64 0] 81)
              have hkx := Bk.new wy 81 #[.int .u32 x, .int .u32 3221225534, .int .u64 0, .int .u64 0, .int .u64 0, .int .u64 0, .int .u64 0, .int .u64 0, .int .u64 0] (l := (⟨x, 3221225534, 0, 0, 0, 0, 0, 0, 0⟩ : RcM).cells) rfl
              generalize World.alloc wy _ = w13 at hbx hkx ⊢
              generalize wy.heap.size = gx at hkx ⊢
              obtain ⟨X, hX⟩ : ∃ X : RcM, X = ⟨x, 3221225534, 0, 0, 0, 0, 0, 0, 0⟩ := ⟨_, rfl⟩
              rw [← hX] at hkx
              have HXo := Lib.hid (show X.ok from by rw [hX]; exact ⟨hx32, by show 3221225534 < _; omega, by show 0 < _; omega, by show 0 < _; omega, by show 0 < _; omega, by show 0 < _; omega, by show 0 < _; omega, by show 0 < _; omega, by show 0 < _; omega⟩)
              have HF := Lib.hid (HF.out.below (hbx.mono HF.out.le))
              have HLL := Lib.hid (HLL.out.below hbx)
              have HK3 := Lib.hid (HK3.out.kept hbx)
              have HB9 := Lib.hid (HB9.out.trans (hbx.mono HB9.out.size))
              have HKx := Lib.hid hkx
              obtain ⟨bs, hbs, hrl, hse⟩ := rec_bs X HXo.out
              have hnl := run_len (recW bs) ins
              rw [HKl.out] at hnl
              have R1 := Lib.hid (run_any bs ins BB p fb fo fc (3 * q + k) s3 w13 HF.out HGd.out HIk.out hbs (by unfold Small40; omega) (by unfold Small40; omega))
              unfold RunTo at R1
              have HSx := Lib.hid (fun r hr => HSy.out X HXo.out bs hse r hr)
              rw [hins'] at HSx
              obtain ⟨rv, hrv⟩ : ∃ r, r = (runN (recW bs) ins).2 := ⟨_, rfl⟩
              rw [← hrv] at HSx
              rw [← hrv, hrl] at R1
              obtain ⟨n9, hn9⟩ : ∃ n, n = (runN (recW bs) ins).1.length := ⟨_, rfl⟩
              rw [← hn9] at R1 hnl
              have esv : ((rv : Int) != (rv : Int)) = false := by simp
              have k90 := hkx.cell 0 rfl
              have k91 := hkx.cell 1 rfl
              have k92 := hkx.cell 2 rfl
              have k93 := hkx.cell 3 rfl
              have k94 := hkx.cell 4 rfl
              have k95 := hkx.cell 5 rfl
              have k96 := hkx.cell 6 rfl
              have k97 := hkx.cell 7 rfl
              have k98 := hkx.cell 8 rfl
              have ylt := hkx.lt
              clear hbs hrl hse hrv hn9 hbx hkx hX c1 cl
              go_wp2_with fail
              refine R1.out.mono ?_
              clear k90 k91 k92 k93 k94 k95 k96 k97 k98 ylt R1
              rintro e w14 ⟨rfl, hf, hg⟩
              have HTy := Lib.hid HF.out.bk.tyb
              have HKx := Lib.hid (HKx.out.grown hg (fun e => (HKx.out.tyb.ne HTy.out (by decide)) (Option.some.inj e)))
              have HK3 := Lib.hid (HK3.out.grown hg (fun e => (HK3.out.tyb.ne HTy.out (by decide)) (Option.some.inj e)))
              have HLL := Lib.hid (HLL.out.grown hg (HLL.out.off HTy.out (by decide)))
              have HB9 := Lib.hid (only_below HB9.out hg HB9.out.size HPw2.out)
              have HF := Lib.hid hf
              clear hf hg HTy
              have hkx := HKx.out
              have k90 := hkx.cell 0 rfl
              have k91 := hkx.cell 1 rfl
              have k92 := hkx.cell 2 rfl
              have k93 := hkx.cell 3 rfl
              have k94 := hkx.cell 4 rfl
              have k95 := hkx.cell 5 rfl
              have k96 := hkx.cell 6 rfl
              have k97 := hkx.cell 7 rfl
              have k98 := hkx.cell 8 rfl
              have ylt := hkx.lt
              have hkp := HKp.out.kept (HBz9.out.trans (HB9.out.mono HBz9.out.size))
              have p0 := hkp.cell 0 rfl
              have p1 := hkp.cell 1 rfl
              have pl := hkp.lt
              clear hkx hkp
              go_wp2_with fail
              refine (HDe.out X HXo.out _ (HBz9.out.trans (HB9.out.mono HBz9.out.size))).mono ?_
              clear k90 k91 k92 k93 k94 k95 k96 k97 k98 ylt p0 p1 pl
              rintro e w15 ⟨r1, rfl, hb15, hdr⟩
              obtain rfl := HSx.out r1 hdr
              have HF := Lib.hid (HF.out.below (hb15.mono HF.out.le))
              have HLL := Lib.hid (HLL.out.below hb15)
              have HK3 := Lib.hid (HK3.out.kept hb15)
              have HB9 := Lib.hid (HB9.out.trans (hb15.mono HB9.out.size))
              clear hb15 hdr
              go_wp2_with fail
              go_roundw
              case rel => exact ⟨k + 1, s3 + n9, by go_num, by omega, by omega, HF, HB9, HLL, HK3⟩
              case measure => simp [intOf]; omega
            · have hk33 : k = 3 := by omega
              subst hk33
              go_wp2_with fail
              go_roundw
              case rel => exact ⟨q + 1, s3, by go_num, by omega, by omega, HF, HB9, HLL⟩
              case measure => simp [intOf]; omega
        · go_wp2_with fail
          go_ret
          exact ⟨rfl, HW9.out.trans (HB9.out.mono HW9.out.size)⟩
end Go.Proofs.Ytcageojoafkojaa.Lo
