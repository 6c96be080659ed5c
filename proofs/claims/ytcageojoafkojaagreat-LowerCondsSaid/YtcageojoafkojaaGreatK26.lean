/- A plan in memory decides what its policy says. -/
import Derived.Test.YtcageojoafkojaaGreatK25
import Derived.Test.YtcageojoafkojaaGreatK19
import Derived.Test.YtcageojoafkojaaGreatK21
import Derived.Test.YtcageojoafkojaaGreatK02
import Derived.Deep.Slices
import Derived.ChangeArms
import Derived.ChangeSlices
import Derived.DataReads
import Derived.ProofKit
import Derived.ChangeOld
import Derived.SliceStrings
import Derived.OpenShut
import Derived.Test.YtcageojoafkojaaGreatK09
import Derived.Test.YtcageojoafkojaaGreatK07
import Derived.Test.YtcageojoafkojaaGreatK18
import Derived.Test.YtcageojoafkojaaGreatK06
namespace Go.Proofs.YtcageojoafkojaaGreat.Ir
open Go.Proofs.YtcageojoafkojaaGreat.Me Go.RowKit
theorem asc_of {ms l : List RuleM} {cs : List CaV} (h : Sorted ms l) (e : cs.map CaV.m = ofF l) : Asc cs := fun i j c d hij hc hd => by
  have hp := (of_cases (sorted_num h)).1
  rw [← e, List.pairwise_map] at hp
  obtain ⟨h1, rfl⟩ := List.getElem?_eq_some_iff.1 hc
  obtain ⟨h2, rfl⟩ := List.getElem?_eq_some_iff.1 hd
  exact List.pairwise_iff_getElem.1 hp i j h1 h2 hij
theorem brF_is (d : Nat) (brs : List BrV) (x : RcM) : brF d brs x = (brS x (brs.map BrV.m)).getD d := by
  unfold brF brS
  rw [List.find?_map, Option.map_map]
  show (match brs.find? (allH x) with | some b => b.m.act | none => d) = ((brs.find? (allH x)).map _).getD d
  cases brs.find? (allH x) <;> rfl
theorem dec_says {ms l : List RuleM} {cs : List CaV} (h : Sorted ms l) (e : cs.map CaV.m = ofF l) {x : RcM} (hx : x.ok) {d r : Nat} (hr : DecR d cs x r) : r = saysR d ms x := by
  unfold saysR
  rcases hr with ⟨h1, h2⟩ | ⟨h1, h2⟩
  · rw [if_neg h1]; exact h2
  · rw [if_pos h1]
    obtain ⟨p1, p2⟩ := plan_says h hx d
    rcases h2 with ⟨c, hc, hcx, hr⟩ | ⟨hno, hr⟩
    · rw [hr, brF_is]
      exact p1 c.m (by rw [← e]; exact List.mem_map.2 ⟨c, hc, rfl⟩) hcx
    · rw [hr]
      refine p2 fun c hc => ?_
      rw [← e] at hc
      obtain ⟨c', hc', rfl⟩ := List.mem_map.1 hc
      exact hno c' hc'
/-- How long the branches of a plan are, and that their conditions may be. -/
theorem need_sub : ∀ (l : List CondM) (E : List (Int × Nat)) (left r : List CondM), needF E left l = some r → r.length ≤ left.length + l.length ∧ ∀ c ∈ r, c ∈ left ∨ c ∈ l
  | [], E, left, r, h => by
    unfold needF at h
    cases h
    exact ⟨by simp, fun c hc => Or.inl hc⟩
  | c :: t, E, left, r, h => by
    have hs : (if c ∈ left ∨ alwaysB c = true then left else left ++ [c]).length ≤ left.length + 1 ∧ ∀ d ∈ (if c ∈ left ∨ alwaysB c = true then left else left ++ [c]), d ∈ left ∨ d = c := by
      split
      · exact ⟨by omega, fun d hd => Or.inl hd⟩
      · exact ⟨by simp, fun d hd => (List.mem_append.1 hd).imp id List.mem_singleton.1⟩
    have done : ∀ E', needF E' (if c ∈ left ∨ alwaysB c = true then left else left ++ [c]) t = some r → r.length ≤ left.length + (c :: t).length ∧ ∀ d ∈ r, d ∈ left ∨ d ∈ c :: t := fun E' h' => by
      obtain ⟨h1, h2⟩ := need_sub t _ _ r h'
      refine ⟨by have := hs.1; rw [List.length_cons]; omega, fun d hd => ?_⟩
      rcases h2 d hd with g | g
      · rcases hs.2 d g with g | g
        · exact Or.inl g
        · exact Or.inr (by rw [g]; exact List.mem_cons_self)
      · exact Or.inr (List.mem_cons_of_mem _ g)
    unfold needF at h
    split at h
    · cases h
    · split at h
      · split at h
        · exact done _ h
        · cases h
      · exact done _ h
theorem add_sub (l : List BrM) (r : RuleM) : (addF l r).length ≤ l.length + 1 ∧ ∀ b ∈ addF l r, b ∈ l ∨ (b.act = r.act ∧ b.conds.length ≤ r.conds.length ∧ ∀ c ∈ b.conds, c ∈ r.conds) := by
  refine ⟨addF_len l r, fun b hb => ?_⟩
  unfold addF at hb
  split at hb
  · exact Or.inl hb
  · cases hF : needF [] [] r.conds with
    | none => rw [hF] at hb; exact Or.inl hb
    | some left =>
      rw [hF] at hb
      obtain ⟨h1, h2⟩ := need_sub _ _ _ _ hF
      rcases List.mem_append.1 hb with hb | hb
      · exact Or.inl hb
      · rw [List.mem_singleton.1 hb]
        exact Or.inr ⟨rfl, by simpa using h1, fun c hc => (h2 c hc).elim (fun h => by simp at h) id⟩
theorem fold_sub : ∀ (rs : List RuleM) (l : List BrM), (rs.foldl addF l).length ≤ l.length + rs.length ∧ ∀ b ∈ rs.foldl addF l, b ∈ l ∨ ∃ r ∈ rs, b.act = r.act ∧ b.conds.length ≤ r.conds.length ∧ ∀ c ∈ b.conds, c ∈ r.conds
  | [], l => ⟨by simp, fun b hb => Or.inl hb⟩
  | r :: t, l => by
    obtain ⟨h1, h2⟩ := fold_sub t (addF l r)
    obtain ⟨g1, g2⟩ := add_sub l r
    refine ⟨by rw [List.foldl_cons, List.length_cons]; omega, fun b hb => ?_⟩
    rcases h2 b hb with h | ⟨q, hq, h⟩
    · rcases g2 b h with h | h
      · exact Or.inl h
      · exact Or.inr ⟨r, by simp, h⟩
    · exact Or.inr ⟨q, List.mem_cons_of_mem _ hq, h⟩
/-- A plan's branches are of its policy's rules. -/
theorem plan_sub {ms l : List RuleM} (h : Sorted ms l) : ∀ c ∈ ofF l, c.brs.length ≤ ms.length ∧ ∀ b ∈ c.brs, ∃ r ∈ ms, r.num = c.num ∧ b.act = r.act ∧ b.conds.length ≤ r.conds.length ∧ ∀ q ∈ b.conds, q ∈ r.conds := fun c hc => by
  obtain ⟨_, h2, _⟩ := of_cases (sorted_num h)
  obtain ⟨_, e⟩ := h2 c hc
  obtain ⟨g1, g2⟩ := fold_sub (rulesOf c.num l) []
  rw [← e] at g1 g2
  refine ⟨?_, fun b hb => ?_⟩
  · have h3 : (rulesOf c.num l).length ≤ l.length := List.length_filter_le _ _
    rw [h.len] at h3
    simp at g1
    omega
  · rcases g2 b hb with g | ⟨r, hr, g⟩
    · simp at g
    · obtain ⟨h3, h4⟩ := List.mem_filter.1 hr
      exact ⟨r, h.mem r h3, of_decide_eq_true h4, g⟩
theorem plan_len {ms l : List RuleM} (h : Sorted ms l) : (ofF l).length ≤ ms.length := by
  have e := st_len' l none
  rw [← h.len]
  unfold ofF
  cases hs : l.foldl stF none with
  | none => simp [stE]
  | some x => rw [hs] at e; simp only at e; simp [stE]; omega
end Go.Proofs.YtcageojoafkojaaGreat.Ir
namespace Go.Proofs.YtcageojoafkojaaGreat.Lo
open Go.RowKit Go.Proofs.YtcageojoafkojaaGreat.Ju Go.Proofs.YtcageojoafkojaaGreat.Me Go.Proofs.YtcageojoafkojaaGreat.Ir
theorem csin_of {w : World} {A : Option Addr} {cs : List CaV} (h : PlanR w A cs) (hs : ∀ c ∈ cs, c.brs.length ≤ 100000 ∧ ∀ b ∈ c.brs, b.m.conds.length ≤ 100000 ∧ ∀ q ∈ b.m.conds, q.ok) : CsIn w cs A :=
  ⟨h.row.rd, fun c hc => ⟨(h.brs c hc).rd, (hs c hc).1, fun b hb => ⟨TRd.rd (h.con c hc b hb), (hs c hc).2 b hb⟩⟩⟩
theorem cwf_of {c : CondM} (h : c.ok) : CWf c := ⟨h.2.2.1, h.2.2.2.1, h.2.2.2.2⟩
theorem of_fine {ms l : List RuleM} (h : Sorted ms l) (hok : ∀ r ∈ ms, r.ok) : ∀ c ∈ ofF l, CaWf c := fun c hc => by
  obtain ⟨_, g⟩ := plan_sub h c hc
  obtain ⟨⟨r, hr, hn⟩, _⟩ := (of_cases (sorted_num h)).2.1 c hc
  refine ⟨by rw [← hn]; exact (hok r (h.mem r hr)).1, fun b hb => ?_⟩
  obtain ⟨r2, hr2, _, ha, _, hcs⟩ := g b hb
  exact ⟨by rw [ha]; exact (hok r2 hr2).2.1, fun q hq => cwf_of ((hok r2 hr2).2.2.2 q (hcs q hq))⟩
theorem of_size {ms l : List RuleM} {R C : Nat} (h : Sorted ms l) (hr : ms.length ≤ R) (hc : ∀ r ∈ ms, r.conds.length ≤ C) : ((ofF l).map szC).sum ≤ ((8 * C + 2) * R + 7) * R := by
  have h1 : ∀ c ∈ ofF l, szC c ≤ (8 * C + 2) * R + 7 := fun c hcm => by
    obtain ⟨g1, g2⟩ := plan_sub h c hcm
    have h2 : (c.brs.map szB).sum ≤ (8 * C + 2) * c.brs.length := sum_le szB (8 * C + 2) c.brs fun b hb => by
      obtain ⟨r, hrm, _, _, hl, _⟩ := g2 b hb
      have := hc r hrm
      unfold szB; omega
    have h3 : (8 * C + 2) * c.brs.length ≤ (8 * C + 2) * R := Nat.mul_le_mul_left _ (by omega)
    unfold szC; omega
  have h4 := sum_le szC _ (ofF l) h1
  have h5 : ((8 * C + 2) * R + 7) * (ofF l).length ≤ ((8 * C + 2) * R + 7) * R := Nat.mul_le_mul_left _ (Nat.le_trans (Go.Proofs.YtcageojoafkojaaGreat.Ir.plan_len h) hr)
  omega
theorem ca_says {ms l : List RuleM} (h : Sorted ms l) {x : RcM} (hx : x.ok) (d : Nat) : (if x.arch = 3221225534 then caV x d (ofF l) x.num else 2147483648) = saysR d ms x := by
  obtain ⟨p1, p2⟩ := plan_says h hx d
  unfold saysR
  by_cases ha : x.arch = 3221225534
  · rw [if_pos ha, if_pos ha]
    unfold caV
    cases hf : (ofF l).find? (fun c => decide (x.num = c.num)) with
    | none =>
      refine p2 fun c hc e => ?_
      have := List.find?_eq_none.1 hf c hc
      simp only [decide_eq_true_eq] at this
      exact this e.symm
    | some c =>
      have hm := List.mem_of_find?_eq_some hf
      have he := List.find?_some hf
      simp only [decide_eq_true_eq] at he
      exact p1 c hm he.symm
  · rw [if_neg ha, if_neg ha]
/-- The code of a policy's plan, if it could be made. -/
theorem code_says {ms l : List RuleM} (h : Sorted ms l) (hok : ∀ r ∈ ms, r.ok) {d : Nat} (hm : MadeR (planL d (ofF l))) {x : RcM} (hx : x.ok) {bs : List Nat} (hs : Sees (recW bs) x) : (runN (recW bs) (makeF (planL d (ofF l))).2.ins).2 = saysR d ms x := by
  rw [made_says hm (of_cases (sorted_num h)).1 (of_fine h hok) hx hs, ca_says h hx]
end Go.Proofs.YtcageojoafkojaaGreat.Lo
namespace Go.Proofs.YtcageojoafkojaaGreat
set_option maxRecDepth 100000
open Go.ChangeShapes Go.WideShapes Go.ChangeAt Go.RowKit Go.Deep
section
variable {H : Type} {enc : TypeId × Value → H} {w : World} {base : Nat} {spare : Nat → Bool} {held : Bool} {fuel : Nat} {x : DataW H × List MemPlace} {A : Option Addr} {len cap : Nat}
theorem add_at (b o j : Nat) : (⟨b, o, none⟩ : Addr).add j = ⟨b, o + j, none⟩ := by unfold Addr.add; split <;> simp_all
end
end Go.Proofs.YtcageojoafkojaaGreat
namespace Go.Proofs.YtcageojoafkojaaGreat
set_option maxRecDepth 100000
open Go.ChangeShapes Go.WideShapes Go.ChangeAt Go.RowKit Go.Deep
theorem rec_at : ∀ (l : List (List Nat)) (k j : Nat), j < 9 → (l.flatMap Rec.recL)[k * 9 + j]? = (l[k]?).bind (fun x => (Rec.recL x)[j]?)
  | [], k, j, _ => by simp
  | x :: l, k, j, hj => by
    rw [List.flatMap_cons]
    cases k with
    | zero => rw [List.getElem?_append_left (by simp [Rec.recL]; omega)]; simp
    | succ k =>
      rw [List.getElem?_append_right (by simp [Rec.recL]; omega), show (Rec.recL x).length = 9 from rfl, show (k + 1) * 9 + j - 9 = k * 9 + j from by omega, rec_at l k j hj]
      simp
section
variable {H : Type} {enc : TypeId × Value → H} {w : World} {base : Nat} {spare : Nat → Bool} {held : Bool} {fuel : Nat} {x : DataW H × List MemPlace} {A : Option Addr} {len cap : Nat}
theorem rec_cells {cs : List Value} (hl : cs.length = 9) (hf : DataW.trod enc Tryz.prog w base spare held fuel 58 cs = some x) : ∃ bs, Rec.IsRec bs ∧ cs = Rec.recL bs := by
  have h8 : Tryz.prog.cellsOf 30 = 1 := by kernel_rfl
  have h64 : Tryz.prog.cellsOf 55 = 1 := by kernel_rfl
  have h6 : Tryz.prog.cellsOf 56 = 6 := by kernel_rfl
  match cs, hl with
  | [c0, c1, c2, c3, c4, c5, c6, c7, c8], _ =>
    obtain ⟨xs, n, _, _, _, hlen, hg⟩ := DataW.trod_struct Tryz.underlying58 hf
    match xs, hlen with
    | [y0, y1, y2, y3], _ =>
      obtain ⟨n0, rfl, g0⟩ := Rec.u32_of ⟨_, Rec.one_field (hg 0 _ rfl) rfl rfl h8 rfl⟩
      obtain ⟨n1, rfl, g1⟩ := Rec.u32_of ⟨_, Rec.one_field (hg 1 _ rfl) rfl rfl h8 rfl⟩
      obtain ⟨n2, rfl, g2⟩ := Rec.u64_of ⟨_, Rec.one_field (hg 2 _ rfl) rfl rfl h64 rfl⟩
      have h3 : DataW.trod enc Tryz.prog w base spare held n 56 [c3, c4, c5, c6, c7, c8] = some y3 := by
        have := hg 3 _ rfl
        exact this
      obtain ⟨zs, m, _, _, _, hzl, hz⟩ := DataW.trod_array Tryz.underlying56 h3
      rw [h64] at hz
      obtain ⟨n3, rfl, g3⟩ := Rec.u64_of (Rec.some_field (i := 0) (by omega) (hz 0 (by omega)))
      obtain ⟨n4, rfl, g4⟩ := Rec.u64_of (Rec.some_field (i := 1) (by omega) (hz 1 (by omega)))
      obtain ⟨n5, rfl, g5⟩ := Rec.u64_of (Rec.some_field (i := 2) (by omega) (hz 2 (by omega)))
      obtain ⟨n6, rfl, g6⟩ := Rec.u64_of (Rec.some_field (i := 3) (by omega) (hz 3 (by omega)))
      obtain ⟨n7, rfl, g7⟩ := Rec.u64_of (Rec.some_field (i := 4) (by omega) (hz 4 (by omega)))
      obtain ⟨n8, rfl, g8⟩ := Rec.u64_of (Rec.some_field (i := 5) (by omega) (hz 5 (by omega)))
      obtain ⟨bs, hl, hb, e0, e1, e2, e3, e4, e5, e6, e7, e8⟩ := Rec.record_bytes n0 n1 n2 n3 n4 n5 n6 n7 n8 g0 g1 g2 g3 g4 g5 g6 g7 g8
      exact ⟨bs, ⟨hl, Rec.small8_of hb⟩, by rw [Rec.recL, e0, e1, e2, e3, e4, e5, e6, e7, e8]⟩
end
end Go.Proofs.YtcageojoafkojaaGreat
namespace Go.Proofs.YtcageojoafkojaaGreat.Lo
open Go.Proofs.YtcageojoafkojaaGreat.Ju
theorem sml_i {a b c d : Nat} (h1 : a < 65536) (h2 : b < 256) (h3 : c < 256) (h4 : d < 4294967296) : Ins.ok ⟨a, b, c, d⟩ := ⟨h1, h2, h3, h4⟩
theorem skip_okI {n : Nat} (h : n < 4294967296) : (skipI n).ok := sml_i (by omega) (by omega) (by omega) h
theorem reach_ok {l : List Ins} {b : Nat} (hl : ∀ i ∈ l, i.ok) (hn : l.length ≤ 5000) : ∀ i ∈ (reachF l b).2, i.ok := by
  unfold reachF
  split
  · exact hl
  · intro i hi
    rcases List.mem_cons.1 hi with rfl | hi
    · exact skip_okI (by omega)
    · exact hl i hi
theorem lay_oks {p : PtM} {c : CdM} (hp : p.ok) (hc : ∀ i ∈ c.ins, i.ok) (hn : c.ins.length ≤ 4096) : ∀ i ∈ (layF p c).2.ins, i.ok := by
  unfold layF
  split
  · split <;> exact hc
  · split
    · split
      · exact hc
      · intro i hi
        rcases List.mem_cons.1 hi with rfl | hi
        · exact hp.i
        · exact hc i hi
    · split
      · split
        · exact hc
        · split
          · intro i hi
            rename_i bt bf _ _
            have h1 := reach_len c.ins bf
            have h2 := reach_len (reachF c.ins bf).2 bt
            rcases List.mem_cons.1 hi with rfl | hi
            · exact sml_i hp.i.1 (by omega) (by omega) hp.i.2.2.2
            · exact reach_ok (reach_ok hc (by omega)) (by omega) i hi
          · exact hc
      · split
        · split
          · intro i hi
            rcases List.mem_cons.1 hi with rfl | hi
            · exact skip_okI (by omega)
            · exact hc i hi
          · exact hc
        · exact hc
theorem make_oks : ∀ l : List PtM, (∀ q ∈ l, q.ok) → (makeF l).1 = 0 → ∀ i ∈ (makeF l).2.ins, i.ok
  | [], _, _ => fun i hi => by simp [makeF] at hi
  | p :: t, hl, h => by
    rw [makeF_cons] at h ⊢
    obtain ⟨h0, _, h2⟩ := step_zero h
    rw [h2]
    exact lay_oks (hl p List.mem_cons_self) (make_oks t (fun q hq => hl q (List.mem_cons_of_mem _ hq)) h0) (make_len t h0)
theorem own_rdI {w : World} {B n : Nat} {A : Option Addr} {c : Nat} {xs : List Value} (h : w.ownsRow B 110 4 (.slice A n c) n xs) : Rd w 4 n A xs := by
  obtain ⟨A9, c9, e, _, h, _⟩ := own_typed h
  cases e
  exact h.rd
theorem smJ {n : Nat} (h : n ≤ 1000000) : Small40 n := by unfold Small40; omega
end Go.Proofs.YtcageojoafkojaaGreat.Lo
namespace Go.Proofs.YtcageojoafkojaaGreat.Lo
open Go.RowKit Go.Maps Go.WideMaps Go.WideElems Go.ChangeMaps Go.Proofs.YtcageojoafkojaaGreat.Ju Go.Proofs.YtcageojoafkojaaGreat.Me Go.Proofs.YtcageojoafkojaaGreat.Ir
set_option maxRecDepth 100000
theorem none_made : MadeR (planL 2147221504 []) := made_of (plan_fwd _ _) (plan_fine (by omega) (by simp) (by show (2 : Nat) ≤ _; omega)).fin (plan_last _ _) (by have := wt_len (planL 2147221504 []); have := plan_len 2147221504 []; simp at this; omega)
theorem none_ok : ∀ p ∈ planL 2147221504 [], p.ok := (plan_fine (by omega) (by simp) (by show (2 : Nat) ≤ _; omega)).ok
theorem says_2 : ∃ b1 b2 : List Nat, Rec.IsRec b1 ∧ Rec.IsRec b2 ∧ Rec.recL b1 = [.int .u32 0, .int .u32 3221225534, .int .u64 0, .int .u64 0, .int .u64 0, .int .u64 0, .int .u64 0, .int .u64 0, .int .u64 0] ∧ Rec.recL b2 = [.int .u32 0, .int .u32 0, .int .u64 0, .int .u64 0, .int .u64 0, .int .u64 0, .int .u64 0, .int .u64 0, .int .u64 0] ∧
    (runN (recW b1) (makeF (planL 2147221504 [])).2.ins).2 = 2147221504 ∧ (runN (recW b2) (makeF (planL 2147221504 [])).2.ins).2 = 2147483648 := by
  have h1 : (⟨0, 3221225534, 0, 0, 0, 0, 0, 0, 0⟩ : RcM).ok := ⟨by simp, by simp, by simp, by simp, by simp, by simp, by simp, by simp, by simp⟩
  have h2 : (⟨0, 0, 0, 0, 0, 0, 0, 0, 0⟩ : RcM).ok := ⟨by simp, by simp, by simp, by simp, by simp, by simp, by simp, by simp, by simp⟩
  obtain ⟨b1, i1, r1, s1⟩ := rec_bs _ h1
  obtain ⟨b2, i2, r2, s2⟩ := rec_bs _ h2
  refine ⟨b1, b2, i1, i2, r1, r2, ?_, ?_⟩
  · rw [made_says none_made List.Pairwise.nil (by simp) h1 s1]; rfl
  · rw [made_says none_made List.Pairwise.nil (by simp) h2 s2]; rfl
set_option maxHeartbeats 8000000 in
theorem awake_any (w : World) : Calls Tryz.prog 5 #[] w (Ju.RetB true w) := by
  have hPk := plan_len 2147221504 []
  rw [List.map_nil, List.sum_nil] at hPk
  have HP := Lib.hid (fun W => plan_any [] none 0 0 2147221504 W ⟨Rd.nil _ _ _, by simp⟩ rfl (Nat.le_refl _) (by omega) (by rw [List.map_nil]; omega))
  obtain ⟨b1, b2, i1, i2, r1, r2, s1, s2⟩ := says_2
  have HMd := Lib.hid none_made
  have HOk := Lib.hid none_ok
  rw [show ([] : List CaV).map CaV.m = [] from rfl] at HP
  obtain ⟨PL, hPL⟩ : ∃ z, z = planL 2147221504 [] := ⟨_, rfl⟩
  rw [← hPL] at HP HMd HOk hPk s1 s2
  obtain ⟨N, hN⟩ : ∃ z, z = PL.length := ⟨_, rfl⟩
  unfold PtPost at HP
  rw [← hN] at HP hPk
  have HPk := Lib.hid hN.symm
  have HS1 := Lib.hid s1
  have HS2 := Lib.hid s2
  have HI1 := Lib.hid i1
  have HI2 := Lib.hid i2
  have HE1 := Lib.hid r1
  have HE2 := Lib.hid r2
  clear hPL hN s1 s2 i1 i2 r1 r2
  go_enter Tryz.func5, Tryz.ntmps5
  go_wp2_with fail
  refine (HP.out _).mono ?_
  rintro e w1 ⟨A1, c1, rfl, hr1, hb1⟩
  have HR1 := Lib.hid hr1
  have HBw := Lib.hid hb1
  clear hr1 hb1 HP
  go_wp2_with fail
  refine (make_any PL N A1 c1 w1 HPk.out (by omega) HOk.out HR1.out).mono ?_
  rintro e w2 ⟨hb2, hmk, _⟩
  obtain ⟨v, hr, rfl⟩ := hmk HMd.out.ok
  have HIk := Lib.hid (make_oks PL HOk.out HMd.out.ok)
  have HIl := Lib.hid (make_len PL HMd.out.ok)
  have HGd := Lib.hid HMd.out.good
  have HSay := Lib.hid HMd.out.says
  obtain ⟨ins, hins⟩ : ∃ i, i = (makeF PL).2.ins := ⟨_, rfl⟩
  rw [← hins] at hr HIk HIl HGd HSay HS1 HS2
  obtain ⟨K, hK⟩ : ∃ K, K = ins.length := ⟨_, rfl⟩
  rw [← hK] at hr HIl
  have hK4 : K ≤ 4096 := HIl.out
  obtain ⟨Aa, ca, rfl, _⟩ := own_typed hr
  have HBw := Lib.hid (HBw.out.trans (hb2.mono HBw.out.size))
  have HKl := Lib.hid hK.symm
  have HL1 := Lib.hid (load_any ins K Aa ca w2 hK.symm HIk.out (own_rdI hr) (by unfold maxLen; omega))
  clear hb2 hmk hr hins hK HMd HIl
  go_wp2_with fail
  refine HL1.out.mono ?_
  rintro e w3 ⟨_, _, _, hb3, hgood | ⟨hbad, _⟩⟩
  rotate_left 1
  · exact absurd HGd.out hbad
  obtain ⟨_, rfl, rfl, p, fb, fo, fc, hp, hpb, rfl, hF⟩ := hgood
  have HPw := Lib.hid (show w.heap.size ≤ p from Nat.le_trans HBw.out.size hp)
  have HPw2 := Lib.hid (show w2.heap.size ≤ p from hp)
  have HBw := Lib.hid (HBw.out.trans (hb3.mono HBw.out.size))
  have HB23 := Lib.hid hb3
  go_upto_region 3 with fail
  have hx := Bk.new w3 51 #[.int .i64 0, .int .i64 0] (l := [.int .i64 0, .int .i64 0]) rfl
  have hb4 := oneb w3 (.cells #[.int .i64 0, .int .i64 0] 51)
  generalize World.alloc w3 _ = w4 at hx hb4 ⊢
  have hF4 := hF.below hb4
  obtain ⟨BB, hBB⟩ : ∃ b, b = w3.heap.size := ⟨_, rfl⟩
  have HBw := Lib.hid (HBw.out.trans (hb4.mono HBw.out.size))
  have HB24 := Lib.hid (HB23.out.trans (hb4.mono HB23.out.size))
  rw [← hBB] at hF4 hx ⊢
  have HF := Lib.hid hF4
  have HX := Lib.hid hx
  have HXp := Lib.hid (show BB ≠ p by have := hF4.lp; omega)
  clear hb3 hp hpb hF hx hb4 hF4 hBB HL1 HB23
  have hnl := run_len (recW b1) ins
  rw [HKl.out] at hnl
  have R1 := Lib.hid (run_any b1 ins BB p fb fo fc 0 0 w4 HF.out HGd.out HIk.out HI1.out (smJ (by omega)) (smJ (by omega)))
  have R2 := Lib.hid (fun W rn st h hs1 hs2 => run_any b2 ins BB p fb fo fc rn st W h HGd.out HIk.out HI2.out (smJ hs1) (smJ hs2))
  unfold RunTo at R1 R2
  rw [HS1.out, HE1.out] at R1
  rw [HS2.out, HE2.out] at R2
  obtain ⟨n1, hn1⟩ : ∃ n, n = (runN (recW b1) ins).1.length := ⟨_, rfl⟩
  rw [← hn1] at R1 hnl
  obtain ⟨n2, hn2⟩ : ∃ n, n = (runN (recW b2) ins).1.length := ⟨_, rfl⟩
  rw [← hn2] at R2
  clear hn1 hn2
  go_wp2_with fail
  refine R1.out.mono ?_
  rintro e w5 ⟨rfl, hf5, hg5⟩
  have HF := Lib.hid hf5
  have HX := Lib.hid (HX.out.grown hg5 (fun e => by injection e with e; exact HXp.out e))
  have HBw := Lib.hid (only_below HBw.out hg5 HBw.out.size HPw.out)
  clear hf5 hg5 R1
  go_wp2_with fail
  refine (R2.out _ _ _ HF.out (by omega) (by omega)).mono ?_
  rintro e w6 ⟨rfl, hf6, hg6⟩
  have hx := HX.out.grown hg6 (fun e => by injection e with e; exact HXp.out e)
  have HBw := Lib.hid (only_below HBw.out hg6 HBw.out.size HPw.out)
  have y0 := hx.cell 0 rfl
  have y1 := hx.cell 1 rfl
  have yl := hx.lt
  have hQ : ∀ W : World, (binOp .eql 51 (.agg #[.int .i64 0, .int .i64 0]) (.agg #[.int .i64 0, .int .i64 0])).run Tryz.prog W = .ok (.bool true) W := fun W => by kernel_rfl
  clear hf6 hg6 hx R2
  go_wp2_with fail
  go_ret
  exact ⟨rfl, HBw.out⟩
end Go.Proofs.YtcageojoafkojaaGreat.Lo
