/- slices.SortStableFunc at rules, by their order. -/
import Derived.Test.YtgdoampokcpagaaIrW
import Derived.Test.YtgdoampokcpagaaIrI
import Derived.Test.YtgdoampokcpagaaIrO
import Derived.Test.YtgdoampokcpagaaGa
import Derived.Laws.AppendOwn
namespace Go.Proofs.Ytgdoampokcpagaa.Ir
open Go.Shelf Go.RowKit Go.Lib Go.Sort Go.Proofs.Ytgdoampokcpagaa.Rec
theorem rv_len (x : RV) : (RV.enc x).length = 3 := rfl
theorem rv_one (x : RV) : ∀ v ∈ RV.enc x, v.oneCell' = true := fun v hv => by
  simp [RV.enc, RuleV.cells] at hv
  rcases hv with rfl | rfl | rfl <;> rfl
theorem flat3 (l : List RV) (i c : Nat) (hc : c < 3) (hi : i < l.length) : (l.flatMap RV.enc)[i * 3 + c]? = (RV.enc l[i])[c]? := by
  induction l generalizing i with
  | nil => simp at hi
  | cons x t ih =>
    cases i with
    | zero => rw [List.flatMap_cons, List.getElem?_append_left (by rw [rv_len]; omega)]; simp
    | succ i =>
      rw [List.flatMap_cons, List.getElem?_append_right (by rw [rv_len]; omega), rv_len, show (i + 1) * 3 + c - 3 = i * 3 + c from by omega]
      simpa using ih i (by simpa using hi)
theorem holds_own {w : World} {g : Nat} {cur : Array Value} {e : TypeId} {l : List RV} (hb : w.heap[g]? = some (.cells cur e (0, 0))) (ht : cur.toList.take (l.length * 3) = l.flatMap RV.enc) : Sort.HoldsK RV.enc 3 w g 0 l.toArray := by
  intro t ht'
  have ht2 : t < l.length * 3 := by simpa using ht'
  refine ⟨?_, by simp [World.frozen?, hb]⟩
  have hq : t / 3 < l.length := by omega
  have hr : t % 3 < 3 := Nat.mod_lt _ (by omega)
  rw [Sort.get_flatK _ _ _ _ (by simpa using ht2)]
  have h1 : (cur.toList.take (l.length * 3))[t]? = (l.flatMap RV.enc)[t]? := by rw [ht]
  rw [List.getElem?_take_of_lt ht2] at h1
  have h2 := flat3 l (t / 3) (t % 3) hr hq
  rw [show t / 3 * 3 + t % 3 = t from by omega] at h2
  rw [h2] at h1
  have h3 : l.toArray[t / 3]! = l[t / 3] := by rw [getElem!_pos _ _ (by simpa using hq)]; simp
  rw [h3, getElem!_pos _ _ (by rw [rv_len]; exact hr)]
  simp only [World.cell?, hb, Nat.zero_add]
  simp only [Option.isSome_none, Bool.false_eq_true, if_false]
  rw [← Array.getElem?_toList, h1, List.getElem?_eq_getElem (by rw [rv_len]; exact hr)]
  rfl
theorem sorted_below {w : World} {B g n : Nat} {os : Array Obj} (d : Array RV) (hg : B ≤ g) (hB : B ≤ w.heap.size) : Go.RowKit.Below B w (sortWorldK RV.enc 3 w g 0 n d os) := by
  refine ⟨rfl, rfl, rfl, by simp [sortWorldK, Sort.grow, Sort.putRowK, Sort.putRow, Sort.mapBlock, Sort.ahead], fun k hk => ?_⟩
  have hne' : g ≠ k := by omega
  unfold sortWorldK
  rw [Sort.heap_grow_old _ _ (by simpa [Sort.putRowK, Sort.putRow, Sort.mapBlock, Sort.ahead] using (by omega : k < w.heap.size))]
  simp [Sort.putRowK, Sort.putRow, Sort.mapBlock, Sort.ahead, Array.getElem?_modify, hne']
theorem rd_holds {w : World} {g : Nat} {d : Array RV} (h : Sort.HoldsK RV.enc 3 w g 0 d) (hg : g < w.heap.size) : Rd w 3 d.size (some ⟨g, 0, none⟩) ((d.toList.map (·.1)).flatMap RuleV.cells) := by
  have e : (d.toList.map (·.1)).flatMap RuleV.cells = d.toList.flatMap RV.enc := by rw [List.flatMap_map]; rfl
  rw [e]
  have hl : (d.toList.flatMap RV.enc).length = d.size * 3 := by
    rw [List.length_flatMap]; simp only [rv_len, List.map_const', List.sum_replicate_nat, Array.length_toList]
  refine ⟨hl, Or.inr ⟨g, 0, rfl, hg, fun j u hu => ?_⟩⟩
  have hj : j < d.size * 3 := by rw [← hl]; exact (List.getElem?_eq_some_iff.1 hu).1
  have h1 := (h j (by simpa using hj)).1
  rw [h1, Sort.get_flatK _ _ _ _ hj]
  have hq : j / 3 < d.toList.length := by simp; omega
  have hr : j % 3 < 3 := Nat.mod_lt _ (by omega)
  have h2 := flat3 d.toList (j / 3) (j % 3) hr hq
  rw [show j / 3 * 3 + j % 3 = j from by omega, hu, List.getElem?_eq_getElem (by rw [rv_len]; exact hr)] at h2
  have h3 : d[j / 3]! = d.toList[j / 3] := by rw [getElem!_pos d _ (by simpa using hq)]; simp
  rw [h3, getElem!_pos _ _ (by rw [rv_len]; exact hr)]
  exact h2.symm
/-- What comes of a sort: the rules in their order, those of one class as they were. -/
structure Sorted (l l' : List RuleM) : Prop where
  len : l'.length = l.length
  mem : ∀ r ∈ l', r ∈ l
  srt : l'.Pairwise fun x y => ¬ ordF y x < 0
  stab : ∀ n s, l'.filter (fun r => decide (r.num = n ∧ strN r.act = s)) = l.filter (fun r => decide (r.num = n ∧ strN r.act = s))
theorem ord_lt (a b : RuleM) : ordF a b < 0 ↔ a.num < b.num ∨ a.num = b.num ∧ strN b.act < strN a.act := by
  unfold ordF
  by_cases h1 : a.num < b.num
  · simp [h1]
  · by_cases h2 : b.num < a.num
    · simp [h1, h2]; omega
    · by_cases h3 : strN b.act < strN a.act
      · simp [h1, h2, h3]; omega
      · by_cases h4 : strN a.act < strN b.act <;> simp [h1, h2, h3, h4]
theorem sorted_of {l l' : List RV} (h : Moved (ltOf cf) 0 l.length l.toArray l'.toArray) (hs : SortedIn (ltOf cf) 0 l.length l'.toArray) : Sorted (l.map (·.1.m)) (l'.map (·.1.m)) ∧ l'.length = l.length ∧ ∀ r ∈ l', r ∈ l := by
  have hz : l'.length = l.length := by simpa using h.size
  have hst : Stab (ltOf cf) l l' := by
    have := h.stab
    simpa [seg, hz, List.take_of_length_le] using this
  have hsr : Srt (ltOf cf) l' := by
    have := (seg_srt (lt := ltOf cf) (d := l'.toArray) (i := 0) (j := l.length) (by simp [hz])).2 hs
    simpa [seg, ← hz] using this
  refine ⟨⟨by simp [hz], fun r hr => ?_, ?_, fun n s => ?_⟩, hz, fun r hr => hst.mem swo hr⟩
  · obtain ⟨x, hx, rfl⟩ := List.mem_map.1 hr
    exact List.mem_map.2 ⟨x, hst.mem swo hx, rfl⟩
  · rw [List.pairwise_map]
    exact hsr.imp fun {x y} h => of_decide_eq_false (show decide (ordF y.1.m x.1.m < 0) = false from h)
  · rw [List.filter_map, List.filter_map]
    by_cases hE : ∃ c : RV, c.1.m.num = n ∧ strN c.1.m.act = s
    · obtain ⟨c, hc1, hc2⟩ := hE
      have e : ((fun r : RuleM => decide (r.num = n ∧ strN r.act = s)) ∘ fun x : RV => x.1.m) = eqv (ltOf cf) c := by
        funext x
        have h1 := ord_lt c.1.m x.1.m
        have h2 := ord_lt x.1.m c.1.m
        simp only [Function.comp, eqv, ltOf, cf]
        rw [Bool.eq_iff_iff]
        simp only [decide_eq_true_iff, Bool.and_eq_true, Bool.not_eq_true', decide_eq_false_iff_not, h1, h2]
        omega
      rw [e, hst c]
    · have e : ∀ x : RV, ((fun r : RuleM => decide (r.num = n ∧ strN r.act = s)) ∘ fun x : RV => x.1.m) x = false := fun x => by
        simp only [Function.comp, decide_eq_false_iff_not]; exact fun hx => hE ⟨x, hx⟩
      rw [List.filter_eq_nil_iff.2 (fun x _ => by rw [e x]; decide), List.filter_eq_nil_iff.2 (fun x _ => by rw [e x]; decide)]
theorem ins_none (p : Option Addr) (cap : Nat) (fv : Value) (w : World) : Calls Try.prog 41 #[.slice p 0 cap, .int .i64 0, .int .i64 0, fv] w fun e w' => e = .returned (.tuple #[]) ∧ w' = w := by
  go_enter Try.func41, Try.ntmps41
  go_wp2
  refine wp_loop_rounds 1 ?_
  rw [rounds_succ]
  go_wp2
  go_end0
  exact ⟨rfl, rfl⟩
theorem stable_none (p : Option Addr) (cap : Nat) (fv : Value) (w : World) : Calls Try.prog 32 #[.slice p 0 cap, .int .i64 0, fv] w fun e w' => e = .returned (.tuple #[]) ∧ w' = w := by
  have hi := fun W => ins_none p cap fv W
  go_enter Try.func32, Try.ntmps32
  go_wp2
  refine wp_loop_rounds 1 ?_
  rw [rounds_succ]
  go_wp2_with (go_at_call 41; refine (hi _).mono ?_; rintro e w1 ⟨rfl, rfl⟩)
  refine wp_loop_rounds 1 ?_
  rw [rounds_succ]
  go_wp2
  go_end0
  exact ⟨rfl, rfl⟩
theorem stable_rules (l : List RV) (g cap : Nat) (w : World) (hH : Sort.HoldsK RV.enc 3 w g 0 l.toArray) (hg : g < w.heap.size) (hn : l.length < 2305843009213693952) :
    Calls Try.prog 32 #[.slice (some ⟨g, 0, none⟩) l.length cap, .int .i64 l.length, .func (.func 24) #[] #[]] w fun e w' => e = .returned (.tuple #[]) ∧ ∃ l' : List RV, Moved (ltOf cf) 0 l.length l.toArray l'.toArray ∧ SortedIn (ltOf cf) 0 l.length l'.toArray ∧ SWK RV.enc 3 w g 0 l'.toArray w' := by
  have eg : ∀ args w, (callFunc 24 args).run Try.prog w = .ok (.enter 24 args) w := enters_of Try.func24 (by kernel_rfl) rfl
  have e57 : ∀ args w, (callFunc 41 args).run Try.prog w = .ok (.enter 41 args) w := enters_of Try.func41 (by kernel_rfl) rfl
  have R : RowK RV.enc 3 w g 0 l.toArray := ⟨rv_len, rv_one, hH, hg⟩
  have h := stable_any Try.prog 3 pf_prog RV.enc cf swo 24 #[] g 0 cap l.toArray w eg (cmpLays g 0 _ w) R l.toArray w rfl (SWK.start hH) (by simpa using hn) (fun dk a b wk hdk S hab hb => by
    have hs' : (Sort.insertionSort (ltOf cf) dk a b).size = dk.size := (insertionSort_holds swo dk a b hab (by omega)).1.1
    have h := AnyQ.insertionSortCmpFunc Try.insCalls 3 Try.isAgg56 Try.sizeOf56 RV.enc rv_len rv_one cf 24 #[] g 0 cap a b dk wk eg (cmpLays g 0 _ wk) (S.holds hg hH (by rw [hdk])) (S.lt hg) hab (by omega) (by rw [hdk]; simpa using (by omega : l.length < 4611686018427387904))
    rw [hdk] at h
    refine Calls.mono h ?_
    rintro e w' ⟨rfl, n, os, rfl⟩
    exact ⟨rfl, S.on hg n _ os hs'⟩) e57
  simp only [List.size_toArray] at h
  refine Calls.mono h ?_
  rintro e w' ⟨rfl, d', h1, h2, h3⟩
  exact ⟨rfl, d'.toList, h1, h2, h3⟩
theorem sort_any (l : List RV) (n B : Nat) (A : Option Addr) (cp : Nat) (w : World) (hl : l.length = n) (hr : w.ownsRow B 56 3 (.slice A n cp) n (l.flatMap RV.enc)) (hB : B ≤ w.heap.size) (hn : n ≤ 65536) :
    Calls Try.prog 23 #[.slice A n cp, .func (.func 24) #[] #[]] w fun e w' => e = .returned (.tuple #[]) ∧ ∃ l' : List RV, Sorted (l.map (·.1.m)) (l'.map (·.1.m)) ∧ l'.length = n ∧ (∀ r ∈ l', r ∈ l) ∧ Rd w' 3 n A ((l'.map (·.1)).flatMap RuleV.cells) ∧ Go.RowKit.Below B w w' := by
  subst hl
  obtain ⟨h1, ⟨h2, h3⟩ | ⟨g, cap, cur, h2, h3, h4, h5, h6, h7, h8⟩⟩ := hr
  · obtain rfl : l = [] := List.length_eq_zero_iff.1 h3
    have hA : A = none := by injection h2
    subst hA
    have hs := fun W => stable_none none cp (.func (.func 24) #[] #[]) W
    clear h1 h2 h3 hn
    show Calls Try.prog _ #[.slice none 0 cp, _] w _
    go_enter Try.func23, Try.ntmps23
    go_wp2_with (go_at_call 32; refine (hs _).mono ?_; rintro e w1 ⟨rfl, rfl⟩)
    go_end0
    exact ⟨rfl, [], ⟨rfl, fun _ h => h, List.Pairwise.nil, fun _ _ => rfl⟩, rfl, fun _ h => h, ⟨rfl, Or.inl rfl⟩, Go.RowKit.Below.refl _ _⟩
  · obtain ⟨rfl, -, rfl⟩ : A = some ⟨g, 0, none⟩ ∧ l.length = l.length ∧ cp = cap := by injection h2 with a b c; exact ⟨a, rfl, c⟩
    have hg : g < w.heap.size := by
      have := (Array.getElem?_eq_some_iff.1 h4).1; exact this
    have hH := holds_own h4 h8
    have hs := fun W (h : W = w) => stable_rules l g cp W (by rw [h]; exact hH) (by rw [h]; exact hg) (by omega)
    have hz : ((l.length : Nat) : Int) = (l.length : Int) := rfl
    have HP : ∀ (l' : List RV) (w' : World), Moved (ltOf cf) 0 l.length l.toArray l'.toArray → SortedIn (ltOf cf) 0 l.length l'.toArray → SWK RV.enc 3 w g 0 l'.toArray w' → ∃ l' : List RV, Sorted (l.map (·.1.m)) (l'.map (·.1.m)) ∧ l'.length = l.length ∧ (∀ r ∈ l', r ∈ l) ∧ Rd w' 3 l.length (some ⟨g, 0, none⟩) ((l'.map (·.1)).flatMap RuleV.cells) ∧ Go.RowKit.Below B w w' := fun l' w' hm hq hw => by
      obtain ⟨a1, a2, a3⟩ := sorted_of hm hq
      refine ⟨l', a1, a2, a3, ?_, ?_⟩
      · have := rd_holds (hw.holds hg hH (by simp [a2])) (hw.lt hg)
        simpa [a2] using this
      · obtain ⟨n, os, rfl⟩ := hw
        exact sorted_below _ h3 hB
    have HPH := Lib.hid HP
    have HN := Lib.hid hn
    clear h1 h2 h4 h5 h6 h7 h8 hH HP hB h3 hg hz
    generalize l.length = n at *
    go_enter Try.func23, Try.ntmps23
    go_wp2_with (go_at_call 32; refine (hs _ rfl).mono ?_; rintro e w1 ⟨rfl, l', q1, q2, q3⟩)
    go_end0
    exact ⟨rfl, HPH.out l' w1 q1 q2 q3⟩
end Go.Proofs.Ytgdoampokcpagaa.Ir

