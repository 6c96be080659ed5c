/- MeanSays: the walk. -/
import Derived.Test.YtgdoampokcpagaaMeO
import Derived.Deep.RegionHeld3
namespace Go.Proofs.Ytgdoampokcpagaa.Me
open Go.RowKit Go.WideElems
theorem two_all {α : Type} {Q : α → Prop} {a b : α} (ha : Q a) (hb : Q b) : ∀ x ∈ [a, b], Q x := fun x hx => by
  simp only [List.mem_cons, List.not_mem_nil, or_false] at hx
  rcases hx with rfl | rfl
  · exact ha
  · exact hb
theorem six_pol {w : World} {g n k : Nat} {l : List PolV} {x : PolV} (h : Rd w 6 n (some ⟨g, 0, none⟩) (l.flatMap PolV.cells)) (hx : l[k]? = some x) :
    w.cell? ⟨g, k * 6, none⟩ = some (.string ⟨x.name.toArray⟩) ∧ w.cell? ⟨g, k * 6 + 1, none⟩ = some (.int .u32 x.dflt) ∧ w.cell? ⟨g, k * 6 + 2, none⟩ = some (.slice x.RA x.rules.length x.Rc) ∧ w.cell? ⟨g, k * 6 + 3, none⟩ = some (.int .u16 x.handled) ∧ w.cell? ⟨g, k * 6 + 4, none⟩ = some (.slice x.PA x.paths.length x.Pc) ∧ w.cell? ⟨g, k * 6 + 5, none⟩ = some (.slice x.QA x.ports.length x.Qc) := by
  have hn : 0 < n := by
    have h1 := h.len
    rw [flatz_len PolV.cells 6 (fun _ => rfl)] at h1
    have := (List.getElem?_eq_some_iff.1 hx).1
    omega
  obtain ⟨b, o, e, _, hc⟩ := h.one (fun _ => rfl) (by omega) hn
  cases e
  have hj := fun j v hv => hc k x hx j v hv
  simp only [Nat.zero_add] at hj
  exact ⟨hj 0 _ rfl, hj 1 _ rfl, hj 2 _ rfl, hj 3 _ rfl, hj 4 _ rfl, hj 5 _ rfl⟩
theorem nine_rec {w : World} {b o k : Nat} {l : List RcM} {x : RcM} (hc : ∀ k x, l[k]? = some x → ∀ j v, (RcM.cells x)[j]? = some v → w.cell? ⟨b, o + (k * 9 + j), none⟩ = some v) (h : l[k]? = some x) :
    w.cell? ⟨b, o + k * 9, none⟩ = some (.int .u32 x.num) ∧ w.cell? ⟨b, o + k * 9 + 1, none⟩ = some (.int .u32 x.arch) ∧ w.cell? ⟨b, o + k * 9 + 2, none⟩ = some (.int .u64 x.at_) ∧ w.cell? ⟨b, o + k * 9 + 3, none⟩ = some (.int .u64 x.a0) ∧ w.cell? ⟨b, o + k * 9 + 4, none⟩ = some (.int .u64 x.a1) ∧ w.cell? ⟨b, o + k * 9 + 5, none⟩ = some (.int .u64 x.a2) ∧ w.cell? ⟨b, o + k * 9 + 6, none⟩ = some (.int .u64 x.a3) ∧ w.cell? ⟨b, o + k * 9 + 7, none⟩ = some (.int .u64 x.a4) ∧ w.cell? ⟨b, o + k * 9 + 8, none⟩ = some (.int .u64 x.a5) := by
  have hj := fun j v hv => hc k x h j v hv
  simp only [← Nat.add_assoc] at hj
  exact ⟨hj 0 _ rfl, hj 1 _ rfl, hj 2 _ rfl, hj 3 _ rfl, hj 4 _ rfl, hj 5 _ rfl, hj 6 _ rfl, hj 7 _ rfl, hj 8 _ rfl⟩
theorem same_rule {rs xr : List RuleV} {j : Nat} {r : RuleV} (h : rs.map RuleV.m = xr.map RuleV.m) (hr : xr[j]? = some r) : ∃ s, rs[j]? = some s ∧ r.m = s.m := by
  have e : (rs.map RuleV.m)[j]? = some r.m := by rw [h, List.getElem?_map, hr]; rfl
  rw [List.getElem?_map] at e
  obtain ⟨s, h1, h2⟩ := Option.map_eq_some_iff.1 e
  exact ⟨s, h1, h2.symm⟩
theorem same_len {rs xr : List RuleV} (h : rs.map RuleV.m = xr.map RuleV.m) : rs.length = xr.length := by have := congrArg List.length h; simpa using this
theorem ok_same {rs xr : List RuleV} (h : rs.map RuleV.m = xr.map RuleV.m) (ho : ∀ r ∈ xr, r.m.ok) : ∀ r ∈ rs, r.m.ok := fun r hr => by
  have : r.m ∈ xr.map RuleV.m := by rw [← h]; exact List.mem_map_of_mem hr
  obtain ⟨y, hy, e⟩ := List.mem_map.1 this
  rw [← e]; exact ho y hy
end Go.Proofs.Ytgdoampokcpagaa.Me

