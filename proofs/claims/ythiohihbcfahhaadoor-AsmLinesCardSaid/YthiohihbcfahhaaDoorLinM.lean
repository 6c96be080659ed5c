/- The given lines, right and not, by lists alone. Nothing of the program. (gen/linm.py) -/
import Derived.Test.YthiohihbcfahhaaDoorTxtM
namespace Go.Proofs.YthiohihbcfahhaaDoor
structure Gd where
  w : Bs
  i : Ins
  e : Nat
def goodT : List Gd := [
  ⟨[108, 100, 108, 101, 110], ⟨128, 0, 0, 0⟩, 0⟩,
  ⟨[32, 32, 108, 100, 120, 108, 101, 110, 32, 35, 32, 120], ⟨129, 0, 0, 0⟩, 0⟩,
  ⟨[114, 101, 116, 97], ⟨22, 0, 0, 0⟩, 0⟩,
  ⟨[116, 97, 120], ⟨7, 0, 0, 0⟩, 0⟩,
  ⟨[116, 120, 97], ⟨135, 0, 0, 0⟩, 0⟩,
  ⟨[110, 101, 103], ⟨132, 0, 0, 0⟩, 0⟩,
  ⟨[97, 100, 100, 120], ⟨12, 0, 0, 0⟩, 0⟩,
  ⟨[120, 111, 114, 120], ⟨172, 0, 0, 0⟩, 0⟩,
  ⟨[108, 100, 32, 53], ⟨0, 0, 0, 5⟩, 0⟩,
  ⟨[108, 100, 97, 98, 115, 32, 48, 120, 49, 48], ⟨32, 0, 0, 16⟩, 0⟩,
  ⟨[108, 100, 109, 101, 109, 32, 51], ⟨96, 0, 0, 3⟩, 0⟩,
  ⟨[108, 100, 120, 32, 52, 50, 57, 52, 57, 54, 55, 50, 57, 53], ⟨1, 0, 0, 4294967295⟩, 0⟩,
  ⟨[108, 100, 120, 109, 101, 109, 32, 49], ⟨97, 0, 0, 1⟩, 0⟩,
  ⟨[115, 116, 32, 50], ⟨2, 0, 0, 2⟩, 0⟩,
  ⟨[115, 116, 120, 32, 50], ⟨3, 0, 0, 2⟩, 0⟩,
  ⟨[114, 101, 116, 32, 55], ⟨6, 0, 0, 7⟩, 0⟩,
  ⟨[106, 97, 32, 57], ⟨5, 0, 0, 9⟩, 0⟩,
  ⟨[115, 117, 98, 32, 49], ⟨20, 0, 0, 1⟩, 0⟩,
  ⟨[114, 115, 104, 32, 49], ⟨116, 0, 0, 1⟩, 0⟩,
  ⟨[106, 101, 113, 32, 49, 32, 50, 32, 51], ⟨21, 2, 3, 1⟩, 0⟩,
  ⟨[106, 115, 101, 116, 32, 49, 32, 50, 53, 53, 32, 48], ⟨69, 255, 0, 1⟩, 0⟩,
  ⟨[106, 103, 101, 120, 32, 52, 32, 53], ⟨61, 4, 5, 0⟩, 0⟩,
  ⟨[114, 97, 119, 32, 54, 53, 53, 51, 53, 32, 49, 32, 50, 32, 51], ⟨65535, 1, 2, 3⟩, 0⟩]
def badT : List Gd := [
  ⟨[102, 111, 111], ⟨0, 0, 0, 0⟩, 202⟩,
  ⟨[108, 100], ⟨0, 0, 0, 0⟩, 203⟩,
  ⟨[108, 100, 32, 49, 32, 50], ⟨0, 0, 0, 0⟩, 203⟩,
  ⟨[116, 97, 120, 32, 49], ⟨0, 0, 0, 0⟩, 203⟩,
  ⟨[108, 100, 32, 120], ⟨0, 0, 0, 0⟩, 202⟩,
  ⟨[108, 100, 32, 48, 49], ⟨0, 0, 0, 0⟩, 202⟩,
  ⟨[108, 100, 32, 52, 50, 57, 52, 57, 54, 55, 50, 57, 54], ⟨0, 0, 0, 0⟩, 204⟩,
  ⟨[106, 101, 113, 32, 49, 32, 50, 53, 54, 32, 48], ⟨0, 0, 0, 0⟩, 204⟩,
  ⟨[106, 101, 113, 120, 32, 49], ⟨0, 0, 0, 0⟩, 203⟩,
  ⟨[114, 97, 119, 32, 54, 53, 53, 51, 54, 32, 48, 32, 48, 32, 48], ⟨0, 0, 0, 0⟩, 204⟩,
  ⟨[114, 97, 119, 32, 49, 32, 50, 32, 51], ⟨0, 0, 0, 0⟩, 203⟩,
  ⟨[106, 101, 113, 32, 49, 32, 50, 32, 120], ⟨0, 0, 0, 0⟩, 202⟩]
def Gd.cells (g : Gd) : List Value := [.string ⟨g.w.toArray⟩, .int .u16 g.i.c, .int .u8 g.i.t, .int .u8 g.i.f, .int .u32 g.i.k, .int .i64 g.e]
def noG : Gd := ⟨[], ⟨0, 0, 0, 0⟩, 0⟩
def goodAt (k : Nat) : Gd := goodT.getD k noG
def badAt (k : Nat) : Gd := badT.getD k noG
theorem good_len : goodT.length = 23 := rfl
theorem bad_len : badT.length = 12 := rfl
theorem goodAt_get (k : Nat) (h : k < 23) : goodT[k]? = some (goodAt k) := by
  unfold goodAt; rw [List.getD, List.getElem?_eq_getElem (by rw [good_len]; exact h)]; rfl
theorem badAt_get (k : Nat) (h : k < 12) : badT[k]? = some (badAt k) := by
  unfold badAt; rw [List.getD, List.getElem?_eq_getElem (by rw [bad_len]; exact h)]; rfl
theorem good_in : ∀ g ∈ goodT, (∀ c ∈ g.w, c ≠ 10 ∧ c.toNat < 128) ∧ g.w.length ≤ 15 ∧ (g.i.c < 65536 ∧ g.i.t < 256 ∧ g.i.f < 256 ∧ g.i.k < 4294967296) := by decide
theorem bad_in : ∀ g ∈ badT, (∀ c ∈ g.w, c ≠ 10 ∧ c.toNat < 128) ∧ g.w.length ≤ 15 ∧ g.e ≠ 0 ∧ g.e < 1000 := by decide
theorem good_parsed : ∀ g ∈ goodT, parsed (saidB g.w) = (g.i, 0) ∧ saidB g.w ≠ [] := by
  intro g hg
  unfold goodT at hg
  simp only [List.mem_cons, List.not_mem_nil, or_false] at hg
  rcases hg with rfl | rfl | rfl | rfl | rfl | rfl | rfl | rfl | rfl | rfl | rfl | rfl | rfl | rfl | rfl | rfl | rfl | rfl | rfl | rfl | rfl | rfl | rfl <;> exact ⟨by kernel_rfl, by decide⟩
theorem bad_parsed : ∀ g ∈ badT, (parsed (saidB g.w)).2 = g.e ∧ saidB g.w ≠ [] := by
  intro g hg
  unfold badT at hg
  simp only [List.mem_cons, List.not_mem_nil, or_false] at hg
  rcases hg with rfl | rfl | rfl | rfl | rfl | rfl | rfl | rfl | rfl | rfl | rfl | rfl <;> exact ⟨by kernel_rfl, by decide⟩
def headG : Bs := [10, 35, 32, 110, 111, 116, 104, 105, 110, 103, 10]
def txtG (G : List Gd) : Bs := headG ++ G.flatMap fun g => g.w ++ [10]
theorem txtG_snoc (G : List Gd) (g : Gd) : txtG (G ++ [g]) = txtG G ++ (g.w ++ [10]) := by simp [txtG]
theorem txtG_len (G : List Gd) (h : ∀ g ∈ G, g ∈ goodT) : (txtG G).length ≤ 11 + G.length * 16 := by
  have : (G.flatMap fun g => g.w ++ [10]).length ≤ G.length * 16 := by
    induction G with
    | nil => simp
    | cons a r ih =>
      have h1 := (good_in a (h a (by simp))).2.1
      have h2 := ih (fun x hx => h x (by simp [hx]))
      simp only [List.flatMap_cons, List.length_append, List.length_cons, List.length_nil] at h2 ⊢
      omega
  unfold txtG headG
  simp only [List.length_append, List.length_cons, List.length_nil]
  omega
theorem txtG_ascii (G : List Gd) (h : ∀ g ∈ G, g ∈ goodT) : ∀ c ∈ txtG G, c.toNat < 128 := by
  intro c hc
  unfold txtG at hc
  rcases List.mem_append.1 hc with hc | hc
  · exact (show ∀ c ∈ headG, c.toNat < 128 by decide) c hc
  · obtain ⟨g, hg, hc⟩ := List.mem_flatMap.1 hc
    rcases List.mem_append.1 hc with hc | hc
    · exact ((good_in g (h g hg)).1 c hc).2
    · simp at hc; subst hc; decide
theorem lines_G : ∀ (G : List Gd) (_ : ∀ g ∈ G, g ∈ goodT) (r : Bs), lines ((G.flatMap fun g => g.w ++ [10]) ++ r) = G.map Gd.w ++ lines r
  | [], _, r => rfl
  | g :: G, h, r => by
    have e : ((g :: G).flatMap fun g => g.w ++ [10]) ++ r = g.w ++ 10 :: ((G.flatMap fun g => g.w ++ [10]) ++ r) := by simp
    rw [e, lines_plain _ _ (fun c hc => ((good_in g (h g (by simp))).1 c hc).1), lines_G G (fun x hx => h x (by simp [hx]))]
    rfl
theorem parseL_G : ∀ (G : List Gd) (_ : ∀ g ∈ G, g ∈ goodT) (at' : Nat) (M : List Ins) (R : List (List Bs)), M.length + G.length ≤ 4096 → parseL (G.map (fun g => saidB g.w) ++ R) at' M = parseL R (at' + G.length) (M ++ G.map Gd.i)
  | [], _, at', M, R, _ => by simp
  | g :: G, h, at', M, R, hm => by
    have hp := good_parsed g (h g (by simp))
    simp only [List.length_cons] at hm
    rw [List.map_cons, List.cons_append, parseL, if_neg hp.2, hp.1]
    simp only [ne_eq, not_true_eq_false, if_false]
    rw [if_neg (by omega), parseL_G G (fun x hx => h x (by simp [hx])) _ _ R (by simp; omega)]
    simp only [List.length_cons, List.map_cons, List.append_assoc, List.singleton_append]
    rw [show at' + 1 + G.length = at' + (G.length + 1) by omega]
theorem parseB_G (G : List Gd) (h : ∀ g ∈ G, g ∈ goodT) (hl : G.length ≤ 30) (r : Bs) : parseB (txtG G ++ r) = parseL ((lines r).map saidB) (2 + G.length) (G.map Gd.i) := by
  have e : txtG G ++ r = [] ++ 10 :: ([35, 32, 110, 111, 116, 104, 105, 110, 103] ++ 10 :: ((G.flatMap fun g => g.w ++ [10]) ++ r)) := by simp [txtG, headG]
  unfold parseB
  rw [e, lines_plain [] _ (by simp), lines_plain [35, 32, 110, 111, 116, 104, 105, 110, 103] _ (by decide), lines_G G h]
  rw [List.map_cons, List.map_cons, List.map_append, List.map_map, parseL, if_pos (by decide), parseL, if_pos (by decide)]
  have := parseL_G G h (0 + 1 + 1) [] ((lines r).map saidB) (by simp; omega)
  rw [List.nil_append, show 0 + 1 + 1 + G.length = 2 + G.length by omega] at this
  exact this
theorem parseB_good (G : List Gd) (h : ∀ g ∈ G, g ∈ goodT) (hl : G.length ≤ 30) : parseB (txtG G) = (G.map Gd.i, 0, 0) := by
  have := parseB_G G h hl []
  rw [List.append_nil] at this
  rw [this]
  simp [lines, said_nil, parseL]
def tailG : Bs := [10, 114, 101, 116, 32, 49, 10]
theorem parseB_bad (G : List Gd) (h : ∀ g ∈ G, g ∈ goodT) (hl : G.length ≤ 30) (b : Gd) (hb : b ∈ badT) : parseB (txtG G ++ b.w ++ tailG) = ([], 2 + G.length + 1, b.e) := by
  have hp := bad_parsed b hb
  have hi := bad_in b hb
  rw [List.append_assoc, parseB_G G h hl, show b.w ++ tailG = b.w ++ 10 :: [114, 101, 116, 32, 49, 10] from rfl, lines_plain _ _ (fun c hc => (hi.1 c hc).1)]
  rw [List.map_cons, parseL, if_neg hp.2, if_pos (by rw [hp.1]; exact hi.2.2.1), hp.1]
theorem bad_text_in (G : List Gd) (h : ∀ g ∈ G, g ∈ goodT) (hl : G.length ≤ 30) (b : Gd) (hb : b ∈ badT) : (txtG G ++ b.w ++ tailG).length ≤ 600 ∧ ∀ c ∈ txtG G ++ b.w ++ tailG, c.toNat < 128 := by
  have h1 := txtG_len G h
  have h2 := (bad_in b hb).2.1
  refine ⟨?_, ?_⟩
  · simp only [List.length_append, tailG, List.length_cons, List.length_nil]; omega
  · intro c hc
    rcases List.mem_append.1 hc with hc | hc
    · rcases List.mem_append.1 hc with hc | hc
      · exact txtG_ascii G h c hc
      · exact ((bad_in b hb).1 c hc).2
    · exact (show ∀ c ∈ tailG, c.toNat < 128 by decide) c hc
end Go.Proofs.YthiohihbcfahhaaDoor
