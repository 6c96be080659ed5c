/- The given lines in memory; the law's own list of bytes. -/
import Derived.Test.YthiohihbcfahhaaDoorLinM
import Derived.Test.YthiohihbcfahhaaDoorApp
import Derived.Test.YthiohihbcfahhaaDoorEqI
import Derived.Deep.CutRange
namespace Go.Proofs.YthiohihbcfahhaaDoor
open Go.RowKit Go.ChangeShapes Go.WideShapes Go.ChangeAt Go.WideElems
theorem gd_cells_at : ∀ (l : List Gd) (k j : Nat), j < 6 → (l.flatMap Gd.cells)[k * 6 + j]? = (l[k]?).bind (fun x => x.cells[j]?)
  | [], k, j, _ => by simp
  | x :: l, k, j, hj => by
    rw [List.flatMap_cons]
    cases k with
    | zero => rw [List.getElem?_append_left (by simp [Gd.cells]; omega)]; simp
    | succ k =>
      rw [List.getElem?_append_right (by simp [Gd.cells]; omega), show (x.cells).length = 6 from rfl, show (k + 1) * 6 + j - 6 = k * 6 + j from by omega, gd_cells_at l k j hj]
      simp
theorem six_cells {w : World} {l : List Gd} {b k T : Nat} {x : Gd} (h : Bk w b T (l.flatMap Gd.cells)) (hx : l[k]? = some x) :
    w.cell? ⟨b, k * 6, none⟩ = some (.string ⟨x.w.toArray⟩) ∧ w.cell? ⟨b, k * 6 + 1, none⟩ = some (.int .u16 x.i.c) ∧ w.cell? ⟨b, k * 6 + 2, none⟩ = some (.int .u8 x.i.t) ∧ w.cell? ⟨b, k * 6 + 3, none⟩ = some (.int .u8 x.i.f) ∧ w.cell? ⟨b, k * 6 + 4, none⟩ = some (.int .u32 x.i.k) ∧ w.cell? ⟨b, k * 6 + 5, none⟩ = some (.int .i64 x.e) := by
  have hh : ∀ j, j < 6 → ∀ u, x.cells[j]? = some u → w.cell? ⟨b, k * 6 + j, none⟩ = some u := fun j hj u hu => h.cell _ (by rw [gd_cells_at l k j hj, hx]; exact hu)
  exact ⟨hh 0 (by omega) _ rfl, hh 1 (by omega) _ rfl, hh 2 (by omega) _ rfl, hh 3 (by omega) _ rfl, hh 4 (by omega) _ rfl, hh 5 (by omega) _ rfl⟩
/-- A list of whole numbers that the law is handed, as the card's frame opens it. -/
def IsRow (k : IntKind) (w : World) (A : Option Addr) (len cap : Nat) (zs : List Int) : Prop :=
  (A = none ∧ len = 0 ∧ cap = 0 ∧ zs = []) ∨ ∃ a, A = some a ∧ len ≤ cap ∧ cap ≤ maxLen ∧ zs.length = cap ∧ (∀ i, i < zs.length → w.cell? (a.add i) = some (.int k (zs.getD i 0))) ∧ ∀ n ∈ zs, (Lit.int k n).wf = true
theorem row_u8 {w : World} {A : Option Addr} {len cap : Nat} {zs : List Int} (h : IsRow .u8 w A len cap zs) : ∃ l : List Nat, l.length = len ∧ (∀ x ∈ l, x < 256) ∧ Rd w 1 len A (u8s l) ∧ len ≤ maxLen := by
  rcases h with ⟨rfl, rfl, rfl, rfl⟩ | ⟨a, rfl, h1, h2, h3, h4, h5⟩
  · exact ⟨[], rfl, by simp, Rd.nil _ _ _, by unfold maxLen; omega⟩
  · have hb : ∀ z ∈ zs, 0 ≤ z ∧ z < 256 := fun z hz => by have := bounds_u8 (h5 z hz); omega
    refine ⟨(zs.take len).map Int.toNat, by simp; omega, fun x hx => ?_, rd_of (by simp [u8s]; omega) (by omega) (fun j u hu => ?_), by omega⟩
    · obtain ⟨z, hz, rfl⟩ := List.mem_map.1 hx
      have := hb z (List.mem_of_mem_take hz)
      omega
    · unfold u8s at hu
      rw [List.map_map, List.getElem?_map] at hu
      cases hz : (zs.take len)[j]? with
      | none => rw [hz] at hu; simp at hu
      | some z =>
        rw [hz] at hu
        simp only [Option.map_some, Function.comp_apply, Option.some.injEq] at hu
        have hm := hb z (List.mem_of_mem_take (List.mem_of_getElem? hz))
        have hz2 : zs[j]? = some z := by
          rw [List.getElem?_take] at hz
          split at hz
          · exact hz
          · cases hz
        have hj := (List.getElem?_eq_some_iff.1 hz2).1
        rw [h4 j hj, ← hu]
        have : zs.getD j 0 = z := by rw [List.getD, hz2]; rfl
        rw [this]
        have : ((z.toNat : Nat) : Int) = z := by omega
        rw [this]
structure LinR (w : World) (G : List Gd) (v : Value) (wr : World) : Prop where
  own : wr.ownsRow w.heap.size 38 4 v G.length ((G.map Gd.i).flatMap Ins.cells)
  bel : Below w.heap.size w wr
theorem LinR.kept {w wr w' : World} {G : List Gd} {v : Value} (h : LinR w G v wr) (hb : Below wr.heap.size wr w') : LinR w G v w' :=
  ⟨own_below h.own hb, h.bel.trans (hb.mono h.bel.size)⟩
theorem LinR.put {w wr w' : World} {G : List Gd} {v v' : Value} {g : Gd} (h : LinR w G v wr) (o : Obj) (hown : w'.ownsRow w.heap.size 38 4 v' (G.length + 1) ((G.map Gd.i).flatMap Ins.cells ++ g.i.cells))
    (hg : (wr.alloc o).grownBy w' v.ownBlock) : LinR w (G ++ [g]) v' w' := by
  refine ⟨?_, (h.bel.alloc h.bel.size _).grown hg (by have := h.bel.size; simp; omega) (fun k hk => (h.own.lt k hk).1)⟩
  rw [List.map_append, List.flatMap_append, List.length_append]
  simpa using hown
theorem txt_sum (G : List Gd) (g : Gd) : (⟨(txtG G).toArray⟩ : ByteArray) ++ ((⟨g.w.toArray⟩ : ByteArray) ++ ⟨#[10]⟩) = ⟨(txtG (G ++ [g])).toArray⟩ := by
  rw [txtG_snoc]
  apply ByteArray.ext
  apply Array.toList_inj.1
  rw [app_list, app_list]
theorem bad_sum (T b : Bs) : ((⟨T.toArray⟩ : ByteArray) ++ ⟨b.toArray⟩ ++ ⟨#[10, 114, 101, 116, 32, 49, 10]⟩).data.toList = T ++ b ++ tailG := by
  rw [app_list, app_list]
  rfl
theorem bad_calls (G : List Gd) (h : ∀ g ∈ G, g ∈ goodT) (hl : G.length ≤ 30) (b : Gd) (hb : b ∈ badT) (W : World) (E : Env W) :
    Calls Tryd.prog 14 #[.string ((⟨(txtG G).toArray⟩ : ByteArray) ++ ⟨b.w.toArray⟩ ++ ⟨#[10, 114, 101, 116, 32, 49, 10]⟩)] W (ParsePost (txtG G ++ b.w ++ tailG) W) := by
  have hi := bad_text_in G h hl b hb
  have e := bad_sum (txtG G) b.w
  have := parse_any ((⟨(txtG G).toArray⟩ : ByteArray) ++ ⟨b.w.toArray⟩ ++ ⟨#[10, 114, 101, 116, 32, 49, 10]⟩) W (by rw [Lib.size_eq, e]; omega) (by rw [e]; exact hi.2) E
  rwa [e] at this
theorem good_calls (G : List Gd) (h : ∀ g ∈ G, g ∈ goodT) (hl : G.length ≤ 30) (W : World) (E : Env W) :
    Calls Tryd.prog 14 #[.string ⟨(txtG G).toArray⟩] W (ParsePost (txtG G) W) := by
  have := txtG_len G h
  exact parse_any ⟨(txtG G).toArray⟩ W (by rw [Lib.size_eq]; show (txtG G).toArray.toList.length ≤ _; rw [List.toList_toArray]; omega) (by show ∀ c ∈ (txtG G).toArray.toList, _; rw [List.toList_toArray]; exact txtG_ascii G h) E
end Go.Proofs.YthiohihbcfahhaaDoor
