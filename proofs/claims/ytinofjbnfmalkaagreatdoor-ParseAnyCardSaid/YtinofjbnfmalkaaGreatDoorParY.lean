/- The opening fact. -/
import Derived.Test.YtinofjbnfmalkaaGreatDoorParX
namespace Go.Proofs.YtinofjbnfmalkaaGreatDoor.Pa
open Go.RowKit Go.WideElems Go.Maps
theorem below_tab {w w1 w2 : World} {tb : Nat} (hb : Below w.heap.size w w1) (hg : w1.grownBy w2 (some tb)) (ht : w.heap.size ≤ tb) : Below w.heap.size w w2 :=
  hb.trans ⟨hg.os, hg.tape, hg.output, hg.size, fun i hi => hg.block i (Nat.lt_of_lt_of_le hi hb.size) (by intro e; have := Option.some.inj e; omega)⟩
set_option maxHeartbeats 4000000 in
set_option maxRecDepth 100000 in
theorem awake_any (w : World) (hG : G w) : Calls Tryz.prog 7 #[] w fun e w' => e = .returned (.bool true) ∧ Below w.heap.size w w' := by
  have HG := Lib.hid hG
  clear hG
  go_enter Tryz.func7, Tryz.ntmps7
  go_wp2_with fail
  refine (parseNew_any _).mono ?_
  rintro e w1 ⟨pb, tb, qa, rfl, hP, hb, hpb, htb⟩
  have hp := parse_any ⟨awP.toArray⟩ pb tb 0 qa w1 hP (HG.out.kept hb) (by omega)
  rw [show (⟨awP.toArray⟩ : ByteArray).data.toList = awP from rfl, aw_parsB] at hp
  have Hp : Hid (Calls Tryz.prog 14 #[.pointer (some ⟨pb, 0, none⟩), .string ⟨#[112, 111, 108, 105, 99, 121, 32, 112, 10, 100, 101, 102, 97, 117, 108, 116, 32, 97, 108, 108, 111, 119, 10, 99, 97, 108, 108, 32, 119, 114, 105, 116, 101, 32, 107, 105, 108, 108, 10]⟩] w1 _) := Lib.hid hp
  have HB := Lib.hid hb
  have HT := Lib.hid htb
  clear hp hP hb hpb htb
  go_wp2_with fail
  refine Hp.out.mono ?_
  clear Hp
  rintro e w2 ⟨⟨nm, d, hd, rv, bv, qv, rs, pt, po⟩, rfl, hTm, hPT, hTS, hgr, -⟩
  simp only [TV.m, PolM.mk.injEq, List.map_eq_cons_iff, List.map_eq_nil_iff] at hTm
  obtain ⟨rfl, rfl, ⟨r, rs', rfl, hr, rfl⟩, rfl, rfl, rfl⟩ := hTm
  obtain ⟨A4, v4, hrv, hv4, htr, -⟩ := own_typed hPT.r
  obtain ⟨A5, v5, hbv, -, -, -⟩ := own_typed hPT.p
  obtain ⟨A6, v6, hqv, -, -, -⟩ := own_typed hPT.q
  simp only at hrv hbv hqv
  subst hrv hbv hqv
  obtain ⟨m0, A7, v7⟩ := r
  simp only at hr
  subst hr
  have HB2 := Lib.hid (below_tab HB.out hgr HT.out)
  obtain ⟨b, o, rfl, hbs, hcell⟩ := htr.rd.pos (by simp)
  have r0 : w2.cell? ⟨b, o, none⟩ = some (.int .u32 1) := hcell 0 _ rfl
  have r1 : w2.cell? ⟨b, o + 1, none⟩ = some (.int .u32 2147483648) := hcell 1 _ rfl
  clear htr hPT hTS hgr hcell hv4
  simp only [TV.l, wrl, noW]
  go_wp2_with fail
  go_ret
  exact ⟨rfl, (HB2.out.alloc HB2.out.size _).alloc (HB2.out.alloc HB2.out.size _).size _⟩
end Go.Proofs.YtinofjbnfmalkaaGreatDoor.Pa
