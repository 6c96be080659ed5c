/- What answers a call's number: the walk. -/
import Derived.Test.YtinofjbnfmalkaaGreatDoorParF
import Derived.Deep.RegionWith
namespace Go.Proofs.YtinofjbnfmalkaaGreatDoor.Pa
open Go.RowKit Go.WideElems Go.Maps
theorem set3_grown (w : World) (g : Nat) (v0 v1 v2 : Value) : w.grownBy (((w.setCell ⟨g, 0, none⟩ v0).setCell ⟨g, 1, none⟩ v1).setCell ⟨g, 2, none⟩ v2) (some g) :=
  only_trans (only_trans (only_set _ g 0 v0) (only_set _ g 1 v1)) (only_set _ g 2 v2)
def RrV (v : Value) (w0 : World) (b tb pb : Nat) (qa : Addr) (m : Nat) (T : TV) (s : RS) (w : World) (e : Ending) (w' : World) : Prop := e = .returned v ∧ Rr w0 b tb pb qa w' m T s ∧ KT w w'
theorem rr_of {v v' : Value} {w0 : World} {b tb pb m : Nat} {qa : Addr} {T T' : TV} {s s' : RS} {w w' : World} {e : Ending} (hv : v = v') (hT : T = T') (hs : s = s') (he : e = .returned v') (h : Rr w0 b tb pb qa w' m T' s') (hk : KT w w') : RrV v w0 b tb pb qa m T s w e w' := by
  subst hv; subst hT; subst hs; exact ⟨he, h, hk⟩
theorem named_rr {w0 : World} {b tb pb m : Nat} {qa : Addr} {w W : World} {T : TV} {s : RS} (h : Rr w0 b tb pb qa w m T s) (hb : Below w.heap.size w W) (t : Bs) (ht : t.length ≤ 65536) (hm : m ≤ 1000000000) (r : Row) (is : Bool) (hr : (byName t).getD zeroRow = r) (hi : (byName t).isSome = is) :
    Calls Tryz.prog 156 #[.pointer (some ⟨tb, 0, none⟩), .string ⟨t.toArray⟩] W fun e w' => e = .returned (.tuple #[.agg #[.int .u32 r.1, .string ⟨r.2.1.toArray⟩, .int .i64 r.2.2], .bool is]) ∧ Rr w0 b tb pb qa w' (m + 1) T s ∧ KT W w' ∧ W.grownBy w' (some tb) := by
  have h2 := h.kept hb
  obtain ⟨a, h0, h1, hT⟩ := h2.ts
  refine (named_any tb a ⟨t.toArray⟩ W hT h0 (by omega) (by rw [Lib.size_eq]; show t.length ≤ _; unfold maxLen; omega)).mono ?_
  rintro e w' ⟨he, hM, hg⟩
  have hk := h2.asked (m' := m + 1) hg ⟨a + 1, by omega, by omega, .inr hM⟩
  refine ⟨?_, hk.1, hk.2, hg⟩
  rw [he]
  have e1 : (byName (⟨t.toArray⟩ : ByteArray).data.toList).getD zeroRow = r := hr
  have e2 : (byName (⟨t.toArray⟩ : ByteArray).data.toList).isSome = is := hi
  rw [e1, e2]
  rfl
set_option maxHeartbeats 4000000 in
set_option maxRecDepth 100000 in
theorem call_any (w0 : World) (b tb pb m : Nat) (qa : Addr) (w : World) (T : TV) (s : RS) (h : Rr w0 b tb pb qa w m T s) (hm : m ≤ 1000000000) :
    Calls Tryz.prog 132 #[.pointer (some ⟨b, 0, none⟩)] w (RrV (.int .u32 (callV s : Nat)) w0 b tb pb qa (m + 1) T (callS s) w) := by
  have hlt := h.rb.lt
  have Hn := Lib.hid (name_any b (T.c pb) s _ h.rb h.inn.len)
  have hti := h.inn.nx
  have HRr := Lib.hid h
  clear h
  obtain ⟨t, ht⟩ : ∃ t, t = nx s := ⟨_, rfl⟩
  have HT : Hid (t = nx s) := Lib.hid ht
  rw [← ht] at Hn hti
  have htl := hti.2.2
  clear hti ht
  obtain ⟨r, hr⟩ : ∃ r, (byName t.t).getD zeroRow = r := ⟨_, rfl⟩
  obtain ⟨is, his⟩ : ∃ is, (byName t.t).isSome = is := ⟨_, rfl⟩
  have HV := Lib.hid (show callV s = r.1 by unfold callV; rw [← HT.out, hr])
  have HI := Lib.hid (show callS s = if is = true then nmS s else fl (nmS s) t 38 by unfold callS; rw [← HT.out, his])
  have HR := Lib.hid hr
  have HIs := Lib.hid his
  clear hr his
  go_enter Tryz.func132, Tryz.ntmps132
  go_wp2_with fail
  refine Hn.out.mono ?_
  clear Hn
  rintro e w1 ⟨rfl, hr1, hg1⟩
  unfold tkV
  have hsm := HRr.out.small hr1 hg1 (nm_sub s)
  have HR2 := Lib.hid (hsm.1.alloc (.cells #[.int .u8 t.k, .string ⟨t.t.toArray⟩, .int .u64 t.n, .int .i64 t.line, .int .i64 t.col] 182))
  have HK2 := Lib.hid (hsm.2.trans (KT.below (oneb w1 (.cells #[.int .u8 t.k, .string ⟨t.t.toArray⟩, .int .u64 t.n, .int .i64 t.line, .int .i64 t.col] 182))))
  have hbk := (Bk.new w1 182 #[.int .u8 t.k, .string ⟨t.t.toArray⟩, .int .u64 t.n, .int .i64 t.line, .int .i64 t.col] (l := [.int .u8 t.k, .string ⟨t.t.toArray⟩, .int .u64 t.n, .int .i64 t.line, .int .i64 t.col]) rfl)
  have hl1 := hr1.lt
  clear hsm hr1 hg1
  go_upto_region 2 with fail
  generalize w1.alloc _ = w2 at hbk HR2 HK2 ⊢
  have HBK := Lib.hid hbk
  have r1 := hbk.cell 1 rfl
  have rl := hbk.lt
  have hq0 : w2.cell? ⟨b, 0, none⟩ = some (.pointer (some ⟨pb, 0, none⟩)) := by obtain ⟨A, cap, hb, _⟩ := HR2.out.rb.blk; exact hb.cell 0 rfl
  have hbl := HR2.out.rb.lt
  have p0 := HR2.out.pz.blk.cell 0 rfl
  have pl := HR2.out.pz.blk.lt
  have htb := HR2.out.tl
  have hnm := Lib.hid (fun W hb => named_rr (W := W) HR2.out hb t.t htl hm r is HR.out HIs.out)
  clear hbk
  cases is with
  | true =>
    go_region_with (go_at_call 156; (first
      | (refine (hnm.out _ ((Below.refl _ _).drew)).mono ?_; rintro e w5 ⟨rfl, hr5, hk5, hg5⟩; have hkt : KT w2 w5 := fun i l x => hk5 i l (x.kept ((Below.refl w2.heap.size w2).drew)); have hb5 := hkt _ _ HBK.out; have s0 := hb5.cell 0 rfl; have s1 := hb5.cell 1 rfl; have s2 := hb5.cell 2 rfl; have s3 := hb5.cell 3 rfl; have s4 := hb5.cell 4 rfl; have sl := hb5.lt; have hbw := hr5.rb.lt)
      | (refine (hnm.out _ (((Below.refl _ _).drew).alloc (Nat.le_refl _) _)).mono ?_; rintro e w5 ⟨rfl, hr5, hk5, hg5⟩; have hc5 : Bk w5 w2.heap.size 155 [.int .u32 0, .string ByteArray.empty, .int .i64 0] := (Bk.new w2.drew 155 #[.int .u32 0, .string ByteArray.empty, .int .i64 0] (l := [.int .u32 0, .string ByteArray.empty, .int .i64 0]) rfl).grown hg5 (by intro e; have := Option.some.inj e; have : w2.drew.heap.size = w2.heap.size := rfl; omega); have x0 := hc5.cell 0 rfl; have x1 := hc5.cell 1 rfl; have x2 := hc5.cell 2 rfl; have xz0 := hc5.fz 0; have xz1 := hc5.fz 1; have xz2 := hc5.fz 2; have xl := hc5.lt; have hkt : KT w2 w5 := fun i l x => hk5 i l (x.kept (((Below.refl w2.heap.size w2).drew).alloc (Nat.le_refl _) _)); have hb5 := hkt _ _ HBK.out; have s0 := hb5.cell 0 rfl; have s1 := hb5.cell 1 rfl; have s2 := hb5.cell 2 rfl; have s3 := hb5.cell 3 rfl; have s4 := hb5.cell 4 rfl; have sl := hb5.lt; have hbw := hr5.rb.lt)))
    all_goals go_wp2_with fail
    all_goals go_ret
    all_goals first
      | exact rr_of (by rw [HV.out]; rfl) rfl (by have := HI.out; simpa using this) rfl (hr5.alloc _) (HK2.out.trans (hkt.trans (KT.below (oneb _ _))))
      | exact rr_of (by rw [HV.out]; rfl) rfl (by have := HI.out; simpa using this) rfl (hr5.other (set3_grown w5 w2.heap.size _ _ _) hc5.tyb hbl (by decide) (by decide) (by decide) (by decide) (by decide)) (HK2.out.trans (hkt.trans (KT.grown (set3_grown w5 w2.heap.size _ _ _) hc5.tyb (by decide))))
  | false =>
    go_region_with (go_at_call 156; (first
      | (refine (hnm.out _ ((Below.refl _ _).drew)).mono ?_; rintro e w5 ⟨rfl, hr5, hk5, hg5⟩; have hkt : KT w2 w5 := fun i l x => hk5 i l (x.kept ((Below.refl w2.heap.size w2).drew)); have hb5 := hkt _ _ HBK.out; have s0 := hb5.cell 0 rfl; have s1 := hb5.cell 1 rfl; have s2 := hb5.cell 2 rfl; have s3 := hb5.cell 3 rfl; have s4 := hb5.cell 4 rfl; have sl := hb5.lt; have hbw := hr5.rb.lt)
      | (refine (hnm.out _ (((Below.refl _ _).drew).alloc (Nat.le_refl _) _)).mono ?_; rintro e w5 ⟨rfl, hr5, hk5, hg5⟩; have hc5 : Bk w5 w2.heap.size 155 [.int .u32 0, .string ByteArray.empty, .int .i64 0] := (Bk.new w2.drew 155 #[.int .u32 0, .string ByteArray.empty, .int .i64 0] (l := [.int .u32 0, .string ByteArray.empty, .int .i64 0]) rfl).grown hg5 (by intro e; have := Option.some.inj e; have : w2.drew.heap.size = w2.heap.size := rfl; omega); have x0 := hc5.cell 0 rfl; have x1 := hc5.cell 1 rfl; have x2 := hc5.cell 2 rfl; have xz0 := hc5.fz 0; have xz1 := hc5.fz 1; have xz2 := hc5.fz 2; have xl := hc5.lt; have hkt : KT w2 w5 := fun i l x => hk5 i l (x.kept (((Below.refl w2.heap.size w2).drew).alloc (Nat.le_refl _) _)); have hb5 := hkt _ _ HBK.out; have s0 := hb5.cell 0 rfl; have s1 := hb5.cell 1 rfl; have s2 := hb5.cell 2 rfl; have s3 := hb5.cell 3 rfl; have s4 := hb5.cell 4 rfl; have sl := hb5.lt; have hbw := hr5.rb.lt)))
    all_goals go_wp2_with fail
    all_goals first
      | (have HX := Lib.hid (hr5.alloc (.cells #[.int .u32 r.1, .string ⟨r.2.1.toArray⟩, .int .i64 r.2.2] 155))
         have HKX := Lib.hid (HK2.out.trans (hkt.trans (KT.below (oneb w5 (.cells #[.int .u32 r.1, .string ⟨r.2.1.toArray⟩, .int .i64 r.2.2] 155)))))
         refine (fail_any' b (T.c pb) (nmS s) t 38 _ HX.out.rb).mono ?_
         rintro e w6 ⟨rfl, hr6, hg6⟩
         have hsm6 := HX.out.small hr6 hg6 (fl_sub (Sub.refl _) _ _)
         have hc6 := (Bk.new w5 155 #[.int .u32 r.1, .string ⟨r.2.1.toArray⟩, .int .i64 r.2.2] (l := [.int .u32 r.1, .string ⟨r.2.1.toArray⟩, .int .i64 r.2.2]) rfl).grown hg6 (by intro e; have := Option.some.inj e; omega)
         have v0 := hc6.cell 0 rfl
         have vl := hc6.lt
         have HS6 := Lib.hid hsm6
         clear hr6 hg6 hc6 hsm6
         go_wp2_with fail
         go_ret
         exact rr_of (by rw [HV.out]; rfl) rfl (by have := HI.out; simpa using this) rfl HS6.out.1 (HKX.out.trans HS6.out.2))
      | (have hst := set3_grown w5 w2.heap.size (.int .u32 r.1) (.string ⟨r.2.1.toArray⟩) (.int .i64 r.2.2)
         have HX := Lib.hid (hr5.other hst hc5.tyb hbl (by decide) (by decide) (by decide) (by decide) (by decide))
         have HKX := Lib.hid (HK2.out.trans (hkt.trans (KT.grown hst hc5.tyb (by decide))))
         refine (fail_any' b (T.c pb) (nmS s) t 38 _ HX.out.rb).mono ?_
         rintro e w6 ⟨rfl, hr6, hg6⟩
         have hsm6 := HX.out.small hr6 hg6 (fl_sub (Sub.refl _) _ _)
         have hc6 := (((hc5.set 0 (.int .u32 r.1)).set 1 (.string ⟨r.2.1.toArray⟩)).set 2 (.int .i64 r.2.2)).grown hg6 (by intro e; have := Option.some.inj e; omega)
         have v0 := hc6.cell 0 rfl
         have vl := hc6.lt
         have HS6 := Lib.hid hsm6
         clear hr6 hg6 hc6 hsm6 hst
         go_wp2_with fail
         go_ret
         exact rr_of (by rw [HV.out]; rfl) rfl (by have := HI.out; simpa using this) rfl HS6.out.1 (HKX.out.trans HS6.out.2))
end Go.Proofs.YtinofjbnfmalkaaGreatDoor.Pa
