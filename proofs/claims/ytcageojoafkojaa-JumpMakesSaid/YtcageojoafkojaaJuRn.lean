/- JumpMakes: the law's own run of parts, walked. -/
import Derived.Test.YtcageojoafkojaaJuPl
import Derived.Test.YtcageojoafkojaaJf
namespace Go.Proofs.Ytcageojoafkojaa.Ju
open Go.RowKit Go.Maps Go.WideMaps Go.WideElems Go.ChangeMaps
theorem two_newJ (w : World) (a b : Array Value) (T U : TypeId) {la lb : List Value} (ha : a = la.toArray) (hb : b = lb.toArray) :
    Bk ((w.alloc (.cells a T)).alloc (.cells b U)) w.heap.size T la ∧ Bk ((w.alloc (.cells a T)).alloc (.cells b U)) (w.heap.size + 1) U lb ∧ Below w.heap.size w ((w.alloc (.cells a T)).alloc (.cells b U)) := by
  have h1 := Bk.new w T a ha
  have h2 := Bk.new (w.alloc (.cells a T)) U b hb
  have e : (w.alloc (.cells a T)).heap.size = w.heap.size + 1 := by simp
  rw [e] at h2
  exact ⟨h1.alloc _, h2, (oneb w _).trans ((oneb _ _).mono (oneb w _).size)⟩
theorem rd_newJ (w : World) (a : Array Value) {l : List Value} {n z : Nat} {T : TypeId} (h : a = l.toArray) (hl : l.length = n * z) : Rd (w.alloc (.cells a T)) z n (some ⟨w.heap.size, 0, none⟩) l :=
  ⟨hl, .inr ⟨w.heap.size, 0, rfl, by simp, fun j u hu => by rw [Nat.zero_add]; exact (Bk.new w T a h).cell j hu⟩⟩
def cmpI (A c k : Nat) : List Ins := [⟨0, 0, 0, A⟩, ⟨c, 0, 1, k⟩, ⟨6, 0, 0, 1⟩, ⟨6, 0, 0, 2⟩]
theorem cmp_good {A c k : Nat} (hc : c = 21 ∨ c = 37 ∨ c = 53 ∨ c = 69) : Good (cmpI A c k) := by
  refine ⟨by simp [cmpI], by simp [cmpI], fun a i hi => ?_, fun i hi => ?_, fun a i hi ht => ?_⟩
  · match a, hi with
    | 0, hi => simp [cmpI] at hi; subst hi; rfl
    | 1, hi => simp [cmpI] at hi; subst hi; exact alone_if4 hc (by simp [cmpI]) (by simp [cmpI])
    | 2, hi => simp [cmpI] at hi; subst hi; rfl
    | 3, hi => simp [cmpI] at hi; subst hi; rfl
    | a + 4, hi => simp [cmpI] at hi
  · simp [cmpI] at hi; subst hi; rfl
  · exfalso
    have hm := List.mem_of_getElem? hi
    simp only [cmpI, List.mem_cons, List.not_mem_nil, or_false] at hm
    unfold takes at ht
    simp only [Bool.or_eq_true, beq_iff_eq] at ht
    rcases hm with rfl | rfl | rfl | rfl <;> simp only at ht <;> omega
theorem cmp_run {W : Nat → Nat} {A c k : Nat} (hc : c = 21 ∨ c = 37 ∨ c = 53 ∨ c = 69) : (runN W (cmpI A c k)).2 = if holdsN (c / 16) A k = true then 1 else 2 := by
  rw [run_rest, rest_none (s := mc0) (s' := ⟨A, 0, List.replicate 16 0, 1⟩) (i := ⟨0, 0, 0, A⟩) rfl (by simp [stepN, ldN, mc0])]
  show (rest W (cmpI A c k) ⟨A, 0, List.replicate 16 0, 1⟩).2 = _
  rw [rest_none (s' := ⟨A, 0, List.replicate 16 0, 1 + 1 + (if holdsN (c / 16) A k = true then 0 else 1)⟩) (i := ⟨c, 0, 1, k⟩) rfl (by rcases hc with rfl | rfl | rfl | rfl <;> simp [stepN, farN, opd])]
  cases hh : holdsN (c / 16) A k with
  | true => simp only [if_true]; rw [rest_some (i := ⟨6, 0, 0, 1⟩) (s' := ⟨A, 0, List.replicate 16 0, 3⟩) (r := 1) rfl rfl]
  | false => rw [rest_some (i := ⟨6, 0, 0, 2⟩) (s' := ⟨A, 0, List.replicate 16 0, 4⟩) (r := 2) rfl rfl]; rfl
theorem cmp_ok {A c k : Nat} (hA : A < 4294967296) (hc : c < 65536) (hk : k < 4294967296) : ∀ i ∈ cmpI A c k, i.ok := fun i hi => by
  simp only [cmpI, List.mem_cons, List.not_mem_nil, or_false] at hi
  rcases hi with rfl | rfl | rfl | rfl
  · exact sml_i (by omega) (by omega) (by omega) hA
  · exact sml_i hc (by omega) (by omega) hk
  · exact sml_i (by omega) (by omega) (by omega) (by omega)
  · exact sml_i (by omega) (by omega) (by omega) (by omega)
/-! What the rest says, step by step. -/
section
variable {W : Nat → Nat} {x : List PtM} {i A : Nat} {p : PtM}
theorem v_goto (hf : Fwd x) (hp : x[i]? = some p) (h4 : p.kd = 4) : valL W (x.drop i) A = valL W (x.drop (placeN p.to x)) A ∧ i < placeN p.to x := by
  obtain ⟨h1, h2⟩ := way_place hf hp (Or.inr ⟨h4, rfl⟩)
  exact ⟨by rw [drop_at hp, valL_cons, if_pos h4, h1], h2⟩
theorem v_if (hf : Fwd x) (hp : x[i]? = some p) (h3 : p.kd = 3) : valL W (x.drop i) A = (if holdsN (p.i.c / 16) A p.i.k = true then valL W (x.drop (placeN p.to x)) A else valL W (x.drop (placeN p.el x)) A) ∧ i < placeN p.to x ∧ i < placeN p.el x := by
  obtain ⟨h1, h2⟩ := way_place hf hp (Or.inl ⟨h3, Or.inl rfl⟩)
  obtain ⟨g1, g2⟩ := way_place hf hp (Or.inl ⟨h3, Or.inr rfl⟩)
  refine ⟨?_, h2, g2⟩
  rw [drop_at hp, valL_cons, if_neg (by omega), if_pos h3]
  split
  · rw [h1]
  · rw [g1]
theorem v_ret (hp : x[i]? = some p) (h2 : p.kd = 2) (hc : p.i.c % 8 = 6) : valL W (x.drop i) A = p.i.k := by rw [drop_at hp, valL_cons, if_neg (by omega), if_neg (by omega), if_pos h2, if_pos hc]
theorem v_ld (hp : x[i]? = some p) (h2 : p.kd = 2) (hc : p.i.c = 32) : valL W (x.drop i) A = valL W (x.drop (i + 1)) (W p.i.k) := by rw [drop_at hp, valL_cons, if_neg (by omega), if_neg (by omega), if_pos h2, if_neg (by omega), if_pos hc]
theorem v_and (hp : x[i]? = some p) (h2 : p.kd = 2) (hc : p.i.c = 84) : valL W (x.drop i) A = valL W (x.drop (i + 1)) (A &&& p.i.k) := by rw [drop_at hp, valL_cons, if_neg (by omega), if_neg (by omega), if_pos h2, if_neg (by omega), if_neg (by omega)]
theorem v_here (hp : x[i]? = some p) (h1 : p.kd = 1) : valL W (x.drop i) A = valL W (x.drop (i + 1)) A := by rw [drop_at hp, valL_cons, if_neg (by omega), if_neg (by omega), if_neg (by omega)]
theorem v_end (h : x.length ≤ i) : valL W (x.drop i) A = 2147483648 := by rw [List.drop_of_length_le h]; rfl
end
set_option maxHeartbeats 16000000 in
set_option maxRecDepth 100000 in
theorem run_parts (x : List PtM) (N : Nat) (A : Option Addr) (c : Nat) (bs : List Nat) (w : World) (hl : x.length = N) (hN : N ≤ 5000) (hok : ∀ q ∈ x, q.ok) (hs : ∀ q ∈ x, Fin1 q) (hf : Fwd x) (hb : Rec.IsRec bs) (hr : Rd w 7 N A (x.flatMap PtM.cells)) :
    Calls Try.prog 21 #[.slice A N c, .agg (Rec.recL bs).toArray] w fun e w' => e = .returned (.int .u32 (valL (recW bs) x 0)) ∧ Below w.heap.size w w' := by
  have HL := Lib.hid hl
  have HOk := Lib.hid hok
  have HSm := Lib.hid hs
  have HFw := Lib.hid hf
  have HBs := Lib.hid hb
  have HR9 := Lib.hid (recL_len bs)
  have HRf := Lib.hid (fun w' => Rec.ref_any bs w' hb.2)
  have HV16 := Lib.hid (Rec.ws_len bs)
  have HVa := Lib.hid (Rec.u32s_all (Rec.ws bs))
  have HRun := Lib.hid (fun (l : List Ins) (A1 : Option Addr) (c1 : Nat) (w' : World) (h4 : l.length = 4) (hg : Good l) (ho : ∀ i ∈ l, i.ok) (hR : Rd w' 4 4 A1 (l.flatMap Ins.rcells)) => refRun_any bs l 4 A1 c1 w' h4 hg ho hb hR)
  unfold RefTo at HRun
  have HVc := Lib.hid (show ∀ j, j < 16 → (u32s (Rec.ws bs))[j]? = some (.int .u32 (recW bs (4 * j) : Nat)) from fun j hj => u32s_at (Rec.ws_at bs j hj))
  obtain ⟨R, hR⟩ : ∃ R, R = Rec.recL bs := ⟨_, rfl⟩
  rw [← hR] at HR9 HRf ⊢
  obtain ⟨V, hV⟩ : ∃ V, V = u32s (Rec.ws bs) := ⟨_, rfl⟩
  rw [← hV] at HRf HRun HVc HV16 HVa
  have HWl := Lib.hid (recW_lt hb)
  obtain ⟨W, hW⟩ : ∃ W, W = recW bs := ⟨_, rfl⟩
  rw [← hW] at HRun HVc HWl ⊢
  obtain ⟨hk1, hk2, hb2⟩ := two_newJ w #[.slice A N c] R.toArray 65 81 (la := [.slice A N c]) (lb := R) rfl rfl
  have HRd := Lib.hid (hr.below hb2)
  clear hl hok hs hf hb hr hR hV hW
  go_enter Try.func21, Try.ntmps21
  go_upto_region 1 with fail
  generalize (w.alloc _).alloc _ = w2 at hk1 hk2 hb2 HRd ⊢
  generalize w.heap.size + 1 = xr at hk2 ⊢
  obtain ⟨xl, hxl⟩ : ∃ xl, xl = w.heap.size := ⟨_, rfl⟩
  rw [← hxl] at hk1 ⊢
  clear hxl
  have HB2 := Lib.hid hb2
  have HK1 := Lib.hid hk1
  have HK2 := Lib.hid hk2
  have hlt1 := hk1.lt
  have hlt2 := hk2.lt
  clear hk1 hk2 hb2
  go_wp2_with (refine Rec.ld_any HK2.out rfl _ rfl rfl Try.underlying81 Rec.size9 HR9.out ?_)
  refine (HRf.out _).mono ?_
  rintro e w3 ⟨rfl, hb3⟩
  have HK1 := Lib.hid (HK1.out.kept hb3)
  have HRd := Lib.hid (HRd.out.below hb3)
  have HB3 := Lib.hid (HB2.out.trans (hb3.mono HB2.out.size))
  have hz : Bk (w3.alloc (.cells Rec.zs16.toArray 153)) w3.heap.size 153 Rec.zs16 := Bk.new w3 _ _ rfl
  have hb4 := oneb w3 (.cells Rec.zs16.toArray 153)
  have HZ := Lib.hid hz
  clear hlt1 hlt2 hb3 hz
  go_wp2_with (refine Rec.st_row HZ.out rfl _ _ rfl rfl rfl Rec.size16 rfl HV16.out HVa.out ?_)
  rw [Rec.zs16_eq]
  have hm := HZ.out.row V
  have hr4 := only_row (w3.alloc (.cells Rec.zs16.toArray 153)) w3.heap.size V.toArray
  have hb5 : Below w3.heap.size w3 ((w3.alloc (.cells Rec.zs16.toArray 153)).setRow w3.heap.size V.toArray) := hb4.grown hr4 hb4.size (fun r e => by injection e with e; omega)
  clear HZ hb4 hr4
  generalize World.setRow _ _ _ = w5 at hm hb5 ⊢
  have HM := Lib.hid hm
  have HK1 := Lib.hid (HK1.out.kept hb5)
  have HRd := Lib.hid (HRd.out.below hb5)
  have HB5 := Lib.hid (HB3.out.trans (hb5.mono HB3.out.size))
  generalize w3.heap.size = xm at hm HM ⊢
  clear hm hb5
  have HPl := Lib.hid (fun (t : Int) (W' : World) (h : Below w5.heap.size w5 W') => place_any x N A c xl t W' HL.out hN (HK1.out.kept h) (HRd.out.below h))
  go_wp2_with fail
  go_loopw [5, 7] (fun av iv wz => ∃ a i : Nat, av = .int .u32 a ∧ iv = .int .i64 i ∧ i ≤ N ∧ a < 4294967296 ∧ Hid (Below w5.heap.size w5 wz) ∧ Hid (valL W (x.drop i) a = valL W x 0)) (fun _ iv _ => N - (intOf iv).toNat)
  case atStart => exact ⟨0, 0, rfl, rfl, Nat.zero_le _, by omega, Lib.hid (Below.refl _ _), Lib.hid rfl⟩
  case round =>
    rename World => wz
    obtain ⟨a, i, rfl, rfl, hi, ha, HB, HF⟩ := hrel
    have hkl := HK1.out.kept HB.out
    have l0 := hkl.cell 0 rfl
    have ll := hkl.lt
    clear hkl
    by_cases hlt : i < N
    · obtain ⟨p, hp⟩ : ∃ p, x[i]? = some p := ⟨_, List.getElem?_eq_getElem (by have := HL.out; omega)⟩
      obtain ⟨b, o, hA, hbl, hcell⟩ := (HRd.out.below HB.out).one (fun _ => rfl) (by omega) (by omega)
      obtain ⟨c0, c1, c2, c3, c4, c5, c6⟩ := seven_cells hcell hp
      subst hA
      have HP := Lib.hid hp
      have hpo := HOk.out p (List.mem_of_getElem? hp)
      have HPo := Lib.hid hpo
      have HPf := Lib.hid (HSm.out p (List.mem_of_getElem? hp))
      have i0 : (0 : Int) ≤ (i : Int) := by omega
      have i1 : (i : Int) < (N : Int) := by omega
      clear hcell hp hpo
      go_upto_region 7 with fail
      have hb4 := oneb wz (.cells #[.int .u8 p.kd, .int .i64 p.to, .int .i64 p.el, .int .u16 p.i.c, .int .u8 p.i.t, .int .u8 p.i.f, .int .u32 p.i.k] 125)
      have hk := Bk.new wz 125 #[.int .u8 p.kd, .int .i64 p.to, .int .i64 p.el, .int .u16 p.i.c, .int .u8 p.i.t, .int .u8 p.i.f, .int .u32 p.i.k] (l := [.int .u8 p.kd, .int .i64 p.to, .int .i64 p.el, .int .u16 p.i.c, .int .u8 p.i.t, .int .u8 p.i.f, .int .u32 p.i.k]) rfl
      generalize World.alloc wz _ = w7 at hb4 hk ⊢
      have HB7 := Lib.hid (HB.out.trans (hb4.mono HB.out.size))
      clear hb4 HB
      generalize wz.heap.size = xb at hk ⊢
      have HX := Lib.hid hk
      have y0 := hk.cell 0 rfl
      have y1 := hk.cell 1 rfl
      have y2 := hk.cell 2 rfl
      have y3 := hk.cell 3 rfl
      have y6 := hk.cell 6 rfl
      have yl := hk.lt
      clear c0 c1 c2 c3 c4 c5 c6 hbl hk l0 ll
      by_cases h4 : p.kd = 4
      · have e4 : ((p.kd : Int) == 4) = true := by rw [h4]; rfl
        have HS := Lib.hid (v_goto (W := W) (A := a) HFw.out HP.out h4)
        clear h4
        go_wp2_with fail
        refine (HPl.out p.to _ HB7.out).mono ?_
        rintro e w9 ⟨rfl, hb9⟩
        have HB9 := Lib.hid (HB7.out.trans (hb9.mono HB7.out.size))
        have HFn := Lib.hid (show valL W (x.drop (placeN p.to x)) a = valL W x 0 by rw [← HF.out, HS.out.1])
        have hpl := place_le p.to x
        have hpi := HS.out.2
        obtain ⟨j, hj⟩ : ∃ j, j = placeN p.to x := ⟨_, rfl⟩
        rw [← hj] at HFn hpl hpi ⊢
        have hjN : j ≤ N := by have := HL.out; omega
        clear hb9 hj hpl
        go_wp2_with fail
        go_roundw
        case rel => exact ⟨a, j, rfl, rfl, hjN, ha, HB9, HFn⟩
        case measure => simp [intOf]; omega
      have e4 : ((p.kd : Int) == 4) = false := by rw [beq_eq_false_iff_ne]; omega
      have H4 := Lib.hid h4
      clear h4
      by_cases h3 : p.kd = 3
      · have e3 : ((p.kd : Int) == 3) = true := by rw [h3]; rfl
        have HS := Lib.hid (v_if (W := W) (A := a) HFw.out HP.out h3)
        have HC := Lib.hid (HPf.out.smp.2 h3)
        have hcr := cmp_run (W := W) (A := a) (k := p.i.k) HC.out
        have HR2 := Lib.hid (HRun.out (cmpI a p.i.c p.i.k))
        have hc16 := HPo.out.i.1
        have hk32 := HPo.out.i.2.2.2
        have HMa := Lib.hid ((HM.out.kept HB7.out).kept (oneb w7 (.cells #[.int .i64 0, .int .i64 0, .int .i64 0, .int .u32 a, .int .i64 p.i.c, .int .i64 0, .int .i64 1, .int .u32 p.i.k, .int .i64 6, .int .i64 0, .int .i64 0, .int .u32 1, .int .i64 6, .int .i64 0, .int .i64 0, .int .u32 2] 159)))
        have HRn := Lib.hid (rd_newJ w7 #[.int .i64 0, .int .i64 0, .int .i64 0, .int .u32 a, .int .i64 p.i.c, .int .i64 0, .int .i64 1, .int .u32 p.i.k, .int .i64 6, .int .i64 0, .int .i64 0, .int .u32 1, .int .i64 6, .int .i64 0, .int .i64 0, .int .u32 2] (l := (cmpI a p.i.c p.i.k).flatMap Ins.rcells) (n := 4) (z := 4) (T := 159) rfl rfl)
        have HB8 := Lib.hid (HB7.out.trans ((oneb w7 (.cells #[.int .i64 0, .int .i64 0, .int .i64 0, .int .u32 a, .int .i64 p.i.c, .int .i64 0, .int .i64 1, .int .u32 p.i.k, .int .i64 6, .int .i64 0, .int .i64 0, .int .u32 1, .int .i64 6, .int .i64 0, .int .i64 0, .int .u32 2] 159)).mono HB7.out.size))
        have HX8 := Lib.hid (HX.out.alloc (.cells #[.int .i64 0, .int .i64 0, .int .i64 0, .int .u32 a, .int .i64 p.i.c, .int .i64 0, .int .i64 1, .int .u32 p.i.k, .int .i64 6, .int .i64 0, .int .i64 0, .int .u32 1, .int .i64 6, .int .i64 0, .int .i64 0, .int .u32 2] 159))
        clear h3
        go_wp2_with (refine Rec.ld_row HMa.out rfl _ rfl rfl Try.underlying153 Rec.size16 HV16.out ?_)
        refine (HR2.out _ _ _ rfl (cmp_good HC.out) (cmp_ok ha hc16 hk32) HRn.out).mono ?_
        rintro e w8 ⟨rfl, hb8⟩
        rw [hcr]
        have HB8 := Lib.hid (HB8.out.trans (hb8.mono HB8.out.size))
        have hx8 := HX8.out.kept hb8
        have y1 := hx8.cell 1 rfl
        have y2 := hx8.cell 2 rfl
        have yl := hx8.lt
        obtain ⟨n9, hn9⟩ : ∃ n, n = (runN W (cmpI a p.i.c p.i.k)).1.length := ⟨_, rfl⟩
        rw [← hn9]
        clear hb8 hx8 hcr hn9 HRn HMa HR2
        cases hh : holdsN (p.i.c / 16) a p.i.k with
        | true =>
          have HS2 := Lib.hid (HS.out.1.trans (if_pos hh))
          clear hh
          simp only [if_true]
          go_wp2_with fail
          refine (HPl.out p.to _ HB8.out).mono ?_
          rintro e w9 ⟨rfl, hb9⟩
          have HB9 := Lib.hid (HB8.out.trans (hb9.mono HB8.out.size))
          have HFn := Lib.hid (show valL W (x.drop (placeN p.to x)) a = valL W x 0 by rw [← HF.out, HS2.out])
          have hpl := place_le p.to x
          have hpi := HS.out.2.1
          obtain ⟨j, hj⟩ : ∃ j, j = placeN p.to x := ⟨_, rfl⟩
          rw [← hj] at HFn hpl hpi ⊢
          have hjN : j ≤ N := by have := HL.out; omega
          clear hb9 hj hpl
          go_wp2_with fail
          go_roundw
          case rel => exact ⟨a, j, rfl, rfl, hjN, ha, HB9, HFn⟩
          case measure => simp [intOf]; omega
        | false =>
          have HS2 := Lib.hid (HS.out.1.trans (if_neg (by rw [hh]; decide)))
          clear hh
          simp only [Bool.false_eq_true, if_false]
          go_wp2_with fail
          refine (HPl.out p.el _ HB8.out).mono ?_
          rintro e w9 ⟨rfl, hb9⟩
          have HB9 := Lib.hid (HB8.out.trans (hb9.mono HB8.out.size))
          have HFn := Lib.hid (show valL W (x.drop (placeN p.el x)) a = valL W x 0 by rw [← HF.out, HS2.out])
          have hpl := place_le p.el x
          have hpi := HS.out.2.2
          obtain ⟨j, hj⟩ : ∃ j, j = placeN p.el x := ⟨_, rfl⟩
          rw [← hj] at HFn hpl hpi ⊢
          have hjN : j ≤ N := by have := HL.out; omega
          clear hb9 hj hpl
          go_wp2_with fail
          go_roundw
          case rel => exact ⟨a, j, rfl, rfl, hjN, ha, HB9, HFn⟩
          case measure => simp [intOf]; omega
      have e3 : ((p.kd : Int) == 3) = false := by rw [beq_eq_false_iff_ne]; omega
      have H3 := Lib.hid h3
      clear h3
      by_cases h2 : p.kd = 2
      · have e2 : ((p.kd : Int) == 2) = true := by rw [h2]; rfl
        have hc := HPf.out.smp.1 h2
        have hcl := Lib.hid (fun w => class_any p.i.c w HPo.out.i.1)
        have hk32 := HPo.out.i.2.2.2
        have hrg := HPf.out.rg h2
        have H2 := Lib.hid h2
        clear h2
        rcases hc with hc | hc | hc
        · obtain ⟨j, hj, hj16⟩ : ∃ j, p.i.k = 4 * j ∧ j < 16 := by
            unfold rangeB at hrg
            rw [if_pos hc, Bool.and_eq_true, beq_iff_eq, decide_eq_true_eq] at hrg
            exact ⟨p.i.k / 4, by omega, by omega⟩
          have HFn := Lib.hid (show valL W (x.drop (i + 1)) (W (4 * j)) = valL W x 0 by rw [← HF.out, v_ld HP.out H2.out hc, hj])
          obtain ⟨kk, hkk⟩ : ∃ kk, kk = p.i.k := ⟨_, rfl⟩
          rw [← hkk] at y6
          rw [hc] at y3 hcl
          have e5 : (kk : Int) / 4 = (j : Int) := by omega
          have e6 : (j : Int) % 16 = (j : Int) := by omega
          have k60 : kk ≤ 60 := by omega
          have mj := (HM.out.kept HB7.out).cell j (HVc.out j hj16)
          have ml := (HM.out.kept HB7.out).lt
          have hwl := HWl.out (4 * j)
          obtain ⟨vj, hvj⟩ : ∃ v, v = W (4 * j) := ⟨_, rfl⟩
          rw [← hvj] at mj hwl HFn
          clear hvj hrg hc hj hk32 hkk
          go_wp2_with fail
          refine (hcl.out _).mono ?_
          rintro e _ ⟨rfl, rfl⟩
          go_wp2_with fail
          go_roundw
          case rel => exact ⟨vj, i + 1, rfl, by go_num, by omega, hwl, HB7, HFn⟩
          case measure => simp [intOf]; omega
        · have HFn := Lib.hid (show valL W (x.drop (i + 1)) (a &&& p.i.k) = valL W x 0 by rw [← HF.out, v_and HP.out H2.out hc])
          rw [hc] at y3 hcl
          have hand := u32_and_nat a p.i.k ha hk32
          have hal : a &&& p.i.k < 4294967296 := Nat.lt_of_le_of_lt Nat.and_le_left ha
          clear hrg hc
          go_wp2_with fail
          refine (hcl.out _).mono ?_
          rintro e _ ⟨rfl, rfl⟩
          go_wp2_with fail
          go_roundw
          case rel => exact ⟨a &&& p.i.k, i + 1, by rw [← hand], by go_num, by omega, hal, HB7, HFn⟩
          case measure => simp [intOf]; omega
        · have HV := Lib.hid (show p.i.k = valL W x 0 by rw [← HF.out, v_ret HP.out H2.out (by rw [hc])])
          rw [hc] at y3 hcl
          clear hrg hc
          go_wp2_with fail
          refine (hcl.out _).mono ?_
          rintro e _ ⟨rfl, rfl⟩
          go_wp2_with fail
          go_ret
          exact ⟨by rw [← HV.out]; rfl, HB5.out.trans (HB7.out.mono HB5.out.size)⟩
      · have e2 : ((p.kd : Int) == 2) = false := by rw [beq_eq_false_iff_ne]; omega
        have HFn := Lib.hid (show valL W (x.drop (i + 1)) a = valL W x 0 by rw [← HF.out, v_here HP.out (by have := HPf.out.kd; have := H4.out; have := H3.out; omega)])
        clear h2
        go_wp2_with fail
        go_roundw
        case rel => exact ⟨a, i + 1, rfl, by go_num, by omega, ha, HB7, HFn⟩
        case measure => simp [intOf]; omega
    · have HV := Lib.hid (show 2147483648 = valL W x 0 by rw [← HF.out, v_end (by have := HL.out; omega)])
      go_wp2_with fail
      go_ret
      exact ⟨by rw [← HV.out]; rfl, HB5.out.trans (HB.out.mono HB5.out.size)⟩
end Go.Proofs.Ytcageojoafkojaa.Ju
