/- Sorting that keeps the order of equals, by arrays alone: what merging in place, by rotations, comes tQ. -/
import Derived.Sort.Defs
import Derived.Sort.Statements
import Derived.Sort.LotA
set_option maxHeartbeats 32000000
set_option maxRecDepth 100000
namespace Go.Proofs.YtcnebdjhhfnmoaaGreatDoor.Ir
open Go.Sort
section
variable {α:Type} [Inhabited α] {lt:α→α→Bool}
def eqv (lt:α→α→Bool)(c x:α):Bool:=!lt c x&&!lt x c
def Stab (lt:α→α→Bool)(l l':List α):Prop:=∀c,l'.filter (eqv lt c)=l.filter (eqv lt c)
def Srt (lt:α→α→Bool)(l:List α):Prop:=l.Pairwise fun x y=>lt y x=false
omit [Inhabited α] in
theorem Stab.refl (l:List α):Stab lt l l:=fun _=>rfl
omit [Inhabited α] in
theorem Stab.trans {a b c:List α}(h:Stab lt a b)(h':Stab lt b c):Stab lt a c:=fun x=>(h' x).trans (h x)
omit [Inhabited α] in
theorem Stab.app {a b a' b':List α}(h:Stab lt a a')(h':Stab lt b b'):Stab lt (a++b) (a'++b'):=fun x=>by
 rw [List.filter_append,List.filter_append,h x,h' x]
omit [Inhabited α] in
theorem eqv_self (hO:SWO lt)(x:α):eqv lt x x=true:=by simp [eqv,hO.irrefl]
omit [Inhabited α] in
theorem Stab.mem (hO:SWO lt){l l':List α}(h:Stab lt l l'){x:α}(hx:x∈l'):x∈l:=by
 have h1:x∈l'.filter (eqv lt x):=List.mem_filter.2 ⟨hx,eqv_self hO x⟩
 rw [h x] at h1
 exact (List.mem_filter.1 h1).1
omit [Inhabited α] in
theorem asym (hO:SWO lt){x y:α}(h:lt x y=true):lt y x=false:=by
 cases h2:lt y x with
 | false=>rfl
 | true=>have:=hO.trans _ _ _ h h2;rw [hO.irrefl] at this;cases this
omit [Inhabited α] in
theorem Stab.swap (hO:SWO lt){u v:List α}(h:∀x∈u,∀y∈v,lt y x=true):Stab lt (u++v) (v++u):=fun c=>by
 rw [List.filter_append,List.filter_append]
 cases hv:v.filter (eqv lt c) with
 | nil=>simp
 | cons y t=>
  have hy:y∈v.filter (eqv lt c):=by rw [hv];exact List.mem_cons_self
  obtain ⟨hy1,hy2⟩:=List.mem_filter.1 hy
  have hu:u.filter (eqv lt c)=[]:=by
   rw [List.filter_eq_nil_iff]
   intro x hx hc
   have h1:=h x hx y hy1
   simp only [eqv,Bool.and_eq_true,Bool.not_eq_true'] at hc hy2
   have:=hO.ntrans y c x hy2.2 hc.1
   rw [h1] at this;cases this
  rw [hu];simp
omit [Inhabited α] in
theorem srt_app {a b:List α}:Srt lt (a++b)↔Srt lt a∧Srt lt b∧∀x∈a,∀y∈b,lt y x=false:=List.pairwise_append
omit [Inhabited α] in
theorem srt_cons {a:α}{b:List α}:Srt lt (a::b)↔(∀y∈b,lt y a=false)∧Srt lt b:=List.pairwise_cons
omit [Inhabited α] in
theorem one_left (hO:SWO lt){x:α}{a b:List α}(hs:Srt lt (a++b))(ha:∀y∈a,lt y x=true)(hb:∀y∈b,lt y x=false):Srt lt (a++x::b)∧Stab lt (x::(a++b)) (a++x::b):=by
 obtain ⟨h1,h2,h3⟩:=srt_app.1 hs
 refine ⟨srt_app.2 ⟨h1,srt_cons.2 ⟨hb,h2⟩,?_⟩,?_⟩
 ·intro y hy z hz
  rcases List.mem_cons.1 hz with rfl|hz
  ·exact asym hO (ha y hy)
  ·exact h3 y hy z hz
 ·have:=(Stab.swap hO (u:=[x]) (v:=a) (fun z hz y hy=>by rw [List.mem_singleton.1 hz];exact ha y hy)).app (Stab.refl (lt:=lt) b)
  simpa using this
omit [Inhabited α] in
theorem one_right (hO:SWO lt){y:α}{a b:List α}(hs:Srt lt (a++b))(ha:∀u∈a,lt y u=false)(hb:∀u∈b,lt y u=true):Srt lt (a++y::b)∧Stab lt (a++b++[y]) (a++y::b):=by
 obtain ⟨h1,h2,h3⟩:=srt_app.1 hs
 refine ⟨srt_app.2 ⟨h1,srt_cons.2 ⟨fun u hu=>asym hO (hb u hu),h2⟩,?_⟩,?_⟩
 ·intro u hu z hz
  rcases List.mem_cons.1 hz with rfl|hz
  ·exact ha u hu
  ·exact h3 u hu z hz
 ·have:=(Stab.refl (lt:=lt) a).app (Stab.swap hO (u:=b) (v:=[y]) (fun u hu z hz=>by rw [List.mem_singleton.1 hz];exact hb u hu))
  simpa using this
omit [Inhabited α] in
theorem two_parts (hO:SWO lt){u1 u2 v1 v2 w1 w2:List α}(hu:Srt lt (u1++u2))(hv:Srt lt (v1++v2))(h21:∀x∈u2,∀y∈v1,lt y x=true)(h12:∀x∈u1,∀y∈v2,lt y x=false)
  (s1:Srt lt w1) (t1:Stab lt (u1++v1) w1) (s2:Srt lt w2) (t2:Stab lt (u2++v2) w2):Srt lt (w1++w2)∧Stab lt ((u1++u2)++(v1++v2)) (w1++w2):=by
 obtain ⟨_,_,hu3⟩:=srt_app.1 hu
 obtain ⟨_,_,hv3⟩:=srt_app.1 hv
 refine ⟨srt_app.2 ⟨s1,s2,fun a ha b hb=>?_⟩,?_⟩
 ·rcases List.mem_append.1 (t1.mem hO ha) with ha|ha<;>rcases List.mem_append.1 (t2.mem hO hb) with hb|hb
  ·exact hu3 a ha b hb
  ·exact h12 a ha b hb
  ·exact asym hO (h21 b hb a ha)
  ·exact hv3 a ha b hb
 ·have h:=((Stab.refl (lt:=lt) u1).app (Stab.swap hO h21)).app (Stab.refl (lt:=lt) v2)
  have h2:Stab lt ((u1++u2)++(v1++v2)) ((u1++v1)++(u2++v2)):=by simpa using h
  exact h2.trans (t1.app t2)
def seg (l:List α)(i j:Nat):List α:=(l.drop i).take (j-i)
omit [Inhabited α] in
theorem seg_len (l:List α){i j:Nat}(h:j≤l.length):(seg l i j).length=j-i:=by unfold seg;simp;omega
omit [Inhabited α] in
theorem seg_split (l:List α){i j k:Nat}(h1:i≤j)(h2:j≤k):seg l i k=seg l i j++seg l j k:=by
 unfold seg
 have e:k-i=(j-i)+(k-j):=by omega
 rw [e,List.take_add,List.drop_drop]
 congr 2
 congr 1
 omega
omit [Inhabited α] in
theorem seg_all (l:List α):seg l 0 l.length=l:=by unfold seg;simp
omit [Inhabited α] in
theorem seg_nil (l:List α){i j:Nat}(h:j≤i):seg l i j=[]:=by unfold seg;rw [show j-i=0 from by omega];rfl
theorem seg_mem {d:Array α}{i j:Nat}{x:α}(hj:j≤d.size)(h:x∈seg d.toList i j):∃k,i≤k∧k<j∧x=d[k]!:=by
 obtain ⟨n,hn,rfl⟩:=List.mem_iff_getElem.1 h
 have hl:=seg_len (l:=d.toList) (i:=i) (j:=j) (by simpa using hj)
 refine ⟨i+n,by omega,by omega,?_⟩
 rw [getElem!_pos d (i+n) (by omega)]
 simp [seg]
theorem seg_one {d:Array α}{i:Nat}(h:i<d.size):seg d.toList i (i+1)=[d[i]!]:=by
 unfold seg
 rw [show i+1-i=1 from by omega,List.drop_eq_getElem_cons (by simpa using h),getElem!_pos d i h]
 simp
theorem seg_srt {d:Array α}{i j:Nat}(hj:j≤d.size):Srt lt (seg d.toList i j)↔SortedIn lt i j d:=by
 unfold Srt SortedIn
 rw [List.pairwise_iff_getElem]
 have hl:=seg_len (l:=d.toList) (i:=i) (j:=j) (by simpa using hj)
 constructor
 ·intro h a b ha hab hb
  have:=h (a-i) (b-i) (by omega) (by omega) (by omega)
  simp only [seg,List.getElem_take,List.getElem_drop,Array.getElem_toList] at this
  rw [getElem!_pos d a (by omega),getElem!_pos d b (by omega)]
  simpa [show i+(a-i)=a from by omega,show i+(b-i)=b from by omega] using this
 ·intro h a b ha hb hab
  have:=h (i+a) (i+b) (by omega) (by omega) (by omega)
  rw [getElem!_pos d (i+a) (by omega),getElem!_pos d (i+b) (by omega)] at this
  simpa [seg] using this
structure Moved (lt:α→α→Bool)(a b:Nat)(d d':Array α):Prop where
 size:d'.size=d.size
 low:seg d'.toList 0 a=seg d.toList 0 a
 high:seg d'.toList b d.size=seg d.toList b d.size
 stab:Stab lt (seg d.toList a b) (seg d'.toList a b)
omit [Inhabited α] in
theorem Moved.refl (a b:Nat)(d:Array α):Moved lt a b d d:=⟨rfl,rfl,rfl,Stab.refl _⟩
omit [Inhabited α] in
theorem Moved.trans {a b:Nat}{d d' d'':Array α}(h:Moved lt a b d d')(h':Moved lt a b d' d''):Moved lt a b d d'':=by
 have e:=h'.high
 rw [h.size] at e
 exact ⟨h'.size.trans h.size,h'.low.trans h.low,e.trans h.high,h.stab.trans h'.stab⟩
omit [Inhabited α] in
theorem seg_sub {l l':List α}{i j a b:Nat}(h:seg l' i j=seg l i j)(h1:i≤a)(h3:b≤j):seg l' a b=seg l a b:=by
 have e:∀l:List α,seg l a b=((seg l i j).drop (a-i)).take (b-a):=fun l=>by
  unfold seg
  rw [List.drop_take,List.take_take,List.drop_drop,Nat.min_eq_left (by omega),show i+(a-i)=a from by omega]
 rw [e,e,h]
theorem Moved.get {a b:Nat}{d d':Array α}(h:Moved lt a b d d'){i:Nat}(hi:i<a∨b≤i):d'[i]! = d[i]!:=by
 by_cases hlt:i<d.size
 ·have e:seg d'.toList i (i+1)=seg d.toList i (i+1):=by
   rcases hi with hi|hi
   ·exact seg_sub h.low (Nat.zero_le _) hi
   ·exact seg_sub h.high hi hlt
  rw [seg_one hlt,seg_one (by rw [h.size];exact hlt)] at e
  exact (List.cons.inj e).1
 ·rw [getElem!_neg d i hlt,getElem!_neg d' i (by rw [h.size];exact hlt)]
omit [Inhabited α] in
theorem Moved.wide {a b a' b':Nat}{d d':Array α}(h:Moved lt a b d d')(h1:a'≤a)(h2:b≤b')(hab:a≤b)(hb:b'≤d.size):Moved lt a' b' d d':=by
 refine ⟨h.size,seg_sub h.low (Nat.le_refl _) h1,seg_sub h.high h2 (Nat.le_refl _),?_⟩
 rw [seg_split _ h1 (show a≤b' by omega),seg_split d.toList hab h2,seg_split _ h1 (show a≤b' by omega),seg_split d'.toList hab h2,seg_sub h.low (Nat.zero_le _) (Nat.le_refl a),seg_sub h.high (Nat.le_refl _) hb]
 exact (Stab.refl _).app (h.stab.app (Stab.refl _))
theorem Moved.sorted {a b i j:Nat}{d d':Array α}(h:Moved lt a b d d')(ho:j≤a∨b≤i)(hs:SortedIn lt i j d):SortedIn lt i j d':=fun x y hx hxy hy=>by
 rw [h.get (by omega),h.get (by omega)]
 exact hs x y hx hxy hy
omit [Inhabited α] in
omit [Inhabited α] in
theorem arr_all (d:Array α):seg d.toList 0 d.size=d.toList:=by
 have:=seg_all d.toList
 simpa using this
omit [Inhabited α] in
theorem app_cancel {a b c d:List α}(h:a++b=c++d)(hl:a.length=c.length):a=c∧b=d:=List.append_inj h hl
omit [Inhabited α] in
theorem parts {d':Array α}{p u s:List α}{a b:Nat}(h:d'.toList=p++(u++s))(ha:p.length=a)(hb:u.length=b-a)(hab:a≤b):seg d'.toList 0 a=p∧seg d'.toList a b=u∧seg d'.toList b d'.size=s:=by
 have hz:d'.size=p.length+(u.length+s.length):=by rw [←Array.length_toList,h];simp
 have e:=arr_all d'
 rw [seg_split d'.toList (Nat.zero_le a) (show a≤d'.size by omega),seg_split d'.toList hab (show b≤d'.size by omega)] at e
 have l1:(seg d'.toList 0 a).length=a-0:=seg_len _ (by simp;omega)
 have l2:(seg d'.toList a b).length=b-a:=seg_len _ (by simp;omega)
 have e':seg d'.toList 0 a++(seg d'.toList a b++seg d'.toList b d'.size)=p++(u++s):=e.trans h
 obtain ⟨e1,e2⟩:=app_cancel e' (by omega)
 obtain ⟨e3,e4⟩:=app_cancel e2 (by omega)
 exact ⟨e1,e3,e4⟩
omit [Inhabited α] in
theorem moved_of {d d':Array α}{a b:Nat}{u:List α}(hab:a≤b)(hb:b≤d.size)(h:d'.toList=seg d.toList 0 a++(u++seg d.toList b d.size))(hu:u.length=b-a)(hs:Stab lt (seg d.toList a b) u):Moved lt a b d d'∧seg d'.toList a b=u:=by
 have hz:d'.size=d.size:=by
  rw [←Array.length_toList,h]
  simp only [List.length_append,hu]
  rw [seg_len _ (by simp;omega),seg_len _ (by simp)]
  omega
 obtain ⟨e1,e2,e3⟩:=parts (a:=a) (b:=b) h (by rw [seg_len _ (by simp;omega)];omega) hu hab
 rw [hz] at e3
 exact ⟨⟨hz,e1,e3,by rw [e2];exact hs⟩,e2⟩
theorem swp_list {d:Array α}{p m s:List α}{x y:α}(h:d.toList=p++x::(m++y::s)):(swp d p.length (p.length+(m.length+1))).toList=p++y::(m++x::s):=by
 have hz:d.size=p.length+(m.length+(s.length+1)+1):=by rw [←Array.length_toList,h];simp
 have hx:d[p.length]! = x:=by
  rw [getElem!_pos d _ (by omega),←Array.getElem_toList,List.getElem_of_eq h]
  simp
 have hy:d[p.length+(m.length+1)]! = y:=by
  rw [getElem!_pos d _ (by omega),←Array.getElem_toList,List.getElem_of_eq h,List.getElem_append_right (by omega)]
  simp only [show p.length+(m.length+1)-p.length=m.length+1 from by omega,List.getElem_cons_succ]
  rw [List.getElem_append_right (Nat.le_refl _)]
  simp
 unfold swp
 rw [hx,hy,Array.toList_setIfInBounds,Array.toList_setIfInBounds,h,List.set_append_right _ _ (Nat.le_refl _),Nat.sub_self,List.set_cons_zero,List.set_append_right _ _ (by omega),show p.length+(m.length+1)-p.length=m.length+1 from by omega,List.set_cons_succ,List.set_append_right _ _ (Nat.le_refl _),Nat.sub_self,List.set_cons_zero]
theorem swp_comm (d:Array α)(i j:Nat)(hij:i≠j):swp d i j=swp d j i:=by
 unfold swp
 rw [Array.setIfInBounds_comm _ _ hij]
end
section
variable {α:Type} [Inhabited α] {lt:α→α→Bool}
omit [Inhabited α] in
theorem cut3 (d:Array α){a b:Nat}(hab:a≤b)(hb:b≤d.size):d.toList=seg d.toList 0 a++(seg d.toList a b++seg d.toList b d.size):=by
 rw [←seg_split _ hab hb,←seg_split _ (Nat.zero_le _) (by omega),arr_all]
theorem cons_seg {d:Array α}{i j:Nat}(h:i<j)(hj:j≤d.size):seg d.toList i j=d[i]!::seg d.toList (i+1) j:=by
 rw [seg_split d.toList (show i≤i+1 by omega) (show i+1≤j by omega),seg_one (by omega)];rfl
theorem snoc_seg {d:Array α}{i j:Nat}(h:i≤j)(hj:j<d.size):seg d.toList i (j+1)=seg d.toList i j++[d[j]!]:=by
 rw [seg_split d.toList h (show j≤j+1 by omega),seg_one hj]
theorem moved_step (hO:SWO lt){d:Array α}{a b j:Nat}(ha:a≤j)(hj:j+1<b)(hb:b≤d.size)(h:lt d[j+1]! d[j]! = true):Moved lt a b d (swp d (j+1) j):=by
 have hl:(seg d.toList 0 j).length=j:=by rw [seg_len _ (by simp;omega)];omega
 have e:d.toList=seg d.toList 0 j++d[j]!::([]++d[j+1]!::seg d.toList (j+2) d.size):=by
  rw [List.nil_append,←cons_seg (i:=j+1) (j:=d.size) (by omega) (Nat.le_refl _),←cons_seg (i:=j) (by omega) (Nat.le_refl _),←seg_split _ (Nat.zero_le _) (by omega),arr_all]
 have e2:=swp_list e
 rw [hl,List.length_nil,Nat.zero_add,swp_comm _ _ _ (by omega)] at e2
 have e3:seg d.toList j (j+2)=[d[j]!,d[j+1]!]:=by rw [cons_seg (by omega) (by omega),seg_one (by omega)]
 have hm:=(moved_of (lt:=lt) (d:=d) (d':=swp d (j+1) j) (a:=j) (b:=j+2) (u:=[d[j+1]!,d[j]!]) (by omega) (by omega) (by rw [e2];simp) (by simp)
  (by rw [e3];exact Stab.swap hO (u:=[d[j]!]) (v:=[d[j+1]!]) (fun x hx y hy=>by rw [List.mem_singleton.1 hx,List.mem_singleton.1 hy];exact h))).1
 exact hm.wide ha (by omega) (by omega) hb
theorem insInner_moved (hO:SWO lt){a b:Nat}:∀(j:Nat)(d:Array α),j<b→b≤d.size→Moved lt a b d (insInner lt a j d)
 | 0,d,_,_=>Moved.refl _ _ _
 | j+1,d,hj,hb=>by
  unfold insInner
  split
  ·rename_i h
   simp only [gt_iff_lt,Bool.and_eq_true,decide_eq_true_eq] at h
   have h1:=moved_step hO (show a≤j by omega) hj hb h.2
   exact h1.trans (insInner_moved hO j _ (by omega) (by rw [h1.size];exact hb))
  ·exact Moved.refl _ _ _
theorem insOuter_moved (hO:SWO lt){a b:Nat}(n:Nat):∀(i:Nat) (d:Array α),b-i≤n→b≤d.size→Moved lt a b d (insOuter lt a b i d):=by
 induction n with
 | zero=>intro i d h hb;unfold insOuter;rw [if_neg (by omega)];exact Moved.refl _ _ _
 | succ n ih=>
  intro i d h hb
  unfold insOuter
  split
  ·rename_i hi
   have h1:=insInner_moved (lt:=lt) hO (a:=a) i d hi hb
   exact h1.trans (ih _ _ (by omega) (by rw [h1.size];exact hb))
  ·exact Moved.refl _ _ _
theorem insertion_moved (hO:SWO lt)(d:Array α){a b:Nat}(hb:b≤d.size):Moved lt a b d (insertionSort lt d a b):=insOuter_moved hO (b-(a+1)) _ _ (Nat.le_refl _) hb
def swF (l:List α)(a b i z:Nat):List α:=seg l 0 a++(seg l b (b+i)++(seg l (a+i) b++(seg l a (a+i)++seg l (b+i) z)))
omit [Inhabited α] in
theorem swF_zero (d:Array α){a b:Nat}(hab:a≤b)(hb:b≤d.size):swF d.toList a b 0 d.size=d.toList:=by
 unfold swF
 rw [Nat.add_zero,Nat.add_zero,seg_nil _ (Nat.le_refl b),seg_nil _ (Nat.le_refl a),List.nil_append,List.nil_append]
 exact (cut3 d hab hb).symm
theorem swF_step {d dk:Array α}{a b i:Nat}(h:dk.toList=swF d.toList a b i d.size)(h1:a+i<b)(h2:b+i<d.size):(swp dk (a+i) (b+i)).toList=swF d.toList a b (i+1) d.size:=by
 have e:dk.toList=(seg d.toList 0 a++seg d.toList b (b+i))++d[a+i]!::((seg d.toList (a+i+1) b++seg d.toList a (a+i))++d[b+i]!::seg d.toList (b+i+1) d.size):=by
  rw [h,swF,cons_seg h1 (by omega),cons_seg (i:=b+i) h2 (Nat.le_refl _)]
  simp
 have l1:(seg d.toList 0 a++seg d.toList b (b+i)).length=a+i:=by
  rw [List.length_append,seg_len _ (by simp;omega),seg_len _ (by simp;omega)];omega
 have l2:(seg d.toList (a+i+1) b++seg d.toList a (a+i)).length=b-a-1:=by
  rw [List.length_append,seg_len _ (by simp;omega),seg_len _ (by simp;omega)];omega
 have e2:=swp_list e
 rw [l1,l2,show a+i+(b-a-1+1)=b+i from by omega] at e2
 rw [e2,swF,←Nat.add_assoc,←Nat.add_assoc,snoc_seg (i:=b) (by omega) (by omega),snoc_seg (i:=a) (by omega) (by omega)]
 simp
def rotF (l:List α)(s m e z:Nat):List α:=seg l 0 s++(seg l m e++(seg l s m++seg l e z))
omit [Inhabited α] in
theorem four {d':Array α}{p q r s t:List α}(h:d'.toList=p++(q++(r++(s++t)))){a b c e z:Nat}(ha:p.length=a)(hb:q.length=b-a)(hc:r.length=c-b)(he:s.length=e-c)(hz:t.length=z-e)(h1:a≤b)(h2:b≤c)(h3:c≤e)(h4:e≤z) :
  d'.size=z∧seg d'.toList 0 a=p∧seg d'.toList a b=q∧seg d'.toList b c=r∧seg d'.toList c e=s∧seg d'.toList e z=t:=by
 have hs:d'.size=z:=by rw [←Array.length_toList,h];simp only [List.length_append];omega
 obtain ⟨e1,e2,_⟩:=parts (a:=a) (b:=b) h ha hb h1
 obtain ⟨_,e3,_⟩:=parts (d':=d') (p:=p++q) (u:=r) (s:=s++t) (a:=b) (b:=c) (by rw [h];simp) (by simp;omega) hc h2
 obtain ⟨_,e4,e5⟩:=parts (d':=d') (p:=p++(q++r)) (u:=s) (s:=t) (a:=c) (b:=e) (by rw [h];simp) (by simp;omega) he h3
 rw [hs] at e5
 exact ⟨hs,e1,e2,e3,e4,e5⟩
omit [Inhabited α] in
theorem swF_parts {d dk:Array α}{a b n:Nat}(h:dk.toList=swF d.toList a b n d.size)(h1:a+n≤b)(h2:b+n≤d.size) :
  dk.size=d.size∧seg dk.toList 0 a=seg d.toList 0 a∧seg dk.toList a (a+n)=seg d.toList b (b+n)∧seg dk.toList (a+n) b=seg d.toList (a+n) b∧seg dk.toList b (b+n)=seg d.toList a (a+n)∧seg dk.toList (b+n) d.size=seg d.toList (b+n) d.size:=
 four h (by rw [seg_len _ (by simp;omega)];omega) (by rw [seg_len _ (by simp;omega)];omega) (by rw [seg_len _ (by simp;omega)]) (by rw [seg_len _ (by simp;omega)];omega) (by rw [seg_len _ (by simp)]) (by omega) h1 (by omega) h2
omit [Inhabited α] in
theorem rot_more {d dk:Array α}{m i j:Nat}(hij:j<i)(him:i≤m)(hz:m+j≤d.size)(h:dk.toList=swF d.toList (m-i) m j d.size):dk.size=d.size∧rotF dk.toList (m-(i-j)) m (m+j) d.size=rotF d.toList (m-i) m (m+j) d.size:=by
 obtain ⟨h0,h1,h2,h3,h4,h5⟩:=swF_parts h (by omega) (by omega)
 refine ⟨h0,?_⟩
 unfold rotF
 rw [show m-(i-j)=m-i+j from by omega,seg_split dk.toList (Nat.zero_le (m-i)) (show m-i≤m-i+j by omega),h1,h2,h3,h4,h5,seg_split d.toList (show m-i≤m-i+j by omega) (show m-i+j≤m by omega)]
 simp
omit [Inhabited α] in
theorem rot_less {d dk:Array α}{m i j:Nat}(hij:i<j)(him:i≤m)(hz:m+j≤d.size)(h:dk.toList=swF d.toList (m-i) (m+j-i) i d.size):dk.size=d.size∧rotF dk.toList (m-i) m (m+(j-i)) d.size=rotF d.toList (m-i) m (m+j) d.size:=by
 obtain ⟨h0,h1,h2,h3,h4,h5⟩:=swF_parts h (by omega) (by omega)
 rw [show m-i+i=m from by omega] at h2 h3 h4
 rw [show m+j-i+i=m+j from by omega] at h2 h4 h5
 refine ⟨h0,?_⟩
 unfold rotF
 rw [show m+(j-i)=m+j-i from by omega,seg_split dk.toList (show m+j-i≤m+j by omega) hz,h1,h2,h3,h4,h5,seg_split d.toList (show m≤m+j-i by omega) (show m+j-i≤m+j by omega)]
 simp
omit [Inhabited α] in
theorem rot_end {d dk:Array α}{m i:Nat}(him:i≤m)(hz:m+i≤d.size)(h:dk.toList=swF d.toList (m-i) m i d.size):dk.size=d.size∧dk.toList=rotF d.toList (m-i) m (m+i) d.size:=by
 obtain ⟨h0,-⟩:=swF_parts h (by omega) (by omega)
 refine ⟨h0,?_⟩
 rw [h]
 unfold swF rotF
 rw [show m-i+i=m from by omega,seg_nil _ (Nat.le_refl m)]
 simp
omit [Inhabited α] in
theorem rot_parts {d dk:Array α}{s m e:Nat}(h:dk.toList=rotF d.toList s m e d.size)(h1:s≤m)(h2:m≤e)(h3:e≤d.size) :
  dk.size=d.size∧seg dk.toList 0 s=seg d.toList 0 s∧seg dk.toList s (s+(e-m))=seg d.toList m e∧seg dk.toList (s+(e-m)) e=seg d.toList s m∧seg dk.toList e d.size=seg d.toList e d.size:=by
 have h':dk.toList=seg d.toList 0 s++(seg d.toList m e++(seg d.toList s m++(seg d.toList e e++seg d.toList e d.size))):=by rw [h,seg_nil d.toList (Nat.le_refl e)];rfl
 obtain ⟨q0,q1,q2,q3,_,q5⟩:=four (a:=s) (b:=s+(e-m)) (c:=e) (e:=e) (z:=d.size) h' (by rw [seg_len _ (by simp;omega)];omega) (by rw [seg_len _ (by simp;omega)];omega) (by rw [seg_len _ (by simp;omega)];omega) (by rw [seg_len _ (by simp;omega)]) (by rw [seg_len _ (by simp)]) (by omega) (by omega) (Nat.le_refl _) h3
 exact ⟨q0,q1,q2,q3,q5⟩
theorem right_step {d dk:Array α}{a k:Nat}{x:α}(h:dk.toList=seg d.toList 0 a++(seg d.toList (a+1) (k+1)++x::seg d.toList (k+1) d.size))(hak:a≤k)(hk:k+1<d.size):(swp dk k (k+1)).toList=seg d.toList 0 a++(seg d.toList (a+1) (k+2)++x::seg d.toList (k+2) d.size):=by
 have e:dk.toList=(seg d.toList 0 a++seg d.toList (a+1) (k+1))++x::([]++d[k+1]!::seg d.toList (k+2) d.size):=by
  rw [h,cons_seg (i:=k+1) hk (Nat.le_refl _)];simp
 have l1:(seg d.toList 0 a++seg d.toList (a+1) (k+1)).length=k:=by
  rw [List.length_append,seg_len _ (by simp;omega),seg_len _ (by simp;omega)];omega
 have e2:=swp_list e
 rw [l1,List.length_nil,Nat.zero_add] at e2
 rw [e2,snoc_seg (i:=a+1) (j:=k+1) (by omega) hk]
 simp
theorem left_step {d dk:Array α}{m k:Nat}{y:α}(h:dk.toList=seg d.toList 0 (k+1)++y::(seg d.toList (k+1) m++seg d.toList (m+1) d.size))(hkm:k+1≤m)(hm:m<d.size):(swp dk (k+1) k).toList=seg d.toList 0 k++y::(seg d.toList k m++seg d.toList (m+1) d.size):=by
 have e:dk.toList=seg d.toList 0 k++d[k]!::([]++y::(seg d.toList (k+1) m++seg d.toList (m+1) d.size)):=by
  rw [h,snoc_seg (Nat.zero_le _) (by omega)];simp
 have l1:(seg d.toList 0 k).length=k:=by rw [seg_len _ (by simp;omega)];omega
 have e2:=swp_list e
 rw [l1,List.length_nil,Nat.zero_add] at e2
 rw [swp_comm _ _ _ (by omega),e2,cons_seg (i:=k) (j:=m) (by omega) (by omega)]
 simp
theorem merge_left (hO:SWO lt){d d':Array α}{a b i:Nat}(hs:SortedIn lt (a+1) b d)(h1:a+1≤i)(h2:i≤b)(hb:b≤d.size)(ha:∀k,a+1≤k→k<i→lt d[k]! d[a]! = true)(hc:∀k,i≤k→k<b→lt d[k]! d[a]! = false)
  (h:d'.toList=seg d.toList 0 a++(seg d.toList (a+1) i++d[a]!::seg d.toList i d.size)):Moved lt a b d d'∧SortedIn lt a b d':=by
 have hs':=(seg_srt hb).2 hs
 rw [seg_split d.toList h1 h2] at hs'
 obtain ⟨s1,s2⟩:=one_left (x:=d[a]!) hO hs' (fun y hy=>by obtain ⟨k,k1,k2,rfl⟩:=seg_mem (by omega) hy;exact ha k k1 k2) (fun y hy=>by obtain ⟨k,k1,k2,rfl⟩:=seg_mem hb hy;exact hc k k1 k2)
 rw [←seg_split d.toList h1 h2,←cons_seg (by omega) hb] at s2
 obtain ⟨q1,q2⟩:=moved_of (lt:=lt) (d:=d) (d':=d') (a:=a) (b:=b) (u:=seg d.toList (a+1) i++d[a]!::seg d.toList i b) (by omega) hb (by rw [h,seg_split d.toList h2 hb];simp) (by rw [List.length_append,List.length_cons,seg_len _ (by simp;omega),seg_len _ (by simp;omega)];omega) s2
 refine ⟨q1,(seg_srt (by rw [q1.size];exact hb)).1 ?_⟩
 rw [q2];exact s1
theorem merge_right (hO:SWO lt){d d':Array α}{a m i:Nat}(hs:SortedIn lt a m d)(h1:a≤i)(h2:i≤m)(hb:m<d.size)(ha:∀k,a≤k→k<i→lt d[m]! d[k]! = false)(hc:∀k,i≤k→k<m→lt d[m]! d[k]! = true)
  (h:d'.toList=seg d.toList 0 i++d[m]!::(seg d.toList i m++seg d.toList (m+1) d.size)):Moved lt a (m+1) d d'∧SortedIn lt a (m+1) d':=by
 have hs':=(seg_srt (by omega)).2 hs
 rw [seg_split d.toList h1 h2] at hs'
 obtain ⟨s1,s2⟩:=one_right (y:=d[m]!) hO hs' (fun y hy=>by obtain ⟨k,k1,k2,rfl⟩:=seg_mem (by omega) hy;exact ha k k1 k2) (fun y hy=>by obtain ⟨k,k1,k2,rfl⟩:=seg_mem (by omega) hy;exact hc k k1 k2)
 rw [←seg_split d.toList h1 h2,←snoc_seg (by omega) hb] at s2
 obtain ⟨q1,q2⟩:=moved_of (lt:=lt) (d:=d) (d':=d') (a:=a) (b:=m+1) (u:=seg d.toList a i++d[m]!::seg d.toList i m) (by omega) hb (by rw [h,seg_split d.toList (Nat.zero_le a) h1];simp) (by rw [List.length_append,List.length_cons,seg_len _ (by simp;omega),seg_len _ (by simp;omega)];omega) s2
 refine ⟨q1,(seg_srt (by rw [q1.size];exact hb)).1 ?_⟩
 rw [q2];exact s1
theorem merge_two (hO:SWO lt){d d1 d2 d3:Array α}{a s m e b mid:Nat}(has:a≤s)(hsm:s≤m)(hme:m≤e)(heb:e≤b)(hb:b≤d.size)(hmid:mid=s+(e-m))(hu:SortedIn lt a m d)(hv:SortedIn lt m b d)
  (h21:∀x y,s≤x→x<m→m≤y→y<e→lt d[y]! d[x]! = true) (h12:∀x y,a≤x→x<s→e≤y→y<b→lt d[y]! d[x]! = false)
  (hr:d1.toList=rotF d.toList s m e d.size) (m1:Moved lt a mid d1 d2) (s1:SortedIn lt a mid d2) (m2:Moved lt mid b d2 d3) (s2:SortedIn lt mid b d3):Moved lt a b d d3∧SortedIn lt a b d3:=by
 obtain ⟨q0,q1,q2,q3,q4⟩:=rot_parts hr hsm hme (by omega)
 rw [←hmid] at q2 q3
 have hu':=(seg_srt (by omega)).2 hu
 have hv':=(seg_srt hb).2 hv
 rw [seg_split d.toList has hsm] at hu'
 rw [seg_split d.toList hme heb] at hv'
 have z2:d2.size=d.size:=m1.size.trans q0
 have z3:d3.size=d.size:=m2.size.trans z2
 have w1:seg d3.toList a mid=seg d2.toList a mid:=seg_sub m2.low (Nat.zero_le _) (Nat.le_refl _)
 have w2:seg d2.toList mid b=seg d1.toList mid b:=seg_sub m1.high (Nat.le_refl _) (by omega)
 have g1:Srt lt (seg d3.toList a mid):=by rw [w1];exact (seg_srt (by omega)).2 s1
 have g2:Srt lt (seg d3.toList mid b):=(seg_srt (by omega)).2 s2
 have r1:seg d1.toList a mid=seg d.toList a s++seg d.toList m e:=by
  rw [seg_split d1.toList has (show s≤mid by omega),q2,seg_sub q1 (Nat.zero_le _) (Nat.le_refl s)]
 have r2:seg d1.toList mid b=seg d.toList s m++seg d.toList e b:=by
  rw [seg_split d1.toList (show mid≤e by omega) heb,q3,seg_sub q4 (Nat.le_refl _) hb]
 have t1:Stab lt (seg d.toList a s++seg d.toList m e) (seg d3.toList a mid):=by rw [←r1,w1];exact m1.stab
 have t2:Stab lt (seg d.toList s m++seg d.toList e b) (seg d3.toList mid b):=by rw [←r2,←w2];exact m2.stab
 obtain ⟨k1,k2⟩:=two_parts hO hu' hv' (fun x hx y hy=>by obtain ⟨i,i1,i2,rfl⟩:=seg_mem (by omega) hx;obtain ⟨j,j1,j2,rfl⟩:=seg_mem (by omega) hy;exact h21 i j i1 i2 j1 j2)
  (fun x hx y hy=>by obtain ⟨i,i1,i2,rfl⟩:=seg_mem (by omega) hx;obtain ⟨j,j1,j2,rfl⟩:=seg_mem (by omega) hy;exact h12 i j i1 i2 j1 j2) g1 t1 g2 t2
 rw [←seg_split d.toList has hsm,←seg_split d.toList hme heb,←seg_split d.toList (show a≤m by omega) (show m≤b by omega),←seg_split d3.toList (show a≤mid by omega) (show mid≤b by omega)] at k2
 rw [←seg_split d3.toList (show a≤mid by omega) (show mid≤b by omega)] at k1
 refine ⟨⟨z3,?_,?_,k2⟩,(seg_srt (by omega)).1 k1⟩
 ·rw [seg_sub m2.low (Nat.le_refl _) (show a≤mid by omega),m1.low,seg_sub q1 (Nat.le_refl _) has]
 ·have x1:=m2.high
  rw [z2] at x1
  have x2:=m1.high
  rw [q0] at x2
  rw [x1,seg_sub x2 (show mid≤b by omega) (Nat.le_refl _),seg_sub q4 heb (Nat.le_refl _)]
def BlkF (lt:α→α→Bool)(s n a:Nat)(d:Array α):Prop:=∀k,a≤k*s→k*s<n→SortedIn lt (k*s) (min ((k+1)*s) n) d
def BlkT (lt:α→α→Bool)(s a:Nat)(d:Array α):Prop:=∀k,(k+1)*s≤a→SortedIn lt (k*s) ((k+1)*s) d
theorem s1_up (hO:SWO lt){d:Array α}{lo hi h:Nat}{x:α}(hs:SortedIn lt lo hi d)(h2:h<hi)(hL:lt d[h]! x=true):∀k,lo≤k→k<h+1→lt d[k]! x=true:=fun k h3 h4=>by
 rcases Nat.lt_or_ge k h with h5|h5
 ·cases e:lt d[k]! x with
  | true=>rfl
  | false=>have:=hO.ntrans _ _ _ (hs k h h3 h5 h2) e;rw [hL] at this;cases this
 ·rw [show k=h from by omega];exact hL
theorem s1_dn (hO:SWO lt){d:Array α}{lo hi h:Nat}{x:α}(hs:SortedIn lt lo hi d)(h1:lo≤h)(hL:lt d[h]! x=false):∀k,h≤k→k<hi→lt d[k]! x=false:=fun k h3 h4=>by
 rcases Nat.lt_or_ge h k with h5|h5
 ·exact hO.ntrans _ _ _ (hs h k h1 h5 h4) hL
 ·rw [show k=h from by omega];exact hL
theorem s2_up (hO:SWO lt){d:Array α}{lo hi h:Nat}{y:α}(hs:SortedIn lt lo hi d)(h2:h<hi)(hL:lt y d[h]! = false):∀k,lo≤k→k<h+1→lt y d[k]! = false:=fun k h3 h4=>by
 rcases Nat.lt_or_ge k h with h5|h5
 ·exact hO.ntrans _ _ _ hL (hs k h h3 h5 h2)
 ·rw [show k=h from by omega];exact hL
theorem s2_dn (hO:SWO lt){d:Array α}{lo hi h:Nat}{y:α}(hs:SortedIn lt lo hi d)(h1:lo≤h)(hL:lt y d[h]! = true):∀k,h≤k→k<hi→lt y d[k]! = true:=fun k h3 h4=>by
 rcases Nat.lt_or_ge h k with h5|h5
 ·cases e:lt y d[k]! with
  | true=>rfl
  | false=>have:=hO.ntrans _ _ _ e (hs h k h1 h5 h4);rw [hL] at this;cases this
 ·rw [show k=h from by omega];exact hL
theorem s3_up (hO:SWO lt){d:Array α}{a m b p c s:Nat}(hu:SortedIn lt a m d)(hv:SortedIn lt m b d)(h1:a≤s)(h2:c<m)(h3:m≤p-c)(h4:p-s<b)(hL:lt d[p-c]! d[c]! = false):∀k,s≤k→k<c+1→lt d[p-k]! d[k]! = false:=fun k h5 h6=>by
 rcases Nat.lt_or_ge k c with h7|h7
 ·exact hO.ntrans _ _ _ (hO.ntrans _ _ _ (hv (p-c) (p-k) h3 (by omega) (by omega)) hL) (hu k c (by omega) h7 h2)
 ·rw [show k=c from by omega];exact hL
theorem s3_dn (hO:SWO lt){d:Array α}{a m b p c r:Nat}(hu:SortedIn lt a m d)(hv:SortedIn lt m b d)(h1:a≤c)(h2:r≤m)(h3:m+r≤p+1)(h4:p-c<b)(hL:lt d[p-c]! d[c]! = true):∀k,c≤k→k<r→lt d[p-k]! d[k]! = true:=fun k h5 h6=>by
 rcases Nat.lt_or_ge c k with h7|h7
 ·cases e:lt d[p-k]! d[k]! with
  | true=>rfl
  | false=>
   have:=hO.ntrans _ _ _ (hO.ntrans _ _ _ (hv (p-k) (p-c) (by omega) (by omega) (by omega)) e) (hu c k (by omega) h7 (by omega))
   rw [hL] at this;cases this
 ·rw [show k=c from by omega];exact hL
theorem cross (hO:SWO lt){d:Array α}{a m b mid s0 r0 s:Nat}(hu:SortedIn lt a m d)(hv:SortedIn lt m b d)(hmid:mid=(a+b) / 2)(hr:mid<m∧s0=mid+m-b∧r0=mid∨m≤mid∧s0=a∧r0=m)(h1:s0≤s)(h2:s≤r0)
  (hL:∀k,s0≤k→k<s→lt d[mid+m-1-k]! d[k]! = false) (hU:∀k,s≤k→k<r0→lt d[mid+m-1-k]! d[k]! = true) :
  (∀x y,s≤x→x<m→m≤y→y<mid+m-s→lt d[y]! d[x]! = true)∧(∀x y,a≤x→x<s→mid+m-s≤y→y<b→lt d[y]! d[x]! = false):=by
 constructor
 ·intro x y h3 h4 h5 h6
  have hs:s<r0:=by omega
  have h7:=hU s (Nat.le_refl _) hs
  cases e:lt d[y]! d[x]! with
  | true=>rfl
  | false=>
   have f1:lt d[mid+m-1-s]! d[y]! = false:=by
    rcases Nat.lt_or_ge y (mid+m-1-s) with h8|h8
    ·exact hv y _ h5 h8 (by omega)
    ·rw [show mid+m-1-s=y from by omega];exact hO.irrefl _
   have f2:lt d[x]! d[s]! = false:=by
    rcases Nat.lt_or_ge s x with h8|h8
    ·exact hu s x (by omega) h8 h4
    ·rw [show x=s from by omega];exact hO.irrefl _
   have:=hO.ntrans _ _ _ (hO.ntrans _ _ _ f1 e) f2
   rw [h7] at this;cases this
 ·intro x y h3 h4 h5 h6
  have hs:s0<s:=by omega
  have h7:=hL (s-1) (by omega) (by omega)
  rw [show mid+m-1-(s-1)=mid+m-s from by omega] at h7
  have f1:lt d[y]! d[mid+m-s]! = false:=by
   rcases Nat.lt_or_ge (mid+m-s) y with h8|h8
   ·exact hv _ y (by omega) h8 h6
   ·rw [show y=mid+m-s from by omega];exact hO.irrefl _
  have f2:lt d[s-1]! d[x]! = false:=by
   rcases Nat.lt_or_ge x (s-1) with h8|h8
   ·exact hu x _ h3 h8 (by omega)
   ·rw [show x=s-1 from by omega];exact hO.irrefl _
  exact hO.ntrans _ _ _ (hO.ntrans _ _ _ f1 h7) f2
omit [Inhabited α] in
theorem rot_none (d:Array α){s m e:Nat}(h1:s≤m)(h2:m≤e)(h3:e≤d.size)(h:¬(s<m∧m<e)):d.toList=rotF d.toList s m e d.size:=by
 unfold rotF
 rcases Nat.lt_or_ge s m with h4|h4
 ·have:e=m:=by omega
  subst this
  rw [seg_nil d.toList (Nat.le_refl e),List.nil_append,←seg_split _ h1 h3,←seg_split _ (Nat.zero_le _) (by omega),arr_all]
 ·have:s=m:=by omega
  subst this
  rw [seg_nil d.toList (Nat.le_refl s),List.nil_append,←seg_split _ h2 h3,←seg_split _ (Nat.zero_le _) (by omega),arr_all]
theorem half_low {d d1:Array α}{a m b mid s e:Nat}(hu:SortedIn lt a m d)(hv:SortedIn lt m b d)(hr:d1.toList=rotF d.toList s m e d.size)(h1:a≤s)(h2:s≤m)(h3:m≤e)(h4:e≤b)(hb:b≤d.size)(hmid:mid=s+(e-m))(h:¬(a<s∧s<mid)):SortedIn lt a mid d1:=by
 obtain ⟨q0,q1,q2,q3,q4⟩:=rot_parts hr h2 h3 (by omega)
 rw [←hmid] at q2 q3
 refine (seg_srt (by omega)).1 ?_
 rw [seg_split d1.toList h1 (show s≤mid by omega),q2,seg_sub q1 (Nat.zero_le _) (Nat.le_refl s)]
 rcases Nat.lt_or_ge a s with h5|h5
 ·rw [show e=m from by omega,seg_nil _ (Nat.le_refl m),List.append_nil]
  have:=(seg_srt (show m≤d.size by omega)).2 hu
  rw [seg_split d.toList h1 h2] at this
  exact (srt_app.1 this).1
 ·rw [show a=s from by omega,seg_nil _ (Nat.le_refl s),List.nil_append]
  have:=(seg_srt hb).2 hv
  rw [seg_split d.toList h3 h4] at this
  exact (srt_app.1 this).1
theorem half_high {d d1:Array α}{a m b mid s e:Nat}(hu:SortedIn lt a m d)(hv:SortedIn lt m b d)(hr:d1.toList=rotF d.toList s m e d.size)(h1:a≤s)(h2:s≤m)(h3:m≤e)(h4:e≤b)(hb:b≤d.size)(hmid:mid=s+(e-m))(h:¬(mid<e∧e<b)):SortedIn lt mid b d1:=by
 obtain ⟨q0,q1,q2,q3,q4⟩:=rot_parts hr h2 h3 (by omega)
 rw [←hmid] at q2 q3
 refine (seg_srt (by omega)).1 ?_
 rw [seg_split d1.toList (show mid≤e by omega) h4,q3,seg_sub q4 (Nat.le_refl _) hb]
 rcases Nat.lt_or_ge mid e with h5|h5
 ·rw [show e=b from by omega,seg_nil _ (Nat.le_refl b),List.append_nil]
  have:=(seg_srt (show m≤d.size by omega)).2 hu
  rw [seg_split d.toList h1 h2] at this
  exact (srt_app.1 this).2.1
 ·rw [show s=m from by omega,seg_nil _ (Nat.le_refl m),List.nil_append]
  have:=(seg_srt hb).2 hv
  rw [seg_split d.toList h3 h4] at this
  exact (srt_app.1 this).2.1
theorem rot_low {d d1:Array α}{a m b mid s e:Nat}(hu:SortedIn lt a m d)(hv:SortedIn lt m b d)(hr:d1.toList=rotF d.toList s m e d.size)(h1:a≤s)(h2:s≤m)(h3:m≤e)(h4:e≤b)(hb:b≤d.size)(hmid:mid=s+(e-m)):SortedIn lt a s d1∧SortedIn lt s mid d1:=by
 obtain ⟨q0,q1,q2,q3,q4⟩:=rot_parts hr h2 h3 (by omega)
 rw [←hmid] at q2 q3
 have e1:=(seg_srt (show m≤d.size by omega)).2 hu
 rw [seg_split d.toList h1 h2] at e1
 have e2:=(seg_srt hb).2 hv
 rw [seg_split d.toList h3 h4] at e2
 exact ⟨(seg_srt (by omega)).1 (by rw [seg_sub q1 (Nat.zero_le _) (Nat.le_refl s)];exact (srt_app.1 e1).1),(seg_srt (by omega)).1 (by rw [q2];exact (srt_app.1 e2).1)⟩
theorem rot_high {d d1:Array α}{a m b mid s e:Nat}(hu:SortedIn lt a m d)(hv:SortedIn lt m b d)(hr:d1.toList=rotF d.toList s m e d.size)(h1:a≤s)(h2:s≤m)(h3:m≤e)(h4:e≤b)(hb:b≤d.size)(hmid:mid=s+(e-m)):SortedIn lt mid e d1∧SortedIn lt e b d1:=by
 obtain ⟨q0,q1,q2,q3,q4⟩:=rot_parts hr h2 h3 (by omega)
 rw [←hmid] at q2 q3
 have e1:=(seg_srt (show m≤d.size by omega)).2 hu
 rw [seg_split d.toList h1 h2] at e1
 have e2:=(seg_srt hb).2 hv
 rw [seg_split d.toList h3 h4] at e2
 exact ⟨(seg_srt (by omega)).1 (by rw [q3];exact (srt_app.1 e1).2.1),(seg_srt (by omega)).1 (by rw [seg_sub q4 (Nat.le_refl _) hb];exact (srt_app.1 e2).2.1)⟩
theorem blk_zero (s:Nat)(hs:0<s)(d:Array α):BlkT lt s 0 d:=fun k h=>by
 rw [Nat.add_mul] at h;omega
theorem blk_step {s a q:Nat}{d d':Array α}(hq:a=q*s)(hs:0<s)(h:BlkT lt s a d)(hm:Moved lt a (a+s) d d')(hn:SortedIn lt a (a+s) d'):BlkT lt s (a+s) d':=fun k hk=>by
 rcases Nat.lt_or_ge k q with h1|h1
 ·have h2:(k+1)*s≤q*s:=Nat.mul_le_mul_right s h1
  exact hm.sorted (Or.inl (by omega)) (h k (by omega))
 ·have h2:k=q:=by
   rcases Nat.lt_or_ge q k with h3|h3
   ·have:=Nat.mul_le_mul_right s (show q+1+1≤k+1 by omega)
    rw [Nat.add_mul (q+1),Nat.add_mul q] at this
    omega
   ·omega
  subst h2
  rw [Nat.add_mul,Nat.one_mul,←hq]
  exact hn
theorem blk_end {s a q n:Nat}{d d':Array α}(hq:a=q*s)(h:BlkT lt s a d)(han:a≤n)(hna:n<a+s)(hm:Moved lt a n d d')(hn:SortedIn lt a n d'):BlkF lt s n 0 d':=fun k _ hk=>by
 rcases Nat.lt_or_ge k q with h1|h1
 ·have h2:(k+1)*s≤q*s:=Nat.mul_le_mul_right s h1
  rw [Nat.min_eq_left (by omega)]
  exact hm.sorted (Or.inl (by omega)) (h k (by omega))
 ·have h2:k=q:=by
   rcases Nat.lt_or_ge q k with h3|h3
   ·have:=Nat.mul_le_mul_right s (show q+1≤k by omega)
    rw [Nat.add_mul] at this
    omega
   ·omega
  subst h2
  rw [Nat.min_eq_right (by rw [Nat.add_mul];omega),←hq]
  exact hn
theorem blkF_keep {s n a a':Nat}{d d':Array α}(h:BlkF lt s n a d)(hm:Moved lt a a' d d')(h1:a≤a'):BlkF lt s n a' d':=fun k h2 h3=>hm.sorted (Or.inr h2) (h k (by omega) h3)
theorem blk_two {s a q n:Nat}{d:Array α}(hq:a=q*(2*s))(h:BlkF lt s n a d)(hn:a+s<n)(hs:0<s):SortedIn lt a (a+s) d∧SortedIn lt (a+s) (min (a+2*s) n) d:=by
 have e1:2*q*s=a:=by rw [hq,Nat.mul_comm 2 q,Nat.mul_assoc]
 have e2:(2*q+1)*s=a+s:=by rw [Nat.add_mul,e1,Nat.one_mul]
 have e3:(2*q+1+1)*s=a+2*s:=by rw [Nat.add_mul,e2];omega
 have h1:=h (2*q) (by omega) (by omega)
 have h2:=h (2*q+1) (by omega) (by omega)
 rw [e1,e2,Nat.min_eq_left (by omega)] at h1
 rw [e2,e3] at h2
 exact ⟨h1,h2⟩
theorem blk_last {s a q n:Nat}{d:Array α}(hq:a=q*(2*s))(h:BlkF lt s n a d)(han:a≤n)(hn:n≤a+s):SortedIn lt a n d:=by
 rcases Nat.lt_or_ge a n with h1|h1
 ·have e1:2*q*s=a:=by rw [hq,Nat.mul_comm 2 q,Nat.mul_assoc]
  have h2:=h (2*q) (by omega) (by omega)
  rw [Nat.add_mul,e1,Nat.one_mul,Nat.min_eq_right hn] at h2
  exact h2
 ·intro i j h2 h3 h4;omega
theorem blk_all {s n:Nat}{d:Array α}(h:BlkF lt s n 0 d)(hn:n≤s):SortedIn lt 0 n d:=by
 rcases Nat.lt_or_ge 0 n with h1|h1
 ·have:=h 0 (by omega) (by omega)
  rw [Nat.zero_mul,Nat.zero_add,Nat.one_mul,Nat.min_eq_right hn] at this
  exact this
 ·intro i j h2 h3 h4;omega
end
end Go.Proofs.YtcnebdjhhfnmoaaGreatDoor.Ir
