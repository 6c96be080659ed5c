/- The parts of package sync and sync/atomic that the table of calls leans on, each by a contract: one goroutine, the lock free. -/
import Derived.Test.YtcnebdjhhfnmoaaGreatDoorProg
import Derived.WalkKit
import Derived.WalkSpells
import Derived.Defers
import Derived.Laws.Pointers
import Derived.Laws.LoneSync
import Derived.RegionTactic
import Derived.RegionCalls
import Derived.ChangeAlike
import Derived.Maps.OwnSet
import Derived.StillTailTactics
import Derived.Lib.Hide
import Derived.IntWalk
import Derived.Laws.RangeString
import Derived.Laws.RangeAny
import Derived.Test.YtcnebdjhhfnmoaaGreatDoorL01
set_option maxHeartbeats 32000000
set_option maxRecDepth 100000
namespace Go.Proofs.YtcnebdjhhfnmoaaGreatDoor
open Go.RowKit
theorem disable (w:World):(callFunc 205 #[]).run Tryz.prog w=.ok (.value (.tuple #[])) w:=run_call_mark0 Tryz.func205 (by kernel_rfl) (by kernel_rfl) (by kernel_rfl) .disable (by kernel_rfl) w
theorem enable (w:World):(callFunc 207 #[]).run Tryz.prog w=.ok (.value (.tuple #[])) w:=run_call_mark0 Tryz.func207 (by kernel_rfl) (by kernel_rfl) (by kernel_rfl) .enable (by kernel_rfl) w
theorem acquire (a:Addr)(w:World):(callFunc 208 #[.pointer (some a)]).run Tryz.prog w=.ok (.value (.tuple #[])) w:=run_call_marked Tryz.func208 (by kernel_rfl) (by kernel_rfl) (by kernel_rfl) .acquire (by kernel_rfl) a w
theorem releaseMerge (a:Addr)(w:World):(callFunc 210 #[.pointer (some a)]).run Tryz.prog w=.ok (.value (.tuple #[])) w:=run_call_marked Tryz.func210 (by kernel_rfl) (by kernel_rfl) (by kernel_rfl) .releaseMerge (by kernel_rfl) a w
theorem store_deferred (a:Addr)(x:Value)(u:FrameMode)(w:World)(hc:w.cell? a=some x)(hz:w.frozen? a=false) :
  CallsD Tryz.prog 183 #[.pointer (some a),.bool true] u w fun e u' w'=>u'=u∧(e=.returned (.tuple #[])∧w'=w.drew.setCell a (.int .u32 1)):=by
 have hc':w.drew.cell? a=some x:=by go_simp
 have hz':w.drew.frozen? a=false:=by go_simp
 have hst:=run_call_store (P:=Tryz.prog) Tryz.func194 (by kernel_rfl) (by kernel_rfl) (by kernel_rfl) (by kernel_rfl) (k:=.u32) (y:=1) hc' hz'
 go_enter_d Tryz.func183,Tryz.ntmps183
 go_wp2
 go_region_calls
 all_goals (go_end0;exact ⟨rfl,rfl⟩)
theorem unlock_deferred (a:Addr)(u:FrameMode)(w:World)(hc:w.cell? a=some (.int .i32 1))(hz:w.frozen? a=false) :
  CallsD Tryz.prog 182 #[.pointer (some a)] u w fun e u' w'=>u'=u∧(e=.returned (.tuple #[])∧w'=w.setCell a (.int .i32 0)):=by
 have hd:=disable
 have he:=enable
 have hr:=releaseMerge
 have hadd:=run_call_add (P:=Tryz.prog) Tryz.func211 (by kernel_rfl) (by kernel_rfl) (by kernel_rfl) .i32 (by kernel_rfl) (y:=-1) (s:=0) hc hz (by simp [go_sem];rfl)
 have hcv:=run_convert_to_unsafe (P:=Tryz.prog) (src:=313) (dst:=317) Tryz.underlying313 Tryz.underlying317 (by kernel_rfl) hc
 go_enter_d Tryz.func182,Tryz.ntmps182
 go_wp2
 go_end0
 go_wp2
 go_end0
 exact ⟨rfl,rfl⟩
theorem lock_free (a:Addr)(w:World)(hc:w.cell? a=some (.int .i32 0))(hz:w.frozen? a=false) :
  Calls Tryz.prog 181 #[.pointer (some a)] w fun e w'=>e=.returned (.tuple #[])∧w'=w.setCell a (.int .i32 1):=by
 have hd:=disable
 have he:=enable
 have ha:=acquire
 have hcas:=run_call_cas_hit (P:=Tryz.prog) Tryz.func206 (by kernel_rfl) (by kernel_rfl) (by kernel_rfl) .i32 (by kernel_rfl) (y:=1) hc hz
 have hc':(w.setCell a (.int .i32 1)).cell? a=some (.int .i32 1):=World.cell?_setCell_same w a _ hc
 have hcv:=run_convert_to_unsafe (P:=Tryz.prog) (src:=313) (dst:=317) Tryz.underlying313 Tryz.underlying317 (by kernel_rfl) hc'
 go_enter Tryz.func181,Tryz.ntmps181
 go_wp2
 first|go_end0|(simp only [Exit.inBlock,Exit.then];refine bodyPost_ret (results_none rfl _ _ _) rfl ?_)|refine bodyPost_ret (results_none rfl _ _ _) rfl ?_
 go_wp2
 go_end0
 exact ⟨rfl,rfl⟩
theorem add_one (a:Addr)(n s:Int)(w:World)(hc:w.cell? a=some (.int .i64 n))(hz:w.frozen? a=false)(hs:IntKind.i64.wrap (n+1)=s) :
  Calls Tryz.prog 131 #[.pointer (some a),.int .i64 1] w fun e w'=>e=.returned (.int .i64 s)∧w'=w.setCell a (.int .i64 s):=by
 have hadd:=run_call_add (P:=Tryz.prog) Tryz.func162 (by kernel_rfl) (by kernel_rfl) (by kernel_rfl) .i64 (by kernel_rfl) (y:=1) (s:=s) hc hz (by simp [go_sem,hs])
 clear hs
 go_enter Tryz.func131,Tryz.ntmps131
 go_wp2
 go_ret
 exact ⟨rfl,rfl⟩
theorem load_bool (a:Addr)(n:Int)(w:World)(hc:w.cell? a=some (.int .u32 n)) :
  Calls Tryz.prog 167 #[.pointer (some a)] w fun e w'=>e=.returned (.bool (n != 0))∧w=w':=by
 have hl:=run_call_load (P:=Tryz.prog) Tryz.func180 (by kernel_rfl) (by kernel_rfl) (by kernel_rfl) .u32 (by kernel_rfl) hc
 go_enter Tryz.func167,Tryz.ntmps167
 go_wp2
 go_ret
 exact ⟨rfl,rfl⟩
end Go.Proofs.YtcnebdjhhfnmoaaGreatDoor
namespace Go.Proofs.YtcnebdjhhfnmoaaGreatDoor
open Go.RowKit Go.Maps
def rows:List (Nat×List UInt8×Nat):=
 [(0,[114,101,97,100],2),(1,[119,114,105,116,101],2),(2,[111,112,101,110],2),(3,[99,108,111,115,101],1),
  (4,[115,116,97,116],1),(8,[115,101,101,107],2),(32,[100,117,112],1),(39,[112,105,100],0),
  (41,[115,111,99,107,101,116],0),(42,[99,111,110,110,101,99,116],2),(49,[98,105,110,100],2),(50,[108,105,115,116,101,110],1),
  (57,[102,111,114,107],0),(60,[101,120,105,116],1),(77,[116,114,117,110,99,97,116,101],2),(78,[114,101,97,100,100,105,114],1),
  (79,[99,119,100],0),(80,[99,104,100,105,114],1),(82,[114,101,110,97,109,101],2),(83,[109,107,100,105,114],1),
  (84,[114,109,100,105,114],1),(86,[108,105,110,107],2),(87,[117,110,108,105,110,107],1),(88,[115,121,109,108,105,110,107],2),
  (89,[114,101,97,100,108,105,110,107],1),(157,[112,114,99,116,108],1),(165,[109,111,117,110,116],2),(166,[117,109,111,117,110,116],1),
  (317,[115,101,99,99,111,109,112],1),(446,[114,101,115,116,114,105,99,116],1)]
def rowCells (r:Nat×List UInt8×Nat):List Value:=[.int .u32 r.1,.string ⟨r.2.1.toArray⟩,.int .i64 r.2.2]
def tableCells:Array Value:=(rows.flatMap rowCells).toArray
theorem calls_any (w:World):Calls Tryz.prog 169 #[] w fun e w'=>
  e=.returned (.slice (some ⟨w.heap.size,0,none⟩) 30 30)∧w'=w.alloc (.cells tableCells 182):=by
 go_enter Tryz.func169,Tryz.ntmps169
 go_wp2
 go_ret
 exact ⟨by kernel_rfl,by kernel_rfl⟩
end Go.Proofs.YtcnebdjhhfnmoaaGreatDoor
namespace Go.Proofs.YtcnebdjhhfnmoaaGreatDoor
open Go.RowKit Go.Maps
def Tab (w:World)(b:Nat)(u l s asked made:Int)(m5 m6:Value):Prop:=
 w.heap[b]?=some (.cells #[.int .u32 u,.int .i32 l,.int .u32 s,.int .i64 asked,.int .i64 made,m5,m6] 114 (0,0))
section
variable {w:World} {b:Nat} {u l s asked made:Int} {m5 m6:Value}
theorem Tab.lt (h:Tab w b u l s asked made m5 m6):b<w.heap.size:=(Array.getElem?_eq_some_iff.1 h).1
theorem Tab.c0 (h:Tab w b u l s asked made m5 m6):w.cell? ⟨b,0,none⟩=some (.int .u32 u):=by simp only [Tab] at h;simp [World.cell?,h]
theorem Tab.c1 (h:Tab w b u l s asked made m5 m6):w.cell? ⟨b,1,none⟩=some (.int .i32 l):=by simp only [Tab] at h;simp [World.cell?,h]
theorem Tab.c3 (h:Tab w b u l s asked made m5 m6):w.cell? ⟨b,3,none⟩=some (.int .i64 asked):=by simp only [Tab] at h;simp [World.cell?,h]
theorem Tab.c4 (h:Tab w b u l s asked made m5 m6):w.cell? ⟨b,4,none⟩=some (.int .i64 made):=by simp only [Tab] at h;simp [World.cell?,h]
theorem Tab.c5 (h:Tab w b u l s asked made m5 m6):w.cell? ⟨b,5,none⟩=some m5:=by simp only [Tab] at h;simp [World.cell?,h]
theorem Tab.c6 (h:Tab w b u l s asked made m5 m6):w.cell? ⟨b,6,none⟩=some m6:=by simp only [Tab] at h;simp [World.cell?,h]
theorem Tab.fz (h:Tab w b u l s asked made m5 m6)(j:Nat):w.frozen? ⟨b,j,none⟩=false:=by simp only [Tab] at h;simp [World.frozen?,h]
theorem Tab.set0 (h:Tab w b u l s asked made m5 m6)(n:Int):Tab (w.setCell ⟨b,0,none⟩ (.int .u32 n)) b n l s asked made m5 m6:=by simp only [Tab] at h ⊢;simp [World.setCell,Array.getElem?_modify,h]
theorem Tab.set1 (h:Tab w b u l s asked made m5 m6)(n:Int):Tab (w.setCell ⟨b,1,none⟩ (.int .i32 n)) b u n s asked made m5 m6:=by simp only [Tab] at h ⊢;simp [World.setCell,Array.getElem?_modify,h]
theorem Tab.set3 (h:Tab w b u l s asked made m5 m6)(n:Int):Tab (w.setCell ⟨b,3,none⟩ (.int .i64 n)) b u l s n made m5 m6:=by simp only [Tab] at h ⊢;simp [World.setCell,Array.getElem?_modify,h]
theorem Tab.set4 (h:Tab w b u l s asked made m5 m6)(n:Int):Tab (w.setCell ⟨b,4,none⟩ (.int .i64 n)) b u l s asked n m5 m6:=by simp only [Tab] at h ⊢;simp [World.setCell,Array.getElem?_modify,h]
theorem Tab.set5 (h:Tab w b u l s asked made m5 m6)(v:Value):Tab (w.setCell ⟨b,5,none⟩ v) b u l s asked made v m6:=by simp only [Tab] at h ⊢;simp [World.setCell,Array.getElem?_modify,h]
theorem Tab.set6 (h:Tab w b u l s asked made m5 m6)(v:Value):Tab (w.setCell ⟨b,6,none⟩ v) b u l s asked made m5 v:=by simp only [Tab] at h ⊢;simp [World.setCell,Array.getElem?_modify,h]
theorem Tab.drew (h:Tab w b u l s asked made m5 m6):Tab w.drew b u l s asked made m5 m6:=h
theorem Tab.alloc (h:Tab w b u l s asked made m5 m6)(o:Obj):Tab (w.alloc o) b u l s asked made m5 m6:=by
 have:=h.lt
 simp only [Tab] at h ⊢;rw [←h];exact Below.heap_alloc _ _ _ this
theorem Tab.kept {w':World}{r:Option Nat}(h:Tab w b u l s asked made m5 m6)(g:w.grownBy w' r)(hr:some b≠r):Tab w' b u l s asked made m5 m6:=by
 have:=h.lt
 simp only [Tab] at h ⊢;rw [←h];exact g.block b this hr
end
theorem grown_refl (w:World)(r:Option Nat):w.grownBy w r:=⟨rfl,rfl,rfl,Nat.le_refl _,fun _ _ _=>rfl⟩
theorem grown_trans {w w1 w2:World}{r r1:Option Nat}(h:w.grownBy w1 r)(g:w1.grownBy w2 r1)(hr:∀k,r1=some k→r=some k∨w.heap.size≤k):w.grownBy w2 r:=
 ⟨g.os.trans h.os,g.tape.trans h.tape,g.output.trans h.output,Nat.le_trans h.size g.size,fun i hi hne=>
  (g.block i (Nat.lt_of_lt_of_le hi h.size) (fun e=>by rcases hr i e.symm with e'|e'
                                                       ·exact hne e'.symm
                                                       ·omega)).trans (h.block i hi hne)⟩
theorem grown_setCell (w:World)(a:Addr)(v:Value):w.grownBy (w.setCell a v) (some a.block):=
 ⟨rfl,rfl,rfl,by simp [World.setCell],fun i _ hne=>Below.heap_setCell _ _ _ _ (fun e=>hne (by rw [e]))⟩
theorem grown_drew (w:World)(r:Option Nat):w.grownBy w.drew r:=⟨rfl,rfl,rfl,Nat.le_refl _,fun _ _ _=>rfl⟩
def callR {H:Type}(v:Value):Option (DataW H×List MemPlace):=match v with
 | .agg c=>(match c.toList with
  | [.int .u32 n,.string s,.int .i64 k]=>some (.agg [.lit (.int .u32 n),.lit (.string s.data.toList),.lit (.int .i64 k)],[])
  | _=>none)
 | _=>none
def rowV (r:Nat×List UInt8×Nat):Value:=.agg #[.int .u32 r.1,.string ⟨r.2.1.toArray⟩,.int .i64 r.2.2]
def rowD (r:Nat×List UInt8×Nat):DataW Unit:=.agg [.lit (.int .u32 r.1),.lit (.string r.2.1),.lit (.int .i64 r.2.2)]
theorem callR_row (r:Nat×List UInt8×Nat):callR (rowV r)=some (rowD r,[]):=by simp [callR,rowV,rowD]
theorem callR_inv {v:Value}{r:Nat×List UInt8×Nat}{ps:List MemPlace}(h:callR v=some (rowD r,ps)):v=rowV r:=by
 unfold callR at h
 split at h
 ·rename_i c
  split at h
  ·rename_i n s k hc
   simp [rowD] at h
   obtain ⟨⟨rfl,h2,rfl⟩,_⟩:=h
   obtain rfl:c=#[.int .u32 r.1,.string s,.int .i64 r.2.2]:=by rw [←hc]
   simp only [rowV,←h2]
  ·cases h
 ·cases h
def nameD (k:Nat):DataW Unit:=(rows.take k).foldl (fun d r=>d.put (.string r.2.1) (rowD r)) (.map [])
def numD (k:Nat):DataW Unit:=(rows.take k).foldl (fun d r=>d.put (.int .u32 r.1) (rowD r)) (.map [])
def rowAt (k:Nat):Nat×List UInt8×Nat:=rows.getD k (0,[],0)
theorem rows_len:rows.length=30:=rfl
theorem take_row (k:Nat)(h:k<30):rows.take (k+1)=rows.take k++[rowAt k]:=by
 have hl:k<rows.length:=by rw [rows_len];exact h
 rw [List.take_succ_eq_append_getElem hl,rowAt,List.getD_eq_getElem?_getD,List.getElem?_eq_getElem hl]
 rfl
theorem nameD_step (k:Nat)(h:k<30):nameD (k+1)=(nameD k).put (.string (rowAt k).2.1) (rowD (rowAt k)):=by
 unfold nameD;rw [take_row k h,List.foldl_append];rfl
theorem numD_step (k:Nat)(h:k<30):numD (k+1)=(numD k).put (.int .u32 (rowAt k).1) (rowD (rowAt k)):=by
 unfold numD;rw [take_row k h,List.foldl_append];rfl
theorem row_small (k:Nat):(rowAt k).1≤446∧(rowAt k).2.1.length≤8∧(rowAt k).2.2≤2:=by
 by_cases h:k<30
 ·have:∀k,k<30→(rowAt k).1≤446∧(rowAt k).2.1.length≤8∧(rowAt k).2.2≤2:=by decide
  exact this k h
 ·have:rowAt k=(0,[],0):=by unfold rowAt;rw [List.getD_eq_getElem?_getD,List.getElem?_eq_none (by rw [rows_len];omega)];rfl
  rw [this];decide
def Src (w:World)(t:Nat):Prop:=w.heap[t]?=some (.cells tableCells 182 (0,0))
theorem flat_at {α:Type}(f:α→List Value)(hf:∀x,(f x).length=3)(l:List α):∀(k j:Nat),j<3→(l.flatMap f)[k*3+j]?=(l[k]?).bind (fun x=>(f x)[j]?):=by
 induction l with
 | nil=>intro k j _;simp
 | cons x l ih=>
  intro k j hj
  rw [List.flatMap_cons]
  cases k with
  | zero=>rw [List.getElem?_append_left (by rw [hf];omega)];simp
  | succ k=>
   rw [List.getElem?_append_right (by rw [hf];omega),hf,show (k+1)*3+j-3=k*3+j from by omega,ih k j hj]
   simp
theorem src_at (k j:Nat)(hk:k<30)(hj:j<3):tableCells[k*3+j]?=(rowCells (rowAt k))[j]?:=by
 have hl:k<rows.length:=by rw [rows_len];exact hk
 have h:=flat_at rowCells (fun _=>rfl) rows k j hj
 unfold tableCells
 rw [List.getElem?_toArray,h,List.getElem?_eq_getElem hl,rowAt,List.getD_eq_getElem?_getD,List.getElem?_eq_getElem hl]
 rfl
theorem src_cells:∀k,k<30→tableCells[k*3]?=some (.int .u32 (rowAt k).1)∧tableCells[k*3+1]?=some (.string ⟨(rowAt k).2.1.toArray⟩)∧tableCells[k*3+2]?=some (.int .i64 (rowAt k).2.2):=by
 intro k hk
 exact ⟨src_at k 0 hk (by omega),src_at k 1 hk (by omega),src_at k 2 hk (by omega)⟩
theorem Src.cell {w:World}{t:Nat}(h:Src w t)(k:Nat)(hk:k<30) :
  w.cell? ⟨t,k*3,none⟩=some (.int .u32 (rowAt k).1)∧w.cell? ⟨t,k*3+1,none⟩=some (.string ⟨(rowAt k).2.1.toArray⟩)∧w.cell? ⟨t,k*3+2,none⟩=some (.int .i64 (rowAt k).2.2):=by
 simp only [Src] at h
 simpa [World.cell?,h] using src_cells k hk
theorem Src.kept {w w':World}{t:Nat}{r:Option Nat}(h:Src w t)(g:w.grownBy w' r)(hr:some t≠r):Src w' t:=by
 have hl:t<w.heap.size:=(Array.getElem?_eq_some_iff.1 h).1
 simp only [Src] at h ⊢;rw [←h];exact g.block t hl hr
end Go.Proofs.YtcnebdjhhfnmoaaGreatDoor
namespace Go.Proofs.YtcnebdjhhfnmoaaGreatDoor
open Go.RowKit Go.Maps Go.WideMaps Go.WideElems Go.ChangeMaps
theorem nameK:Keyed Tryz.prog 9:=string_keyed Tryz.underlying9
theorem numK:Keyed Tryz.prog 22:=int_keyed Tryz.underlying22
structure FillRel (w:World)(b:Nat)(s asked made:Int)(k:Nat)(wr:World):Prop where
 grown:w.grownBy wr (some b)
 room:w.heap.size+3≤wr.heap.size
 tab:Tab wr b 0 1 s asked made (.map (some w.heap.size)) (.map (some (w.heap.size+1)))
 src:Src wr (w.heap.size+1+1)
 names:wr.ownsMap Tryz.prog 9 callR w.heap.size k (nameD k)
 nums:wr.ownsMap Tryz.prog 22 callR (w.heap.size+1) k (numD k)
theorem fill_start (w:World)(b:Nat)(s asked made:Int)(m5 m6:Value)(h:Tab w b 0 1 s asked made m5 m6) :
  FillRel w b s asked made 0 (((((w.setCell ⟨b,5,none⟩ (.map (some w.heap.size))).setCell ⟨b,6,none⟩ (.map (some (w.heap.size+1)))).alloc (.map #[] 0)).alloc (.map #[] 0)).alloc (.cells tableCells 182)):=by
 have hb:=h.lt
 generalize hW:(w.setCell ⟨b,5,none⟩ (.map (some w.heap.size))).setCell ⟨b,6,none⟩ (.map (some (w.heap.size+1)))=W
 have hs:W.heap.size=w.heap.size:=by subst hW;simp [World.setCell]
 have hT:Tab W b 0 1 s asked made (.map (some w.heap.size)) (.map (some (w.heap.size+1))):=by subst hW;exact (h.set5 _).set6 _
 have hg:w.grownBy W (some b):=by
  subst hW
  exact grown_trans (grown_setCell _ _ _) (grown_setCell _ _ _) (fun k hk=>.inl hk)
 refine ⟨?_,by simp [hs],((hT.alloc _).alloc _).alloc _,?_,?_,?_⟩
 ·exact grown_trans (grown_trans (grown_trans hg (World.grownBy_alloc _ _ none) (by simp)) (World.grownBy_alloc _ _ none) (by simp)) (World.grownBy_alloc _ _ none) (by simp)
 ·have hz:((W.alloc (.map #[] 0)).alloc (.map #[] 0)).heap.size=w.heap.size+1+1:=by simp [hs]
  have h1:=(MapKept.heap_alloc ((W.alloc (.map #[] 0)).alloc (.map #[] 0)) (.cells tableCells 182)).1
  rw [hz] at h1
  exact h1
 ·have h1:=World.ownsMap_made (H:=Unit) W Tryz.prog 9 callR
  rw [hs] at h1
  exact (h1.alloc _).alloc _
 ·have h1:=World.ownsMap_made (H:=Unit) (W.alloc (.map #[] 0)) Tryz.prog 22 callR
  rw [show (W.alloc (.map #[] 0)).heap.size=w.heap.size+1 from by simp [hs]] at h1
  exact h1.alloc _
structure MidRel (w:World)(b:Nat)(s asked made:Int)(k k' c:Nat)(wr:World):Prop where
 grown:w.grownBy wr (some b)
 room:w.heap.size+3≤c∧c<wr.heap.size
 tab:Tab wr b 0 1 s asked made (.map (some w.heap.size)) (.map (some (w.heap.size+1)))
 src:Src wr (w.heap.size+1+1)
 mine:wr.heap[c]?=some (.cells #[.int .u32 (rowAt k).1,.string ⟨(rowAt k).2.1.toArray⟩,.int .i64 (rowAt k).2.2] 182 (0,0))
 names:wr.ownsMap Tryz.prog 9 callR w.heap.size k' (nameD k')
 nums:wr.ownsMap Tryz.prog 22 callR (w.heap.size+1) k (numD k)
theorem mid_start {w:World}{b:Nat}{s asked made:Int}{k:Nat}{wr:World}(h:FillRel w b s asked made k wr) :
  MidRel w b s asked made k k wr.heap.size (wr.alloc (.cells #[.int .u32 (rowAt k).1,.string ⟨(rowAt k).2.1.toArray⟩,.int .i64 (rowAt k).2.2] 182)).drew:=by
 have g:=World.grownBy_alloc wr (.cells #[.int .u32 (rowAt k).1,.string ⟨(rowAt k).2.1.toArray⟩,.int .i64 (rowAt k).2.2] 182) none
 have hr:=h.room
 have hs:=h.src.kept g (by simp)
 refine ⟨grown_trans (grown_trans h.grown g (by simp)) (grown_drew _ none) (by simp),⟨h.room,by simp [World.drew]⟩,h.tab.alloc _,hs,?_,(h.names.alloc _).drew,(h.nums.alloc _).drew⟩
 exact (MapKept.heap_alloc wr _).1
theorem mid_cells {w:World}{b:Nat}{s asked made:Int}{k k' c:Nat}{wr:World}(h:MidRel w b s asked made k k' c wr) :
  wr.cell? ⟨c,0,none⟩=some (.int .u32 (rowAt k).1)∧wr.cell? ⟨c,1,none⟩=some (.string ⟨(rowAt k).2.1.toArray⟩)∧wr.cell? ⟨c,2,none⟩=some (.int .i64 (rowAt k).2.2):=by
 have:=h.mine
 exact ⟨by simp [World.cell?,this],by simp [World.cell?,this],by simp [World.cell?,this]⟩
theorem mid_named {w:World}{b:Nat}{s asked made:Int}{k c:Nat}{wr w1:World}(hb:b<w.heap.size)(hk:k<30)(h:MidRel w b s asked made k k c wr)
  (ho:w1.ownsMap Tryz.prog 9 callR w.heap.size (k+1) ((nameD k).put (.string (rowAt k).2.1) (rowD (rowAt k)))) (g:wr.grownBy w1 (some w.heap.size)) :
  MidRel w b s asked made k (k+1) c w1.drew:=by
 have hr:=h.room
 have hm:=h.mine
 have hs:=h.src.kept g (by simp;omega)
 have g2:w.grownBy w1 (some b):=grown_trans h.grown g (fun k hk=>by cases hk;exact .inr (Nat.le_refl _))
 refine ⟨grown_trans g2 (grown_drew _ none) (by simp),⟨hr.1,Nat.lt_of_lt_of_le hr.2 g.size⟩,(h.tab.kept g (by simp;omega)).drew,hs,?_,?_,(h.nums.kept g (by simp)).drew⟩
 ·rw [←hm];exact g.block c hr.2 (by simp;omega)
 ·rw [nameD_step k hk];exact ho.drew
theorem mid_end {w:World}{b:Nat}{s asked made:Int}{k c:Nat}{wr w1:World}(hb:b<w.heap.size)(hk:k<30)(h:MidRel w b s asked made k (k+1) c wr)
  (ho:w1.ownsMap Tryz.prog 22 callR (w.heap.size+1) (k+1) ((numD k).put (.int .u32 (rowAt k).1) (rowD (rowAt k)))) (g:wr.grownBy w1 (some (w.heap.size+1))) :
  FillRel w b s asked made (k+1) w1:=by
 have hr:=h.room
 have g2:w.grownBy w1 (some b):=grown_trans h.grown g (fun k hk=>by cases hk;exact .inr (by omega))
 refine ⟨g2,by have:=g.size;omega,h.tab.kept g (by simp;omega),h.src.kept g (by simp),h.names.kept g (by simp),?_⟩
 rw [numD_step k hk];exact ho
theorem name_key (k:Nat):keyOf Tryz.prog 9 (.string ⟨(rowAt k).2.1.toArray⟩)=some (.string (rowAt k).2.1):=
 keyOf_string_mk Tryz.underlying9 (by
  have:=(row_small k).2.1
  show ((rowAt k).2.1.toArray).size≤maxLen
  unfold maxLen;simp;omega)
theorem num_key (k:Nat):keyOf Tryz.prog 22 (.int .u32 (rowAt k).1)=some (.int .u32 (rowAt k).1):=
 keyOf_int_mk Tryz.underlying22 (by
  have:=(row_small k).1
  exact WalkArith.wf_u32 (by omega))
theorem fill_any (b:Nat)(s asked made:Int)(m5 m6:Value)(w:World)(hT:Tab w b 0 1 s asked made m5 m6)(hmade:IntKind.i64.wrap (made+1)=made+1) :
  Calls Tryz.prog 150 #[.pointer (some ⟨b,0,none⟩)] w fun e w'=>e=.returned (.tuple #[])∧∃w1,FillRel w b s asked made 30 w1∧w'=w1.setCell ⟨b,4,none⟩ (.int .i64 (made+1)):=by
 have hmm:=@run_makeMap Tryz.prog
 have hst:=qd (fill_start w b s asked made m5 m6 hT)
 have c5:=hT.c5
 have c6:=hT.c6
 have f5:=hT.fz 5
 have f6:=hT.fz 6
 have hb:=hT.lt
 have hne:¬b=w.heap.size:=by omega
 clear hT
 have Hm:=qd hmade
 clear hmade
 go_enter Tryz.func150,Tryz.ntmps150
 go_wp2_with (go_at_call 169;refine (calls_any _).mono ?_;rintro e w' ⟨rfl,rfl⟩)
 go_loopw [14] (fun i wr=>∃k:Nat,k≤30∧i=.int .i64 k∧FillRel w b s asked made k wr) (fun i _=>30-(intOf i).toNat)
 case atStart=>exact ⟨0,by omega,rfl,hst.out⟩
 case round=>
  obtain ⟨k,hk,rfl,hr⟩:=hrel
  have Hr:=qd hr
  have d4:=hr.tab.c4
  have d5:=hr.tab.c5
  have d6:=hr.tab.c6
  have g4:=hr.tab.fz 4
  have hbr:=hr.tab.lt
  by_cases hlt:k<30
  ·obtain ⟨s0,s1,s2⟩:=hr.src.cell k hlt
   have hmid:=qd (mid_start hr)
   clear hr d4 g4
   go_wp2
   refine wp_region_still_tail 7 (by kernel_rfl) (by kernel_rfl) ?_
   simp only [List.take_succ_cons,List.take_zero,List.drop_succ_cons,List.drop_zero]
   change wpStill _ _ (World.drew (wr.alloc _)) (fun a'=>wpList _ _ _ _ a' (World.drew (wr.alloc _))) _ _
   repeat still_step
   refine wpStill_nil ?_
   refine wpList_mapUpdate_own _ rfl _ _ _ 111 rfl 9 182 nameK Tryz.underlying111 callR w.heap.size k (nameD k) rfl hmid.out.names (by unfold maxLen;omega) _ _ (.string (rowAt k).2.1) rfl rfl (name_key k) (rowD (rowAt k)) [] (callR_row _) ?_
   intro w1 hown1 hgrow1
   have hmid2:=qd (mid_named hb hlt hmid.out hown1 hgrow1)
   generalize hc:wr.heap.size=c at hmid2 ⊢
   have e6:w1.drew.cell? ⟨b,6,none⟩=_:=hmid2.out.tab.c6
   obtain ⟨t0,t1,t2⟩:=mid_cells hmid2.out
   have hb1:=hmid2.out.tab.lt
   clear hmid hown1 hgrow1 s0 s1 s2 d5 d6 hbr hc
   go_wp2
   refine wp_region_still_tail 7 (by kernel_rfl) (by kernel_rfl) ?_
   simp only [List.take_succ_cons,List.take_zero,List.drop_succ_cons,List.drop_zero]
   change wpStill _ _ (World.drew _) (fun a'=>wpList _ _ _ _ a' (World.drew _)) _ _
   repeat still_step
   refine wpStill_nil ?_
   refine wpList_mapUpdate_own _ rfl _ _ _ 112 rfl 22 182 numK Tryz.underlying112 callR (w.heap.size+1) k (numD k) rfl hmid2.out.nums (by unfold maxLen;omega) _ _ (.int .u32 (rowAt k).1) rfl rfl (num_key k) (rowD (rowAt k)) [] (callR_row _) ?_
   intro w2 hown2 hgrow2
   have hend:=qd (mid_end hb hlt hmid2.out hown2 hgrow2)
   clear hmid2 hown2 hgrow2 e6 t0 t1 t2 hb1
   go_wp2
   go_roundw
   case rel=>exact ⟨k+1,by omega,by go_num,hend.out⟩
   case measure=>simp [intOf];omega
  ·clear hr
   have ha:=qd hlt
   go_wp2_with (go_at_call 131;refine (add_one _ _ _ _ d4 g4 Hm.out).mono ?_;rintro e w1 ⟨rfl,rfl⟩)
   go_end0
   obtain rfl:k=30:=by have:=ha.out;omega
   exact ⟨rfl,_,Hr.out,rfl⟩
end Go.Proofs.YtcnebdjhhfnmoaaGreatDoor
namespace Go.Proofs.YtcnebdjhhfnmoaaGreatDoor
open Go.RowKit Go.Maps
def Made (w:World)(b:Nat)(asked:Int):Prop:=
 ∃m n,m≠b∧n≠b∧Tab w b 1 0 0 asked 1 (.map (some m)) (.map (some n)) ∧
  w.ownsMap Tryz.prog 9 callR m 30 (nameD 30)∧w.ownsMap Tryz.prog 22 callR n 30 (numD 30)
def TState (w:World)(b:Nat)(asked:Int):Prop:=(asked=0∧Tab w b 0 0 0 0 0 (.map none) (.map none))∨Made w b asked
theorem Made.lt {w:World}{b:Nat}{asked:Int}(h:Made w b asked):b<w.heap.size:=by
 obtain ⟨_,_,_,_,h,_⟩:=h;exact h.lt
theorem Made.set3 {w:World}{b:Nat}{asked:Int}(h:Made w b asked)(n:Int):Made (w.setCell ⟨b,3,none⟩ (.int .i64 n)) b n:=by
 obtain ⟨m,k,hm,hk,hT,h1,h2⟩:=h
 exact ⟨m,k,hm,hk,hT.set3 n,h1.kept (grown_setCell _ _ _) (by simpa using hm),h2.kept (grown_setCell _ _ _) (by simpa using hk)⟩
theorem Made.kept {w w':World}{b:Nat}{asked:Int}{r:Option Nat}(h:Made w b asked)(g:w.grownBy w' r)(hr:r=none):Made w' b asked:=by
 subst hr
 obtain ⟨m,k,hm,hk,hT,h1,h2⟩:=h
 exact ⟨m,k,hm,hk,hT.kept g (by simp),h1.kept g (by simp),h2.kept g (by simp)⟩
theorem made_of_fill {w w1:World}{b:Nat}{asked:Int}(hb:b<w.heap.size)(h:FillRel w b 0 asked 0 30 w1) :
  Made ((((w1.setCell ⟨b,4,none⟩ (.int .i64 (0+1))).drew).setCell ⟨b,0,none⟩ (.int .u32 1)).setCell ⟨b,1,none⟩ (.int .i32 0)) b asked ∧
  w.grownBy ((((w1.setCell ⟨b,4,none⟩ (.int .i64 (0+1))).drew).setCell ⟨b,0,none⟩ (.int .u32 1)).setCell ⟨b,1,none⟩ (.int .i32 0)) (some b):=by
 have g:w1.grownBy ((((w1.setCell ⟨b,4,none⟩ (.int .i64 (0+1))).drew).setCell ⟨b,0,none⟩ (.int .u32 1)).setCell ⟨b,1,none⟩ (.int .i32 0)) (some b):=
  grown_trans (grown_trans (grown_trans (grown_setCell _ _ _) (grown_drew _ none) (by simp)) (grown_setCell _ _ _) (fun k hk=>.inl hk)) (grown_setCell _ _ _) (fun k hk=>.inl hk)
 refine ⟨⟨w.heap.size,w.heap.size+1,by omega,by omega,?_,h.names.kept g (by simp;omega),h.nums.kept g (by simp;omega)⟩,grown_trans h.grown g (fun k hk=>.inl hk)⟩
 exact (((h.tab.set4 (0+1)).drew.set0 1).set1 0)
theorem slow_any (b:Nat)(asked:Int)(w:World)(hT:Tab w b 0 0 0 asked 0 (.map none) (.map none)) :
  Calls Tryz.prog 168 #[.pointer (some ⟨b,0,none⟩),.func (.func 150) #[.pointer (some ⟨b,0,none⟩)] #[]] w fun e w'=>e=.returned (.tuple #[]) ∧
   Made w' b asked∧w.grownBy w' (some b):=by
 have hT1:=hT.set1 1
 have hb:=hT.lt
 have hs:(w.setCell ⟨b,1,none⟩ (.int .i32 1)).heap.size=w.heap.size:=by simp [World.setCell]
 have hg0:=qd (grown_setCell w ⟨b,1,none⟩ (.int .i32 1))
 have hl:=load_bool ⟨b,0,none⟩ 0 (w.setCell ⟨b,1,none⟩ (.int .i32 1)) hT1.c0
 have hnot:∀(x:Bool) (w:World),(Op.unary .not (.bool x)).run Tryz.prog w=.ok (.bool (!x)) w:=fun _ _=>rfl
 go_enter_defers Tryz.func168,Tryz.ntmps168
 go_wp2_with (first|(go_at_call 181;refine (lock_free ⟨b,1,none⟩ _ hT.c1 (hT.fz 1)).mono ?_;rintro e w' ⟨rfl,rfl⟩)|(go_at_call 167;refine hl.mono ?_;rintro e w' ⟨rfl,rfl⟩))
 have hf:=fill_any b 0 asked 0 _ _ _ hT1 (by decide)
 have hb1:=qd (show b<(w.setCell ⟨b,1,none⟩ (.int .i32 1)).heap.size by rw [hs];exact hb)
 clear hl hs hT hT1
 refine hf.mono ?_
 clear hf
 rintro e w' ⟨rfl,w1,hr,rfl⟩
 have hT2:=hr.tab.set4 (0+1)
 have hm:=qd (made_of_fill hb1.out hr)
 clear hr
 go_wp2
 -- the door: two deferred calls,the last laid first
 refine leaves_cons (f:=183) (args:=#[.pointer (some ⟨b,0,none⟩),.bool true]) (by simp) (by simp [go_sem]) ?_
 refine (store_deferred ⟨b,0,none⟩ (.int .u32 0) .returning _ hT2.c0 (hT2.fz 0)).mono ?_
 rintro e u' w'' ⟨rfl,rfl,rfl⟩
 refine leaves_cons (f:=182) (args:=#[.pointer (some ⟨b,1,none⟩)]) (by simp [settle]) (by simp [go_sem]) ?_
 refine (unlock_deferred ⟨b,1,none⟩ _ _ (hT2.drew.set0 1).c1 ((hT2.drew.set0 1).fz 1)).mono ?_
 rintro e u' w'' ⟨rfl,rfl,rfl⟩
 have h1:=hm.out.1
 have h2:=grown_trans hg0.out hm.out.2 (fun k hk=>.inl hk)
 simp [Leaves,settle,results,Tryz.results168]
 exact ⟨h1,h2⟩
theorem do_first (b:Nat)(asked:Int)(w:World)(hT:Tab w b 0 0 0 asked 0 (.map none) (.map none)) :
  Calls Tryz.prog 149 #[.pointer (some ⟨b,0,none⟩),.func (.func 150) #[.pointer (some ⟨b,0,none⟩)] #[]] w fun e w'=>e=.returned (.tuple #[])∧Made w' b asked∧w.grownBy w' (some b):=by
 have hnot:∀(x:Bool) (w:World),(Op.unary .not (.bool x)).run Tryz.prog w=.ok (.bool (!x)) w:=fun _ _=>rfl
 go_enter Tryz.func149,Tryz.ntmps149
 go_wp2_with (first|(go_at_call 167;refine (load_bool _ 0 _ hT.c0).mono ?_;rintro e w' ⟨rfl,rfl⟩)|(go_at_call 168;refine (slow_any b asked _ hT).mono ?_;rintro e w' ⟨rfl,h1,h2⟩))
 go_end0
 exact ⟨rfl,h1,h2⟩
theorem do_done (a:Addr)(fv:Value)(w:World)(h0:w.cell? a=some (.int .u32 1)) :
  Calls Tryz.prog 149 #[.pointer (some a),fv] w fun e w'=>e=.returned (.tuple #[])∧w=w':=by
 have hnot:∀(x:Bool) (w:World),(Op.unary .not (.bool x)).run Tryz.prog w=.ok (.bool (!x)) w:=fun _ _=>rfl
 go_enter Tryz.func149,Tryz.ntmps149
 go_wp2_with (go_at_call 167;refine (load_bool _ 1 _ h0).mono ?_;rintro e w' ⟨rfl,rfl⟩)
 go_end0
 exact ⟨rfl,rfl⟩
theorem do_any (b:Nat)(asked:Int)(w:World)(h:TState w b asked) :
  Calls Tryz.prog 149 #[.pointer (some ⟨b,0,none⟩),.func (.func 150) #[.pointer (some ⟨b,0,none⟩)] #[]] w fun e w'=>e=.returned (.tuple #[])∧Made w' b asked∧w.grownBy w' (some b):=by
 rcases h with ⟨rfl,h⟩|h
 ·exact do_first b 0 w h
 ·obtain ⟨_,_,_,_,hT,_⟩:=h.imp fun m h=>h.imp fun n h=>h
  exact (do_done ⟨b,0,none⟩ _ w hT.c0).mono fun e w' ⟨he,hw⟩=>⟨he,hw▸h,hw▸grown_refl _ _⟩
theorem ask_any (b:Nat)(asked:Int)(w:World)(h:TState w b asked)(h0:0≤asked)(h1:asked<4611686018427387904) :
  Calls Tryz.prog 114 #[.pointer (some ⟨b,0,none⟩)] w fun e w'=>e=.returned (.tuple #[])∧Made w' b (asked+1)∧w.grownBy w' (some b):=by
 have hmf:∀(fn:Fn) (first cap:Array Value) (w:World),(Instr.makeFunc fn first cap).run Tryz.prog w=.ok (.func fn first cap) w:=fun _ _ _ _=>rfl
 have hw:IntKind.i64.wrap (asked+1)=asked+1:=IntWalk.i64_in _ (by omega)
 have Hw:=qd hw
 clear hw
 go_enter Tryz.func114,Tryz.ntmps114
 go_wp2_with (go_at_call 149;refine (do_any b asked _ h).mono ?_;rintro e w1 ⟨rfl,hm,hg⟩)
 have c3:w1.cell? ⟨b,3,none⟩=some (.int .i64 asked):=by obtain ⟨_,_,_,_,hT,_⟩:=hm;exact hT.c3
 have f3:w1.frozen? ⟨b,3,none⟩=false:=by obtain ⟨_,_,_,_,hT,_⟩:=hm;exact hT.fz 3
 go_wp2_with (go_at_call 131;refine (add_one _ _ _ _ c3 f3 Hw.out).mono ?_;rintro e w2 ⟨rfl,rfl⟩)
 go_end0
 exact ⟨rfl,hm.set3 _,grown_trans hg (grown_setCell _ _ _) (fun k hk=>.inl hk)⟩
end Go.Proofs.YtcnebdjhhfnmoaaGreatDoor
namespace Go.Proofs.YtcnebdjhhfnmoaaGreatDoor
open Go.RowKit Go.Maps Go.WideMaps Go.WideElems Go.ChangeMaps
abbrev Row:=Nat×List UInt8×Nat
def fold (key:Row→Lit)(l:List Row):DataW Unit:=l.foldl (fun d r=>d.put (key r) (rowD r)) (.map [])
theorem fold_isMap (key:Row→Lit)(l:List Row):∀D:DataW Unit,IsMap D→IsMap (l.foldl (fun d r=>d.put (key r) (rowD r)) D):=by
 induction l with
 | nil=>intro D h;exact h
 | cons r l ih=>intro D h;exact ih _ (h.put _ _)
theorem fold_at (key:Row→Lit)(hk:∀r,WideAt.IsKeyLit (key r))(k:Lit)(p:Row→Bool)(hp:∀r,p r=true↔key r=k)(z:DataW Unit)(l:List Row) :
  (fold key l.reverse).atKey k z=(match l.find? p with|some r=>rowD r|none=>z) ∧
  Maps.has (fold key l.reverse) k=(l.find? p).isSome:=by
 induction l with
 | nil=>exact ⟨rfl,rfl⟩
 | cons r l ih=>
  have e:fold key (r::l).reverse=(fold key l.reverse).put (key r) (rowD r):=by
   unfold fold;rw [List.reverse_cons,List.foldl_append];rfl
  have hm:IsMap (fold key l.reverse):=fold_isMap key _ _ ⟨[],rfl⟩
  rw [e,List.find?_cons]
  by_cases h:key r=k
  ·have h2:=(hp r).2 h
   subst h
   rw [atKey_put_same hm (hk r),has_put_same hm (hk r),h2]
   simp
  ·have h2:p r=false:=by cases h3:p r;rfl;exact absurd ((hp r).1 h3) h
   rw [atKey_put_other (fun e=>h e.symm),has_put_other (fun e=>h e.symm),ih.1,ih.2,h2]
   simp
theorem find_rev {α:Type}(p:α→Bool)(l:List α)(h:l.Pairwise (fun a b=>p a=true→p b=false)):l.reverse.find? p=l.find? p:=by
 induction l with
 | nil=>rfl
 | cons a l ih=>
  rw [List.reverse_cons,List.find?_append,List.find?_cons,ih (List.pairwise_cons.1 h).2]
  cases hp:p a
  ·simp [hp]
  ·have:l.find? p=none:=by
    rw [List.find?_eq_none]
    intro x hx
    simp [(List.pairwise_cons.1 h).1 x hx hp]
   simp [this,hp]
def byNum (n:Int):Option Row:=rows.find? (fun r=>decide ((r.1:Int)=n))
def zeroRow:Row:=(0,[],0)
theorem nums_apart:rows.Pairwise (fun a b=>a.1≠b.1):=by decide
theorem num_at (n:Int):(numD 30).atKey (.int .u32 n) (rowD zeroRow)=rowD ((byNum n).getD zeroRow)∧Maps.has (numD 30) (.int .u32 n)=(byNum n).isSome:=by
 have h:=fold_at (fun r=>.int .u32 r.1) (fun r=>trivial) (.int .u32 n) (fun r=>decide ((r.1:Int)=n)) (fun r=>by simp) (rowD zeroRow) rows.reverse
 have e:numD 30=fold (fun r=>.int .u32 r.1) rows.reverse.reverse:=by rw [List.reverse_reverse];rfl
 have e2:rows.reverse.find? (fun r=>decide ((r.1:Int)=n))=byNum n:=
  by exact find_rev _ _ (nums_apart.imp fun hab ha=>by simp only [decide_eq_true_eq,decide_eq_false_iff_not] at *;omega)
 rw [e,h.1,h.2,e2]
 exact ⟨by cases byNum n<;>rfl,rfl⟩
end Go.Proofs.YtcnebdjhhfnmoaaGreatDoor
namespace Go.Proofs.YtcnebdjhhfnmoaaGreatDoor
open Go.RowKit Go.Maps Go.WideMaps Go.WideElems Go.ChangeMaps
theorem zeroCall (w:World):(zeroValue 182).run Tryz.prog w=.ok (rowV zeroRow) w:=by kernel_rfl
theorem TState.alloc {w:World}{b:Nat}{asked:Int}(h:TState w b asked)(o:Obj):TState (w.alloc o) b asked:=by
 rcases h with ⟨h0,h⟩|h
 ·exact .inl ⟨h0,h.alloc o⟩
 ·exact .inr (h.kept (World.grownBy_alloc w o none) rfl)
theorem TState.lt {w:World}{b:Nat}{asked:Int}(h:TState w b asked):b<w.heap.size:=by
 rcases h with ⟨_,h⟩|h<;>exact h.lt
theorem Made.setOther {w:World}{b c:Nat}{asked:Int}(h:Made w b asked)(hc:c≠b){cs:Array Value}{t:TypeId}{fz:Nat×Nat}(hr:w.heap[c]?=some (.cells cs t fz))(a:Addr)(ha:a.block=c)(v:Value):Made (w.setCell a v) b asked:=by
 obtain ⟨m,n,hm,hn,hT,h1,h2⟩:=h
 have g:=grown_setCell w a v
 rw [ha] at g
 have e1:m≠c:=by
  rintro rfl
  obtain ⟨_,_,hb,_⟩:=h1
  rw [hr] at hb;cases hb
 have e2:n≠c:=by
  rintro rfl
  obtain ⟨_,_,hb,_⟩:=h2
  rw [hr] at hb;cases hb
 exact ⟨m,n,hm,hn,hT.kept g (by simp;omega),h1.kept g (by simp;omega),h2.kept g (by simp;omega)⟩
theorem cells_setCell {w:World}{c:Nat}{cs:Array Value}{t:TypeId}{fz:Nat×Nat}(hr:w.heap[c]?=some (.cells cs t fz))(j:Nat)(v:Value) :
  (w.setCell ⟨c,j,none⟩ v).heap[c]?=some (.cells (cs.setIfInBounds j v) t fz):=by
 simp [World.setCell,Array.getElem?_modify,hr]
theorem made_filled {w w1:World}{b:Nat}{asked:Int}{cs:Array Value}{t:TypeId}{fz:Nat×Nat}(hb:b<w.heap.size)(h:Made w1 b asked)(g:w.grownBy w1 (some b))
  (hr:w1.heap[w.heap.size]?=some (.cells cs t fz)) (x y z:Value) (o:Obj) :
  Made ((((w1.setCell ⟨w.heap.size,0,none⟩ x).setCell ⟨w.heap.size,1,none⟩ y).setCell ⟨w.heap.size,2,none⟩ z).alloc o) b asked ∧
  w.grownBy ((((w1.setCell ⟨w.heap.size,0,none⟩ x).setCell ⟨w.heap.size,1,none⟩ y).setCell ⟨w.heap.size,2,none⟩ z).alloc o) (some b):=by
 have hne:w.heap.size≠b:=by omega
 have hr1:=cells_setCell hr 0 x
 have hr2:=cells_setCell hr1 1 y
 refine ⟨(((h.setOther hne hr _ rfl x).setOther hne hr1 _ rfl y).setOther hne hr2 _ rfl z).kept (World.grownBy_alloc _ _ none) rfl,?_⟩
 have k:∀k,(some w.heap.size:Option Nat)=some k→(some b:Option Nat)=some k∨w.heap.size≤k:=fun k hk=>by cases hk;exact .inr (Nat.le_refl _)
 exact grown_trans (grown_trans (grown_trans (grown_trans g (grown_setCell _ _ x) k) (grown_setCell _ _ y) k) (grown_setCell _ _ z) k) (World.grownBy_alloc _ _ none) (by simp)
theorem numbered_any (b:Nat)(asked:Int)(x:Int)(w:World)(h:TState w b asked)(h0:0≤asked)(h1:asked<4611686018427387904)(hs:(Lit.int .u32 x).wf=true) :
  Calls Tryz.prog 70 #[.pointer (some ⟨b,0,none⟩),.int .u32 x] w fun e w'=>
   e=.returned (.tuple #[rowV ((byNum x).getD zeroRow),.bool (byNum x).isSome])∧Made w' b (asked+1)∧w.grownBy w' (some b):=by
 have hask:=qd (ask_any b asked _ (h.alloc (.cells #[.int .u32 0,.string ByteArray.empty,.int .i64 0] 182)) h0 h1)
 have hb:=h.lt
 clear h h0 h1
 go_enter Tryz.func70,Tryz.ntmps70
 go_wp2_with fail
 refine hask.out.mono ?_
 rintro e w1 ⟨rfl,hm,hg⟩
 have Hm:=qd hm
 have hblk:w1.heap[w.heap.size]?=some (.cells #[.int .u32 0,.string ByteArray.empty,.int .i64 0] 182 (0,0)):=by
  rw [hg.block w.heap.size (by simp) (by simp;have:=hb;omega)];exact (MapKept.heap_alloc w _).1
 have Hg:=qd (show w.grownBy w1 (some b) from grown_trans (r:=some b) (World.grownBy_alloc w _ _) hg (fun k hk=>.inl hk))
 clear hask hg
 have hsz:w.heap.size<w1.heap.size:=(Array.getElem?_eq_some_iff.1 hblk).1
 have q0:w1.cell? ⟨w.heap.size,0,none⟩=some (.int .u32 0):=by simp [World.cell?,hblk]
 have q1:w1.cell? ⟨w.heap.size,1,none⟩=some (.string ByteArray.empty):=by simp [World.cell?,hblk]
 have q2:w1.cell? ⟨w.heap.size,2,none⟩=some (.int .i64 0):=by simp [World.cell?,hblk]
 have z0:w1.frozen? ⟨w.heap.size,0,none⟩=false:=by simp [World.frozen?,hblk]
 have z1:w1.frozen? ⟨w.heap.size,1,none⟩=false:=by simp [World.frozen?,hblk]
 have z2:w1.frozen? ⟨w.heap.size,2,none⟩=false:=by simp [World.frozen?,hblk]
 have Hblk:=qd hblk
 clear hblk
 obtain ⟨m,n,hmb,hnb,hT,ho,ho2⟩:=hm
 have c5:=hT.c6
 have hb1:=hT.lt
 clear hT ho hmb hnb m
 go_wp2_with (at_lookup;refine wpList_lookup_own_ok _ rfl _ _ 112 rfl 22 182 numK Tryz.underlying112 callR (zeroCall _) (rowD zeroRow) [] (callR_row _) n 30 (numD 30) rfl ho2 _ (.int .u32 x) rfl (keyOf_int_mk Tryz.underlying22 hs) ?_)
 intro v ps hv
 rw [(num_at x).1] at hv
 obtain rfl:=callR_inv hv
 rw [(num_at x).2]
 obtain ⟨r,hr⟩:∃r,r=(byNum x).getD zeroRow:=⟨_,rfl⟩
 obtain ⟨is,his⟩:∃is,is=(byNum x).isSome:=⟨_,rfl⟩
 rw [←hr,←his]
 have Hr:=qd hr
 have Hi:=qd his
 clear hv ho2 c5 hr his
 unfold rowV
 go_wp2_with fail
 have hend:=made_filled hb Hm.out Hg.out Hblk.out (.int .u32 r.1) (.string ⟨r.2.1.toArray⟩) (.int .i64 r.2.2) (.cells #[.int .u32 r.1,.string ⟨r.2.1.toArray⟩,.int .i64 r.2.2] 182)
 refine bodyPost_ret (v:=.tuple #[.agg #[.int .u32 r.1,.string ⟨r.2.1.toArray⟩,.int .i64 r.2.2],.bool is]) (by simp [results,Tryz.results70,go_sem,q0,q1,q2,hsz]) rfl ⟨?_,hend⟩
 rw [←Hr.out,←Hi.out]
 rfl
theorem new_any (w:World):Calls Tryz.prog 9 #[] w fun e w'=>e=.returned (.pointer (some ⟨w.heap.size,0,none⟩))∧TState w' w.heap.size 0∧∃o,w'=w.alloc o:=by
 go_enter Tryz.func9,Tryz.ntmps9
 go_wp2
 go_ret
 exact ⟨rfl,.inl ⟨rfl,(MapKept.heap_alloc w _).1⟩,_,rfl⟩
end Go.Proofs.YtcnebdjhhfnmoaaGreatDoor
namespace Go.Proofs.YtcnebdjhhfnmoaaGreatDoor
open Go.RowKit
def letterP (c:Nat):Prop:=97≤c∧c≤122
def behindP (c:Nat):Prop:=(48≤c∧c≤57)∨c=45∨c=95
def goodP (i c:Nat):Prop:=letterP c∨(i≠0∧behindP c)
def wordP (s:ByteArray):Prop:=1≤s.size∧s.size≤14∧∀i (h:i<s.size),goodP i (s[i]'h).toNat
theorem letter_yes (c:Int)(w:World)(h:97≤c)(h2:c≤122):Calls Tryz.prog 67 #[.int .i32 c] w fun e w'=>e=.returned (.bool true)∧w=w':=by
 go_enter Tryz.func67,Tryz.ntmps67
 go_wp2
 go_ret
 exact ⟨rfl,rfl⟩
theorem letter_no (c:Int)(w:World)(h:c<97∨122<c):Calls Tryz.prog 67 #[.int .i32 c] w fun e w'=>e=.returned (.bool false)∧w=w':=by
 by_cases h1:c<97
 ·have:¬97≤c:=by omega
  go_enter Tryz.func67,Tryz.ntmps67
  go_wp2
  go_ret
  exact ⟨rfl,rfl⟩
 ·have h2:97≤c:=by omega
  have h3:¬c≤122:=by omega
  clear h
  go_enter Tryz.func67,Tryz.ntmps67
  go_wp2
  go_ret
  exact ⟨rfl,rfl⟩
theorem behind_yes (c:Nat)(w:World)(h:behindP c):Calls Tryz.prog 68 #[.int .i32 c] w fun e w'=>e=.returned (.bool true)∧w=w':=by
 rcases h with ⟨h1,h2⟩|rfl|rfl
 ·have h1':(48:Int)≤(c:Int):=by omega
  have h2':(c:Int)≤57:=by omega
  go_enter Tryz.func68,Tryz.ntmps68
  go_wp2
  go_ret
  exact ⟨rfl,rfl⟩
 ·go_enter Tryz.func68,Tryz.ntmps68
  go_wp2
  go_ret
  exact ⟨rfl,rfl⟩
 ·go_enter Tryz.func68,Tryz.ntmps68
  go_wp2
  go_ret
  exact ⟨rfl,rfl⟩
theorem behind_no (c:Nat)(w:World)(h:¬behindP c):Calls Tryz.prog 68 #[.int .i32 c] w fun e w'=>e=.returned (.bool false)∧w=w':=by
 unfold behindP at h
 have h45:((c:Int)==45)=false:=by simp;omega
 have h95:((c:Int)==95)=false:=by simp;omega
 by_cases h1:c<48
 ·have:¬(48:Int)≤(c:Int):=by omega
  clear h
  go_enter Tryz.func68,Tryz.ntmps68
  go_wp2
  go_ret
  exact ⟨rfl,rfl⟩
 ·have h2:(48:Int)≤(c:Int):=by omega
  have h3:¬(c:Int)≤57:=by omega
  clear h h1
  go_enter Tryz.func68,Tryz.ntmps68
  go_wp2
  go_ret
  exact ⟨rfl,rfl⟩
def SaysWord (s:ByteArray)(w:World)(e:Ending)(w':World):Prop:=(∃b:Bool,e=.returned (.bool b)∧(b=true↔wordP s))∧Below w.heap.size w w'
theorem word_any (s:ByteArray)(w:World)(hm:s.size≤maxLen):Calls Tryz.prog 35 #[.string s] w (SaysWord s w):=by
 unfold maxLen at hm
 by_cases h0:s.size=0
 ·obtain rfl:s=ByteArray.empty:=ByteArray.size_eq_zero_iff.1 h0
  have Hf:=qd (show SaysWord ByteArray.empty w (.returned (.bool false)) w from ⟨⟨false,rfl,by simp [wordP]⟩,Below.refl _ _⟩)
  go_enter Tryz.func35,Tryz.ntmps35
  go_wp2
  go_ret
  exact Hf.out
 ·have hE:s.toList.isEmpty=false:=by
   rw [ByteArray.toList_eq]
   cases h:s.data.toList with
   | nil=>exact absurd (show s.size=0 from congrArg List.length h) h0
   | cons a l=>rfl
  have hE2:¬s.toList=[]:=by intro h;rw [h] at hE;simp at hE
  by_cases h14:14<s.size
  ·have Hf:=qd (show SaysWord s w (.returned (.bool false)) w from ⟨⟨false,rfl,by simp only [wordP];constructor;(intro h;cases h);(intro h;omega)⟩,Below.refl _ _⟩)
   have h14':(14:Int)<(s.size:Int):=by omega
   go_enter Tryz.func35,Tryz.ntmps35
   go_wp2
   go_ret
   exact Hf.out
  ·have h14':¬(14:Int)<(s.size:Int):=by omega
   have Hyes:(∀i (h:i<s.size),goodP i (s[i]'h).toNat)→∀w',Below w.heap.size w w'→SaysWord s w (.returned (.bool true)) w':=fun h w' hb=>⟨⟨true,rfl,by simp only [true_iff];exact ⟨by omega,by omega,h⟩⟩,hb⟩
   have Hno:(∃i,∃h:i<s.size,¬goodP i (s[i]'h).toNat)→∀w',Below w.heap.size w w'→SaysWord s w (.returned (.bool false)) w':=fun h w' hb=>⟨⟨false,rfl,by
    obtain ⟨i,hi,hg⟩:=h
    constructor
    ·intro h;cases h
    ·intro h;exact absurd (h.2.2 i hi) hg⟩,hb⟩
   have Hy:=qd Hyes
   have Hn:=qd Hno
   clear Hyes Hno
   go_enter Tryz.func35,Tryz.ntmps35
   go_wp2
   go_loopw [3] (fun _ w'=>∃pos:Nat,w'=w.iter s pos∧pos≤s.size∧∀i (h:i<s.size),i<pos→goodP i (s[i]'h).toNat) (fun _ w'=>s.size-w'.iterPos w.heap.size)
   case atStart=>exact ⟨0,rfl,by omega,fun i _ h=>absurd h (by omega)⟩
   case round=>
    obtain ⟨pos,rfl,hle,hgood⟩:=hrel
    have Hg:=qd hgood
    clear hgood
    have Hb:=qd (show Below w.heap.size w (w.iter s pos) from (Below.refl _ _).alloc (Nat.le_refl _) _)
    by_cases hp:pos<s.size
    ·by_cases ha:(s[pos]'hp).toNat<128
     ·have hnx:∀ty,(Instr.next (.pointer (some ⟨w.heap.size,0,none⟩)) true ty).run Tryz.prog (w.iter s pos)=_:=fun ty=>run_next_ascii w s pos ty hp ha
      obtain ⟨c,hc⟩:∃c,c=(s[pos]'hp).toNat:=⟨_,rfl⟩
      rw [←hc] at hnx
      have Hc:=qd hc
      clear hc ha
      have hnext:goodP pos c→Hid (∀i (h:i<s.size),i<pos+1→goodP i (s[i]'h).toNat):=fun hg i hi hlt=>by
       by_cases e:i=pos
       ·subst e;rw [←Hc.out];exact hg
       ·exact Hg.out i hi (by omega)
      by_cases hl:letterP c
      ·have Hx:=hnext (.inl hl)
       clear hnext
       go_wp2_with (go_at_call 67;refine (letter_yes _ _ (by have:=hl.1;omega) (by have:=hl.2;omega)).mono ?_;rintro e w1 ⟨rfl,rfl⟩)
       go_roundw
       case rel=>exact ⟨pos+1,rfl,by omega,Hx.out⟩
       case measure=>simp;omega
      ·by_cases hz:pos=0
       ·have Hbad:=qd (show ∃i,∃h:i<s.size,¬goodP i (s[i]'h).toNat from ⟨pos,hp,by rw [←Hc.out];unfold goodP;rintro (h|h);exact hl h;exact h.1 hz⟩)
        have hzi:((pos:Int)==0)=true:=by simp;omega
        have Hz:=qd hz
        clear hnext hz
        go_wp2_with (go_at_call 67;refine (letter_no _ _ (by unfold letterP at hl;omega)).mono ?_;rintro e w1 ⟨rfl,rfl⟩)
        go_ret
        refine Hn.out Hbad.out _ ?_
        exact (Below.refl _ _).alloc (Nat.le_refl _) _
       ·have hzi:((pos:Int)==0)=false:=by simp;omega
        by_cases hbh:behindP c
        ·have Hx:=hnext (.inr ⟨hz,hbh⟩)
         clear hnext
         go_wp2_with (first|(go_at_call 67;refine (letter_no _ _ (by unfold letterP at hl;omega)).mono ?_;rintro e w1 ⟨rfl,rfl⟩)|(go_at_call 68;refine (behind_yes _ _ hbh).mono ?_;rintro e w1 ⟨rfl,rfl⟩))
         go_roundw
         case rel=>exact ⟨pos+1,rfl,by omega,Hx.out⟩
         case measure=>simp;omega
        ·have Hbad:=qd (show ∃i,∃h:i<s.size,¬goodP i (s[i]'h).toNat from ⟨pos,hp,by rw [←Hc.out];unfold goodP;rintro (h|h);exact hl h;exact hbh h.2⟩)
         clear hnext
         go_wp2_with (first|(go_at_call 67;refine (letter_no _ _ (by unfold letterP at hl;omega)).mono ?_;rintro e w1 ⟨rfl,rfl⟩)|(go_at_call 68;refine (behind_no _ _ hbh).mono ?_;rintro e w1 ⟨rfl,rfl⟩))
         go_ret
         refine Hn.out Hbad.out _ ?_
         exact (Below.refl _ _).alloc (Nat.le_refl _) _
     ·have hnx:∀ty,(Instr.next (.pointer (some ⟨w.heap.size,0,none⟩)) true ty).run Tryz.prog (w.iter s pos)=_:=fun ty=>run_next_any w s pos ty hp
      have hhi:=(decode_high s pos hp (by omega)).1
      obtain ⟨c,hc⟩:∃c,c=(Utf8.decode s pos).1:=⟨_,rfl⟩
      obtain ⟨wd,hwd⟩:∃wd,wd=(Utf8.decode s pos).2:=⟨_,rfl⟩
      rw [←hc] at hhi
      rw [←hc,←hwd] at hnx
      have Hbad:=qd (show ∃i,∃h:i<s.size,¬goodP i (s[i]'h).toNat from ⟨pos,hp,by unfold goodP letterP behindP;omega⟩)
      have hlc:(c:Int)<97∨122<(c:Int):=by omega
      have hbc:¬behindP c:=by unfold behindP;omega
      clear hc hwd ha
      by_cases hz:pos=0
      ·have hzi:((pos:Int)==0)=true:=by simp;omega
       have Hz:=qd hz
       clear hz
       go_wp2_with (go_at_call 67;refine (letter_no _ _ hlc).mono ?_;rintro e w1 ⟨rfl,rfl⟩)
       go_ret
       refine Hn.out Hbad.out _ ?_
       exact (Below.refl _ _).alloc (Nat.le_refl _) _
      ·have hzi:((pos:Int)==0)=false:=by simp;omega
       go_wp2_with (first|(go_at_call 67;refine (letter_no _ _ hlc).mono ?_;rintro e w1 ⟨rfl,rfl⟩)|(go_at_call 68;refine (behind_no _ _ hbc).mono ?_;rintro e w1 ⟨rfl,rfl⟩))
       go_ret
       refine Hn.out Hbad.out _ ?_
       exact (Below.refl _ _).alloc (Nat.le_refl _) _
    ·have hnx:∀ty,(Instr.next (.pointer (some ⟨w.heap.size,0,none⟩)) true ty).run Tryz.prog (w.iter s pos)=_:=fun ty=>run_next_end w s pos ty hp
     go_wp2
     go_ret
     exact Hy.out (fun i h=>Hg.out i h (by omega)) _ Hb.out
end Go.Proofs.YtcnebdjhhfnmoaaGreatDoor
