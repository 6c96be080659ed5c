/- A policy as the document's answer has it: the walk. -/
import Derived.Test.YtcnebdjhhfnmoaaGreatDoorL03
import Derived.Test.YtcnebdjhhfnmoaaGreatDoorL19
import Derived.Deep.RegionWith
set_option maxHeartbeats 32000000
set_option maxRecDepth 100000
namespace Go.Proofs.YtcnebdjhhfnmoaaGreatDoor
open Go.RowKit Go.WideElems
theorem un_drewP {w w':World}(h:Below w.drew.heap.size w.drew w'):Below w.heap.size w w':=(below_drewN (Below.refl w.heap.size w) 1).trans h
theorem XB.run {K:Kd}{ws wx:World}{xb:Nat}{a0 a1 cv:Value}{l:List CondM}(h:XB K ws wx xb a0 a1 cv l)(c:CondM){t ty:TypeId}{zero:Value}{bytes:Nat}
  (hinfo:(Tryz.prog.info? K.tC).map (fun i=>(i.zero,i.size,i.bytes))=some (some zero,4,bytes)) (hzs:zero.cells.size=4) (ht:Tryz.prog.underlying t=some (.slice K.tC)) (hby:bytes≤64) (_:0<4) (hl:l.length≤1000) (news:Array Value) (hn:news.toList=K.fC c) (h1:∀u∈K.fC c,u.oneCell'=true) :
  ∃v' wb,(Builtin.append_ #[t,t] ty #[cv,.slice (some ⟨wx.heap.size,0,none⟩) 1 1]).run Tryz.prog (wx.alloc (.cells news K.tC))=.ok v' wb ∧
   Bk wb xb K.tR [a0,a1,cv]∧XB K ws (wb.setCell ⟨xb,2,none⟩ v') xb a0 a1 v' (l++[c]):=by
 obtain ⟨i0,hi,hz0,hz1,hz2⟩:=info_parts hinfo
 have hk:=h.kept (one_alloc wx (.cells news K.tC))
 have hB:Bk (wx.alloc (.cells news K.tC)) wx.heap.size K.tC (K.fC c):=Bk.new wx K.tC news (by rw [←hn])
 obtain ⟨v',wb,hr,ho,hg,_,_⟩:=run_append_own_at (P:=Tryz.prog) (wx.alloc (.cells news K.tC)) ws.heap.size t ty K.tC i0 zero 4 bytes ht hi hz0 hz1 hz2 hzs (by decide) cv l.length (l.flatMap K.fC) hk.own ⟨wx.heap.size,0,none⟩ 1 1 (K.fC c) (by rw [K.hC]) (fun j u hu=>by rw [addr_at,Nat.zero_add];exact hB.cell j hu) h1 (by unfold maxLen;omega) (by have:(l.length+1)*bytes≤1001*64:=Nat.mul_le_mul (by omega) hby;omega) (Nat.le_trans h.grow.size (by simp))
 obtain ⟨_,_,_,_,_,hty,_⟩:=own_typed hk.own
 exact ⟨v',wb,hr,hk.x.appended hg hty K.n1.symm,hk.add c ho hg⟩
theorem op_append {o:Oper}{a:Act}{w:World}{K:Act→World→Prop}{Q:Exit→Act→World→Prop}(s x:Operand)(t:TypeId)(ho:o.op=.call { callee:=.builtin .append,args:=#[s,x],argTypes:=#[t,t] })
  (v y v':Value) (w':World) (hs:a.eval s=v) (hx:a.eval x=y) (hr:(Builtin.append_ #[t,t] o.type #[v,y]).run Tryz.prog w=.ok v' w') (h:K (a.put o.dst v') w'):Oper.wp Tryz.prog o a w K Q:=by
 unfold Oper.wp execOp
 simp only [ho,resolve,invoke,builtin,Sem.run_bind,Sem.run_pure,Result.andThen_ok,List.map_toArray,List.map_cons,List.map_nil,hs,hx,hr]
 exact h
end Go.Proofs.YtcnebdjhhfnmoaaGreatDoor
