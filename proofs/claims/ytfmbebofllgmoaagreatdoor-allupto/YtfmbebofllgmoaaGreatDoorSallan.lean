/-
  PROVED HERE: laws for walking a function that sends and recei
-/
import Derived.Conc.LoneCalls
import Derived.Calls
import Derived.Tactics
import Derived.Test.YtfmbebofllgmoaaGreatDoorSallzz
namespace Go.Proofs.YtfmbebofllgmoaaGreatDoor
open Go.Conc Go.RowKit
def Rn (P:Program) (b:Frame) (R:Ending->World->Prop) (todo:List Item) (a:Act) (w:World):Prop:=
 ∀cs,∃v w' fr,R (.returned v) w'/\Steps P (lone (b.at a todo) cs w) (lone fr cs w')/\fr.fn=b.fn/\fr.leaving P w' (.returned v)
section
variable {P:Program} {b:Frame} {R:Ending->World->Prop} {k:List Item} {a:Act} {w:World}
theorem Rn.step {todo todo':List Item} {a':Act} {w':World} (h:∀cs,Go.step P (lone (b.at a todo) cs w)=.next (lone (b.at a' todo') cs w')) (h':Rn P b R todo' a' w'):Rn P b R todo a w:=
 fun cs=>let ⟨v,w₂,fr,hr,hs,hf,hl⟩:=h' cs;⟨v,w₂,fr,hr,Steps.head (h cs) hs,hf,hl⟩
theorem Rn.seq {x y:Code} (h:Rn P b R (.code x::.code y::k) a w):Rn P b R (.code (.seq x y)::k) a w:=.step (fun _=>step_seq) h
theorem Rn.block {id:Nat} {c:Code} (h:Rn P b R (.code c::.inBlock id::k) a w):Rn P b R (.code (.block id c)::k) a w:=.step (fun _=>step_block) h
theorem Rn.inBlock {id:Nat} (h:Rn P b R k a w):Rn P b R (.inBlock id::k) a w:=.step (fun _=>step_inBlock) h
theorem Rn.loop {c:Code} (h:Rn P b R (.code c::.inLoop c::k) a w):Rn P b R (.code (.loop c)::k) a w:=.step (fun _=>step_loop) h
theorem Rn.inLoop {c:Code} (h:Rn P b R (.code c::.inLoop c::k) a w):Rn P b R (.inLoop c::k) a w:=.step (fun _=>step_inLoop) h
theorem Rn.cond {c:Operand} {x y:Code} {t:Bool} (hc:a.eval c=.bool t) (h:Rn P b R (.code (if t then x else y)::k) a w):Rn P b R (.code (.cond c x y)::k) a w:=.step (fun _=>step_cond hc) h
theorem Rn.exit {id:Nat} {k':List Item} (hk:exitTo id k=some k') (h:Rn P b R k' a w):Rn P b R (.code (.exit id)::k) a w:=.step (fun _=>step_exit hk) h
theorem Rn.region {id:Nat} {ops:Array Oper} (h:Rn P b R (.inRegion ops (List.range ops.size)::k) a w):Rn P b R (.code (.region id ops false)::k) a w:=.step (fun _=>step_region) h
theorem Rn.regionEnd {ops:Array Oper} (h:Rn P b R k a w):Rn P b R (.inRegion ops []::k) a w:=.step (fun _=>step_region_end) h
theorem Rn.ret {fn:Func} {v:Value} (hk:b.kind=.normal) (hd:a.defers=[]) (hf:P.funcs[b.fn]?=some fn) (hv:(results fn a.tmps).run P w=.ok v w) (h:R (.returned v) w):Rn P b R (.code .ret::k) a w:=
 fun _=>⟨v,w,_,h,.one step_ret,rfl,rfl,hd,hk,fn,hf,hv⟩
theorem Rn.code {c:Code} {Q:Act->World->Prop} {ret:Act->World->Prop} {ex:Nat->Act->World->Prop}
  (h:c.wp P (fun e a w=>match e with | .normal=>Q a w | .ret=>ret a w | .exit id=>ex id a w | _=>False) a w)
  (hn:∀a' w',Q a' w'->Rn P b R k a' w')
  (hr:∀a' w',ret a' w'->a'.defers=[]/\b.kind=.normal/\∃fn v,P.funcs[b.fn]?=some fn/\(results fn a'.tmps).run P w'=.ok v w'/\R (.returned v) w')
  (he:∀id a' w',ex id a' w'->∃k',exitTo id k=some k'/\Rn P b R k' a' w'):Rn P b R (.code c::k) a w:=by
 intro cs
 obtain⟨e,a',w',hq,harr⟩:=h b k cs
 cases e with
 | normal=>
  obtain⟨v,w₂,fr,hR,hs,hf,hl⟩:=hn _ _ hq cs
  exact⟨v,w₂,fr,hR,Steps.trans harr hs,hf,hl⟩
 | ret=>
  obtain⟨hd,hk,fn,v,hf,hv,hR⟩:=hr _ _ hq
  obtain⟨todo,hs⟩:=harr
  exact⟨v,w',_,hR,hs,rfl,rfl,hd,hk,fn,hf,hv⟩
 | exit id=>
  obtain⟨k',hk',h'⟩:=he _ _ _ hq
  obtain⟨v,w₂,fr,hR,hs,hf,hl⟩:=h' cs
  exact⟨v,w₂,fr,hR,Steps.trans (harr k' hk') hs,hf,hl⟩
 | goto l=>exact hq.elim
 | panic c=>exact hq.elim
 | outgrown=>exact hq.elim
theorem Rn.op {ops:Array Oper} {i:Nat} {rest:List Nat} {o:Oper} {v:Value} {w':World} (ho:ops[i]?=some o) (hw:Region.wanted o (yielded ops a.tmps)=true)
  (hr:(execOp a.eval o).run P w=.ok (.value v) w') (h:Rn P b R (.inRegion ops rest::k) (a.put o.dst v) w'):Rn P b R (.inRegion ops (i::rest)::k) a w:=
 .step (fun cs=>by
  have hg:=stepG_op (P:=P) (b:=b) (k:=k) (cs:=cs) (w:=w) (rest:=rest) ho hw
  have hfin:(b.at a (.inRegion ops (i::rest)::k)).finish v=b.at (a.put o.dst v) (.inRegion ops rest::k):=by rw [Frame.finish_at,ho];rfl
  refine step_lone_go ?_
  rw [hg,<-hfin];simp [stepG.apply,hr]) h
theorem Rn.send {ops:Array Oper} {i:Nat} {rest:List Nat} {o:Oper} {c cap s r:Nat} {buf:Array Value} {tm:Bool} {v z:Value} (hk:b.kind≠.early) (ho:ops[i]?=some o) (hw:Region.wanted o (yielded ops a.tmps)=true)
  (hr:(execOp a.eval o).run P w=.ok (.comm #[scase c v z] true .send) w) (hc:w.heap[c]?=some (.chan cap buf false s r tm)) (hroom:buf.size<cap)
  (h:Rn P b R (.inRegion ops rest::k) (a.put o.dst undef) (w.setChan c cap (buf.push v) false (s+1) r tm)):Rn P b R (.inRegion ops (i::rest)::k) a w:=
 .step (fun cs=>by
  have hfin:(b.at a (.inRegion ops (i::rest)::k)).finish undef=b.at (a.put o.dst undef) (.inRegion ops rest::k):=by rw [Frame.finish_at,ho];rfl
  rw [lone_eq_solo,lone_eq_solo,<-hfin]
  exact step_lone_send_room (stepG_comm ho hw hk hr) hc hroom) h
theorem Rn.recv {ops:Array Oper} {i:Nat} {rest:List Nat} {o:Oper} {c cap s r:Nat} {buf:Array Value} {closed tm:Bool} {z:Value} (ok:Bool) (hk:b.kind≠.early) (ho:ops[i]?=some o) (hw:Region.wanted o (yielded ops a.tmps)=true)
  (hr:(execOp a.eval o).run P w=.ok (.comm #[rcase c z] true (.recv ok)) w) (hc:w.heap[c]?=some (.chan cap buf closed s r tm)) (hsome:0<buf.size)
  (h:Rn P b R (.inRegion ops rest::k) (a.put o.dst (got ok (buf.getD 0 undef) true)) (w.setChan c cap (buf.extract 1 buf.size) closed s (r+1) tm)):Rn P b R (.inRegion ops (i::rest)::k) a w:=
 .step (fun cs=>by
  have hfin:(b.at a (.inRegion ops (i::rest)::k)).finish (got ok (buf.getD 0 undef) true)=b.at (a.put o.dst (got ok (buf.getD 0 undef) true)) (.inRegion ops rest::k):=by rw [Frame.finish_at,ho];rfl
  rw [lone_eq_solo,lone_eq_solo,<-hfin]
  exact step_lone_recv_buf ok (stepG_comm ho hw hk hr) hc hsome) h
theorem Rn.shut {ops:Array Oper} {i:Nat} {rest:List Nat} {o:Oper} {c cap s r:Nat} {tm:Bool} {z:Value} (ok:Bool) (hk:b.kind≠.early) (ho:ops[i]?=some o) (hw:Region.wanted o (yielded ops a.tmps)=true)
  (hr:(execOp a.eval o).run P w=.ok (.comm #[rcase c z] true (.recv ok)) w) (hc:w.heap[c]?=some (.chan cap #[] true s r tm))
  (h:Rn P b R (.inRegion ops rest::k) (a.put o.dst (got ok z false)) w):Rn P b R (.inRegion ops (i::rest)::k) a w:=
 .step (fun cs=>by
  have hfin:(b.at a (.inRegion ops (i::rest)::k)).finish (got ok z false)=b.at (a.put o.dst (got ok z false)) (.inRegion ops rest::k):=by rw [Frame.finish_at,ho];rfl
  rw [lone_eq_solo,lone_eq_solo,<-hfin]
  exact step_lone_recv_shut ok (stepG_comm ho hw hk hr) hc) h
end
theorem vM {P:Program} {f:FuncId} {fn:Func} {c:Code} {args:Array Value} {w:World} {R:Ending->World->Prop} (hf:P.funcs[f]?=some fn) (hb:fn.body=some c)
  (h:Rn P {(default:Frame) with fn:=f,kind:=.normal} R [.code c] {tmps:=args++Array.replicate (fn.ntmps-args.size) undef,defers:=[]} w):Calls P f args w R:=by
 intro cs
 have henter:Frame.enter P f args .normal=({(default:Frame) with fn:=f,kind:=.normal}:Frame).at {tmps:=args++Array.replicate (fn.ntmps-args.size) undef,defers:=[]} [.code c]:=by
  simp [Frame.enter,Frame.at,hf,hb]
 obtain⟨v,w',fr,hR,hs,hfn,hl⟩:=h cs
 exact⟨.returned v,w',fr,hR,by rw [henter];exact hs,hfn,hl⟩
