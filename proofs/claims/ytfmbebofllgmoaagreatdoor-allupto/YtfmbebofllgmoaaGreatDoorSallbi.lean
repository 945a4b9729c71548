/-
  PROVED HERE: the document's timers go off as the model (frM) 
-/
import Derived.Test.YtfmbebofllgmoaaGreatDoorSallbh
set_option maxHeartbeats 4000000
set_option maxRecDepth 20000
namespace Go.Proofs.YtfmbebofllgmoaaGreatDoor
open Go.RowKit
attribute [local go_sem ↓] Go.wp_at_zero Go.wp_at_succ
theorem sJ {ops:Array Oper} {rest:List Oper} {o:Oper} {a:Act} {Q:Exit->Act->World->Prop} {w:World} {B t e size bytes:Nat} (E:mU t e size bytes) (hs0:0<size) (hs1:bytes<=140) {v:Value} {n m:Nat} {xs news:List Value} (hgd:o.guard=none) (sv xv:Operand)
  (ho:o.op=.call {callee:=.builtin .append,args:=#[sv,xv],argTypes:=#[t,t]}) {ad:Addr} {cap:Nat} (hs:a.eval sv=v) (hx:a.eval xv=.slice (some ad) m cap) (hrow:w.ownsRow B e size v n xs) (hl:news.length=m*size)
  (hc:∀j u,news[j]?=some u->w.cell? (ad.add j)=some u) (h1:∀u∈news,u.oneCell'=true) (hm:0<m) (hn:n+m<=1000000000000) (hB:B<=w.heap.size)
  (h:∀v' w',w'.ownsRow B e size v' (n+m) (xs++news)->Fr (own v) w w' (own v')->(∃a c,v'=.slice a (n+m) c)->wpList Tryz.prog ops Q rest (a.put o.dst v') w'):wpList Tryz.prog ops Q (o::rest) a w:=by
 obtain⟨i,z,hi,hz,hsz,hby,hzc⟩:=E.i
 have hmx:n+m<=maxLen:=by simp only [maxLen];omega
 have hbb:(n+m)*bytes<=140737488355328:=Nat.le_trans (Nat.mul_le_mul hn hs1) (by omega)
 refine wpList_append_lies _ hgd sv xv t ho B e i z size bytes E.u hi hz hsz hby hzc hs0 v n xs hs hrow ad m cap news hx hl hc h1 hm hmx hbb hB w.heap.size rfl ?_
 intro g cp w' h1 h2 h3 h4
 exact h _ w' h1 (jU h2 h3) ⟨_,_,rfl⟩
section
variable {σ:Type} {SQ:(Nat->Value)->(Nat->Prop)->World->σ->Prop} {ask:σ->Int->Int->Rep×σ} {may:Int->Int->Prop} {mes:σ->Nat} {B:Nat} {S T:Nat->Prop} {w:World} {b:Nat} {pv:Nat->Value} {vt va:Value} {s:PS} {A:List AT} {tn sq:Int} {x:σ}
theorem dX {p:Pg} {N:Nat} {s:PS} (h:vL p N s):s.armings<=5000:=by have:=h.1.armings.2;have:=h.1.fuel.1;omega
def TRel (SQ:(Nat->Value)->(Nat->Prop)->World->σ->Prop) (ask:σ->Int->Int->Rep×σ) (B:Nat) (S:Nat->Prop) (w:World) (b:Nat) (pv:Nat->Value) (tn sq:Int) (p:Pg) (now:Int) (M:Nat) (tot:PS×σ) (k:Nat) (u:Value) (wr:World):Prop:=
 ∃S' pv' vt' va' T' A' s' x' N l,LQ SQ B S' wr b pv' vt' va' T' s' A' tn sq x'/\(∀i,i<3->pv' i=pv i)/\Fr S w wr S'/\frM (gT ask p) l s' x'=tot/\TL s' l now sq/\vL p N s'/\N+l.length<=M/\l.length=k/\u=.int .i64 (tJ A' now tn A'.length)
theorem zI6 (L:rK SQ B) (K:eB SQ ask may B) (hm:may 1 0) (hm4:∀v,1<=v->v<=1000000->may 4 v) (hs:uP ask mes)
  {w0:World} (hB:B=w0.heap.size) (hbel:Below w0.heap.size w0 w) {p:Pg} (pg:oE w0 pv p) (ok:sM p) (h:LQ SQ B S w b pv vt va T s A tn sq x) {N:Nat} (hq:vL p N s) (hN:N+8<=100000000) (hsq:s.armings<=sq) :
  Calls Tryz.prog 128 #[.pointer (some ⟨b,0,none⟩)] w fun e w'=>e=.returned (.tuple #[])/\eD SQ B S w b pv tn sq (frM (gT ask p) (vB s) s x).1 (frM (gT ask p) (vB s) s x).2 w':=by
 have hst:=TL.start h.rel hsq
 have hdl:=mD s
 have hSB:∀k,S k->B<=k:=fun k hk=>(h.bound k hk).1
 have hBw:B<=w.heap.size:=h.below
 have HD:=zZ (zE4 L h s.clock (dX hq))
 have k14:=(h.cell 14 (by omega)).trans (by rw [tQ])
 have r0:∀W,Fr (fun _=>False) w W (fun _=>False)->TRel SQ ask B S w b pv tn sq p s.clock (N+8) (frM (gT ask p) (vB s) s x) (vB s).length (.int .i64 (tJ A s.clock tn A.length)) W:=fun W hW=>
  ⟨S,pv,vt,va,T,A,s,x,N,vB s,h.fr L hW,fun _ _=>rfl,hW.wide _,rfl,hst,hq,by omega,rfl,rfl⟩
 obtain⟨ta,tc,htv,_,htf⟩:=pg.t
 generalize frM (gT ask p) (vB s) s x=tot at *
 generalize s.clock=now at *
 generalize (vB s).length=dl at *
 have R0:=zZ r0
 have HSB:=zZ hSB
 have HBW:=zZ hBw
 have HBEL:=zZ hbel
 have HBE:=zZ hB
 have HTF:=zZ htf
 clear h r0 hst hSB hBw hbel hB hq htf
 go_enter Tryz.func128,Tryz.ntmps128
 go_wp2_with fail
 go_at_call 142
 refine(zY HD).mono ?_
 rintro e w1 ⟨rfl,f1⟩
 have R1:=zZ (zY R0 w1 f1)
 clear f1 R0 HD k14
 go_wp2
 go_loopg [3] dl (fun k u wr=>TRel SQ ask B S w b pv tn sq p now (N+8) tot k u wr)
 case atStart=>exact zY R1
 case round=>
  obtain⟨S',pv',vt',va',T',A',s',x',N',l,q1,q0,q2,q3,q4,q5,q6,rfl,rfl⟩:=hrel
  have c27:=(q1.cell 27 (by omega)).trans (by rw [xF])
  have hdk:=aU A' now tn A'.length (Nat.le_refl _)
  have hbr:=q1.blt
  rcases hdk with ⟨hr1,hr2⟩ | ⟨m,pp,hml,hrm,hpm,hcd,hall⟩
  ·have e:=TL.none q4 q1.rel hr2 x' (g:=gT ask p)
   have Q1:=zZ q1
   have Q2:=zZ q2
   have Q0:=zZ q0
   have E:=zZ (q3.symm.trans e)
   rw [hr1]
   clear q1 q2 q3 q4 q5 e q0 hr2 hr1
   go_wp2
   go_end0
   rw [zY E]
   exact⟨rfl,S',pv',vt',va',T',A',zY Q1,zY Q0,zY Q2⟩
  ·rw [hrm]
   by_cases hfi:s'.fin=0
   ·obtain⟨l2,hl2,hfr,htl⟩:=TL.next q4 q1.rel hpm hcd hall hfi x' (g:=gT ask p)
    obtain⟨aa,ca,hva⟩:=yM q1.arow
    subst hva
    obtain⟨g,cg,hv,k0,k1,k2⟩:=jM q1.arow hpm
    injection hv with hv hv2 hv3
    subst hv
    clear hv2 hv3 k1 k2
    have c16:=(q1.cell 16 (by omega)).trans (by rw [vJ])
    obtain⟨a1,a2,a3,a4⟩:=q1.rel.mem pp (List.mem_of_getElem? hpm)
    have hwt:pp.1.2.2.2<(p.tn:Int):=by
     have:=q5.2.num pp.1.2.2.2.toNat (by rw [a4];exact a1)
     omega
    obtain⟨z,hz⟩ : ∃z,pp.1.2.2.2=z:=⟨_,rfl⟩
    rw [hz] at k0 hwt a2 a3 a4 hfr htl
    obtain⟨ua,uc,hut⟩:=yM q1.row
    subst hut
    rcases zY HTF with hz0 | ⟨tb,toff,rfl,htb⟩
    ·omega
    obtain⟨vi,hvi,hops⟩:=htb z.toNat (by omega)
    have htbl:tb<w0.heap.size:=zU _ _ hvi
    have HC:=zZ (mZ L q1 z a2 (dX q5))
    have hln:s'.trace.length<=100000000:=by have:=q5.1.trace;omega
    have hq2:vL p (N'+1) (pD s' z):=zG8 z q5
    have hq3:=qF hs (ok.tr z.toNat (by omega)) (pD s' z) x' hq2
    have hold:pN sq (pD s' z) (hM ask (p.tf z.toNat) (p.tl z.toNat) (p.tl z.toNat) {pD s' z with next:=0} x').1:=by
     have h1:=yF1 (ask:=ask) (f:=p.tf z.toNat) (n:=p.tl z.toNat) (p.tl z.toNat) {pD s' z with next:=0} x' (sq:=sq) q1.rel.sq
     exact pN.trans (.of rfl rfl) h1
    have htl':=htl _ hold
    have hk0:(0:Int)<=(m:Int):=by omega
    have hk1:(m:Int)<(A'.length:Int):=by omega
    have hfb:(s'.fin==0)=true:=by simpa using hfi
    have E:=zZ (q3.symm.trans hfr)
    have Q0:=zZ q0
    have Q1:=zZ q1
    have Q2:=zZ q2
    have HQ2:=zZ hq2
    have HQ3:=zZ hq3
    have HTL:=zZ htl'
    have HOPS:=zZ hops
    have HVI:=zZ hvi
    clear q1 q2 q3 q4 q5 q0 hfr htl hq2 hq3 hold htl' hops hvi htb hpm hcd hall a1 a3 a4 hz hfi
    go_wp2_with fail
    go_at_call 140
    refine(zY HC).mono ?_
    rintro e w2 ⟨rfl,S2,va2,h2,f2⟩
    have k26:=(h2.cell 26 (by omega)).trans (by rw [xE])
    have nb:=heap_alloc_new w2 (.cells #[.int .i64 1,.int .i64 z,.int .i64 0] 72)
    have h2a:=h2.alloc L (.cells #[.int .i64 1,.int .i64 z,.int .i64 0] 72)
    have hb2:=h2.blt
    have hB2:=h2a.below
    have NB:=zZ nb
    have H2A:=zZ h2a
    have F2A:=zZ (f2.alloc (.cells #[.int .i64 1,.int .i64 z,.int .i64 0] 72))
    clear nb h2 h2a f2 HC
    go_wp2_with (at_builtin;refine sJ kP (by omega) (by omega) (B:=B) (n:=s'.trace.length) (m:=1) (xs:=vD s'.trace) (news:=[.int .i64 1,.int .i64 z,.int .i64 0]) rfl (.tmp 39) (.tmp 42) rfl (ad:=⟨w2.heap.size,0,none⟩) (cap:=1) rfl rfl (zY H2A).row rfl (World.news_of_block (zY NB)) (by simp [Value.oneCell']) (by omega) (by omega) hB2 ?_;intro v3 w3 o3 f3 sh3;obtain⟨av,cv,rfl⟩:=sh3;have c3:=(zY H2A).cells.block (f3.same b (zY H2A).blt (fun e=>((zY H2A).inV b e).2.1 rfl));have k26':=(c3 26 (by omega)).1.trans (by rw [xE]);have z26:=(c3 26 (by omega)).2;have FIN:=zZ ((zY H2A).setTrace L (o:=(1,z,0)) o3 f3);have k1:=((zY FIN).1.cell 1 (by omega)).trans (by rw [xB _ _ _ _ _ _ (by omega),zY Q0 1 (by omega),htv]);have hbel4:Below w0.heap.size w0 (w3.setCell ⟨b,26,none⟩ (.slice av (s'.trace.length+1) cv)):=(zY HBEL).trans (zY HBE▸((zY Q2).trans ((zY F2A).trans (zY FIN).2)).below (zY HSB) (zY HBW));have kvi:=(xT hbel4 tb (toff+z.toNat) htbl).trans (zY HVI);have htw4:tb<(w3.setCell ⟨b,26,none⟩ (.slice av (s'.trace.length+1) cv)).heap.size:=zT htbl hbel4.size;have HBEL4:=zZ hbel4;clear o3 f3 c3 hbel4)
    refine(sH L K hm hm4 hs.clock (zY HBE) (zY HBEL4) (zY FIN).1 (zY HOPS) (ok.tl z.toNat (by omega)) ok.tn ok.fn (ok.tr z.toNat (by omega)) (zY HQ2).1 (by omega)).mono ?_
    rintro e w5 ⟨rfl,S5,pv5,vt5,va5,T5,A5,h5,p5,f5⟩
    have HD5:=zZ (zE4 L h5 now (dX (zY HQ3)))
    have H5:=zZ h5
    have P5:=zZ p5
    have F5:=zZ f5
    clear h5 p5 f5 kvi k1 k26' z26 htw4
    go_wp2_with fail
    go_at_call 142
    refine(zY HD5).mono ?_
    rintro e w6 ⟨rfl,f6⟩
    have F6:=zZ f6
    clear f6 HD5
    go_wp2
    go_roundg l2.length
    case rel=>
     refine⟨S5,pv5,vt5,va5,T5,A5,_,_,N'+1,l2,(zY H5).fr L (zY F6),fun i hi=>(zY P5 i hi).trans (zY Q0 i hi),((zY Q2).trans ((zY F2A).trans ((zY FIN).2.trans (zY F5)))).trans ((zY F6).wide _),(zY E).symm,zY HTL,zY HQ3,by omega,rfl,rfl⟩
    case measure=>omega
   ·have e:=yE5 (g:=gT ask p) l s' x' hfi
    have hfb:(s'.fin==0)=false:=by simpa using hfi
    have hk0:(0:Int)<=(m:Int):=by omega
    have Q1:=zZ q1
    have Q2:=zZ q2
    have Q0:=zZ q0
    have E:=zZ (q3.symm.trans e)
    clear q1 q2 q3 q4 q5 e q0 hall hcd hpm hfi
    go_wp2
    go_end0
    rw [zY E]
    exact⟨rfl,S',pv',vt',va',T',A',zY Q1,zY Q0,zY Q2⟩
end
section
variable {σ:Type} {SQ:(Nat->Value)->(Nat->Prop)->World->σ->Prop} {B:Nat} {S T:Nat->Prop} {w:World} {b:Nat} {pv:Nat->Value} {vt va:Value} {s:PS} {A:List AT} {tn sq:Int} {x:σ}
theorem yF7 (h:oD s A tn sq) (hw:gZ s.wat 8=false):qV s=(A.length==0):=by
 unfold qV
 rw [hw]
 cases A with
 | nil=>
  rw [nX (fun i=>(s.tim i).1) 8 (fun i _=>by
   cases e:(s.tim i).1
   ·rfl
   ·obtain⟨_,_,u,hu⟩:=h.all i e
    cases hu)]
  rfl
 | cons p r=>
  obtain⟨a1,a2,a3,a4⟩:=h.mem p (List.mem_cons_self ..)
  rw [lV (fun i=>(s.tim i).1) 8 p.1.2.2.2.toNat (by omega) (by show (s.tim _).1=true;rw [a4];exact a1)]
  rfl
theorem zW9 (h:LQ SQ B S w b pv vt va T s A tn sq x) :
  Calls Tryz.prog 126 #[.pointer (some ⟨b,0,none⟩)] w fun e w'=>e=.returned (.bool (qV s))/\w'=w:=by
 obtain⟨aa,ca,rfl⟩:=yM h.arow
 have hidl:=yF7 h.rel
 have c16:=(h.cell 16 (by omega)).trans (by rw [vJ])
 have cw:∀i,i<8->w.cell? ⟨b,17+i,none⟩=some (.bool (s.wat i)):=fun i hi=>(h.cell (17+i) (by omega)).trans (by rw [uG _ _ _ _ _ _ hi])
 have CW:=zZ cw
 have HI:=zZ hidl
 clear h cw hidl
 go_enter Tryz.func126,Tryz.ntmps126
 go_wp2
 go_loopw [3] (fun i wr=>∃k:Nat,k<=8/\i=.int .i64 k/\wr=w/\Hid (∀j,j<k->s.wat j=false)) (fun i _=>8-(intOf i).toNat)
 case atStart=>exact⟨0,Nat.zero_le _,rfl,rfl,fun j hj=>absurd hj (Nat.not_lt_zero j)⟩
 case round=>
  obtain⟨k,hk,rfl,rfl,hall⟩:=hrel
  by_cases hlt:k<8
  ·have hc:=zY CW k hlt
   have hk0:(0:Int)<=(k:Int):=by omega
   have hk1:(k:Int)<8:=by omega
   cases hw:s.wat k
   ·rw [hw] at hc
    go_wp2
    go_roundw
    case rel=>
     refine⟨k+1,by omega,by go_num,by trivial,fun j hj=>?_⟩
     by_cases e:j=k
     ·rw [e];exact hw
     ·exact zY hall j (by omega)
    case measure=>simp [intOf];omega
   ·rw [hw] at hc
    have hid:qV s=false:=by unfold qV;rw [lV s.wat 8 k hlt hw];simp
    have HID:=zZ hid
    clear hid
    go_wp2
    go_ret
    refine⟨?_,rfl⟩
    rw [zY HID]
    rfl
  ·have hkl:k=8:=by omega
   subst hkl
   have hid:=zY HI (nX s.wat 8 (zY hall))
   have HID:=zZ hid
   clear hid
   go_wp2
   go_ret
   refine⟨?_,rfl⟩
   rw [zY HID]
   show Ending.returned (Value.bool ((A.length:Int)==0))=Ending.returned (Value.bool (A.length==0))
   have e:((A.length:Int)==0)=(A.length==0):=by rw [Bool.eq_iff_iff,beq_iff_eq,beq_iff_eq];omega
   rw [e]
end
def jB (i:Inp):ByteArray:=if i.1=2 then tP (zs i.2.2.2) else yY i.1 i.2.1 i.2.2.1
def qT:List (Inp×Value)->ByteArray
 | []=>tW
 | l=>l.foldl (fun r p=>r++yX (jB p.1)) tW
theorem gO (l:List (Inp×Value)) (p:Inp×Value):qT (l++[p])=qT l++yX (jB p.1):=by
 have e:∀l:List (Inp×Value),qT l=l.foldl (fun r p=>r++yX (jB p.1)) tW:=fun l=>by cases l<;>rfl
 rw [e,e,List.foldl_append]
 rfl
structure SQR (B:Nat) (pv:Nat->Value) (T:Nat->Prop) (w:World) (x:RS):Prop where
 rep:pv 7=.bool false
 c:vU w (pv 3) x.clocks (fun q=>q<B)
 b:oW w (pv 4) (x.batches.map (·.2)) (fun q=>q<B)
 p:vU w (pv 5) x.picks (fun q=>q<B)
 l:vU w (pv 6) x.lots (fun q=>q<B)
 bl:∀y,y∈x.batches->y.2.length<=100000000
 hd:∃H:List (Inp×Value),w.ownsRow B 49 4 (pv 9) H.length (xS H)/\(∀q,own (pv 9) q->T q)/\(∀y,y∈H->yJ w y.2 (zs y.1.2.2.2) (fun q=>T q/\¬own (pv 9) q))/\x.log=qT H/\(∀y,y∈H->Fit y.1)/\H.length+x.left<=20000000
theorem SQR.law (B:Nat):rK (SQR B) B:=⟨fun h hk hb _=>
 ⟨h.rep,h.c.keep hb,h.b.keep hb,h.p.keep hb,h.l.keep hb,h.bl,by
  obtain⟨H,h1,h2,h3,h4,h5,h6⟩:=h.hd
  exact⟨H,yA h1 (fun q hq=>hk q (h2 q hq)),h2,fun y hy=>yQ (h3 y hy) (fun q hq=>hk q hq.1) (fun _ h=>h),h4,h5,h6⟩⟩⟩
section
variable {σ:Type} {SQ:(Nat->Value)->(Nat->Prop)->World->σ->Prop} {B:Nat} {S T T':Nat->Prop} {w w':World} {b:Nat} {pv pv':Nat->Value} {vt va:Value} {s s':PS} {A:List AT} {tn sq:Int} {x x':σ}
theorem LQ.rebuild (h:LQ SQ B S w b pv vt va T s A tn sq x) (hf:Fr (fun q=>q=b\/T q) w w' (fun q=>q=b\/T' q)) (hcells:LAt w' b (xU pv' vt va s' tn)) (hsrc:SQ pv' T' w' x') (hT:∀q,T' q->q<w'.heap.size/\q≠b) (ht:s'.trace=s.trace) (hr:oD s' A tn sq) (hc:∃a n c,pv' 9=.slice a n c/\(n:Int)=s'.heard) :
  LQ SQ B (fun q=>(S q/\¬T q)\/T' q) w' b pv' vt va T' s' A tn sq x'/\Fr S w w' (fun q=>(S q/\¬T q)\/T' q):=by
 have hbT:¬T b:=fun e=>(h.inT b e).2 rfl
 have hold:∀q,T' q->q<w.heap.size->T q:=fun q hq hl=>by
  rcases hf.old q hl (.inr hq) with e | e
  ·exact absurd e (hT q hq).2
  ·exact e
 have hBw:=h.below
 refine⟨⟨fun k hk=>?_,hcells,?_,?_,hr,hsrc,hc,.inl ⟨h.inB,hbT⟩,fun q hq=>?_,fun q hq=>?_,fun k hk=>⟨.inr hk,(hT k hk).2⟩⟩,?_⟩
 ·rcases hk with ⟨hk,_⟩ | hk
  ·exact⟨(h.bound k hk).1,zT (h.bound k hk).2 hf.size⟩
  ·refine⟨?_,(hT k hk).1⟩
   by_cases hl:k<w.heap.size
   ·exact(h.bound k (h.inT k (hold k hk hl)).1).1
   ·omega
 ·rw [ht]
  exact yA h.row (fun q hq=>hf.same q (h.bound q (h.inV q hq).1).2 (fun e=>e.elim (h.inV q hq).2.1 (h.inV q hq).2.2))
 ·exact yA h.arow (fun q hq=>hf.same q (h.bound q (h.inA q hq).1).2 (fun e=>e.elim (h.inA q hq).2.1 (h.inA q hq).2.2))
 ·obtain⟨h1,h2,h3⟩:=h.inV q hq
  exact⟨.inl ⟨h1,h3⟩,h2,fun e=>h3 (hold q e (h.bound q h1).2)⟩
 ·obtain⟨h1,h2,h3⟩:=h.inA q hq
  exact⟨.inl ⟨h1,h3⟩,h2,fun e=>h3 (hold q e (h.bound q h1).2)⟩
 ·refine⟨hf.os,hf.tape,hf.output,hf.size,fun k hk hn=>hf.same k hk (fun e=>hn (e.elim (fun e=>e▸h.inB) (fun e=>(h.inT k e).1))),fun k hk hs=>?_⟩
  rcases hs with ⟨hs,_⟩ | hs
  ·exact hs
  ·exact(h.inT k (hold k hs hk)).1
end
section
variable {B:Nat} {S T:Nat->Prop} {w:World} {b:Nat} {pv:Nat->Value} {vt va:Value} {s:PS} {A:List AT} {tn sq:Int} {x:RS}
theorem yF3 (h:LQ (SQR B) B S w b pv vt va T s A tn sq x) (k o:Int) (a0 a1 a2:Int)
  (hcall:∀W,Fr (fun _=>False) w W (fun _=>False)->Calls Tryz.prog 146 #[.pointer (some ⟨b,0,none⟩),.int .i64 k,.int .i64 o] W fun e w'=>e=.returned (.tuple #[.agg #[.int .i64 a0,.int .i64 a1,.int .i64 a2,.slice none 0 0],.bool false])/\Fr (fun _=>False) W w' (fun _=>False)) :
  Calls Tryz.prog 141 #[.pointer (some ⟨b,0,none⟩),.int .i64 k,.int .i64 o] w fun e w'=>e=.returned (.agg #[.int .i64 0,.int .i64 0,.int .i64 0,.slice none 0 0])/\rX (SQR B) B S w b pv vt va A tn sq {s with fin:=5} x w':=by
 have hb:=h.blt
 have k7:=(h.cell 7 (by omega)).trans (by rw [xB _ _ _ _ _ _ (by omega),h.src.rep])
 have f0:Fr (fun _=>False) w ((w.alloc (.cells #[.int .i64 0,.int .i64 0,.int .i64 0,.slice none 0 0] 49)).alloc (.cells #[.int .i64 0,.int .i64 0,.int .i64 0,.slice none 0 0] 49)) (fun _=>False):=((Fr.refl _ _).alloc _).alloc _
 have H:=zZ h
 have HC:=zZ (hcall _ f0)
 have hinB:=h.inB
 have HIN:=zZ hinB
 clear h hcall hinB
 go_enter Tryz.func141,Tryz.ntmps141
 go_wp2_with fail
 go_at_call 146
 refine(zY HC).mono ?_
 rintro e w2 ⟨rfl,f2⟩
 have f02:=f0.trans f2
 have x6:w2.heap[w.heap.size]?=some (.cells #[.int .i64 0,.int .i64 0,.int .i64 0,.slice none 0 0] 49):=(f2.same _ (by simp;omega) (fun h=>h)).trans ((zR _ _ _ (by simp)).trans (heap_alloc_new _ _))
 have x7:w2.heap[w.heap.size+1]?=some (.cells #[.int .i64 0,.int .i64 0,.int .i64 0,.slice none 0 0] 49):=(f2.same _ (by simp) (fun h=>h)).trans (by
  have h:=heap_alloc_new (w.alloc (.cells #[.int .i64 0,.int .i64 0,.int .i64 0,.slice none 0 0] 49)) (.cells #[.int .i64 0,.int .i64 0,.int .i64 0,.slice none 0 0] 49)
  rwa [show (w.alloc (.cells #[.int .i64 0,.int .i64 0,.int .i64 0,.slice none 0 0] 49)).heap.size=w.heap.size+1 by simp] at h)
 have h2:=(zY H).fr (SQR.law B) f02
 have c27:=h2.cell 27 (by omega)
 have z27:=h2.free 27 (by omega)
 generalize xU pv vt va s tn 27=o27 at c27
 have k6:=fun j=>cell_of_row w2 _ j _ 49 (0,0) x6
 have t6:=fun j=>yB x6 j
 have k8:=fun j=>cell_of_row w2 _ j _ 49 (0,0) x7
 have t8:=fun j=>yB x7 j
 have l6:=(zN.1 x6).1
 have l8:=(zN.1 x7).1
 have hb2:=h2.blt
 have n1:¬b=w.heap.size:=by omega
 have n2:¬w.heap.size=b:=by omega
 have n3:¬b=w.heap.size+1:=by omega
 have n4:¬w.heap.size+1=b:=by omega
 have n5:¬w2.heap.size=b:=by omega
 have n6:¬w2.heap.size=w.heap.size:=by omega
 have n7:¬w2.heap.size=w.heap.size+1:=by omega
 have n8:¬b=w2.heap.size:=by omega
 have n9:¬w.heap.size=w2.heap.size:=by omega
 have n10:¬w.heap.size+1=w2.heap.size:=by omega
 have H2:=zZ h2
 have F02:=zZ f02
 have X6:=zZ x6
 clear h2 f02 x6 x7 f0 f2 HC k7
 have hP6:¬S w.heap.size:=fun hs=>by have:=((zY H).bound _ hs).2;omega
 have hB6:B<=w.heap.size:=(zY H).below
 have HP6:=zZ hP6
 clear hP6
 go_wp2
 have y6:((((((w2.setCell ⟨b,27,none⟩ (.int .i64 5)).setCell ⟨w.heap.size,0,none⟩ (.int .i64 0)).setCell ⟨w.heap.size,1,none⟩ (.int .i64 0)).setCell ⟨w.heap.size,2,none⟩ (.int .i64 0)).setCell ⟨w.heap.size,3,none⟩ (.slice none 0 0)).alloc (.cells #[.int .i64 a0,.int .i64 a1,.int .i64 a2,.slice none 0 0] 49)).heap[w.heap.size]?=some (.cells #[.int .i64 0,.int .i64 0,.int .i64 0,.slice none 0 0] 49):=(zR _ _ _ (by simp [World.setCell];exact l6)).trans (yD _ _ 3 _ 49 _ (yD _ _ 2 _ 49 _ (yD _ _ 1 _ 49 _ (yD _ _ 0 _ 49 _ ((zQ _ _ _ _ n2).trans (zY X6))))))
 have ky:=fun j=>cell_of_row _ _ j _ 49 (0,0) y6
 refine bodyPost_ret (v:=.agg #[.int .i64 0,.int .i64 0,.int .i64 0,.slice none 0 0]) (by simp [results,Tryz.results141,go_sem,ky]) rfl ⟨rfl,?_⟩
 refine⟨S,pv,T,?_,fun _ _=>rfl,?_⟩
 ·exact((((((zY H2).set (SQR.law B) 27 (.int .i64 5) {s with fin:=5} (by omega) (qM 5) rfl ((zY H2).rel.of rfl rfl) rfl).setNew (SQR.law B) ⟨w.heap.size,0,none⟩ _ (zY HP6) hB6).setNew (SQR.law B) ⟨w.heap.size,1,none⟩ _ (zY HP6) hB6).setNew (SQR.law B) ⟨w.heap.size,2,none⟩ _ (zY HP6) hB6).setNew (SQR.law B) ⟨w.heap.size,3,none⟩ _ (zY HP6) hB6).alloc (SQR.law B) _
 ·exact(((((((zY F02).wide S).setCell ⟨b,27,none⟩ _ (.inl (zY HIN))).setCell ⟨w.heap.size,0,none⟩ _ (.inr (Nat.le_refl _))).setCell ⟨w.heap.size,1,none⟩ _ (.inr (Nat.le_refl _))).setCell ⟨w.heap.size,2,none⟩ _ (.inr (Nat.le_refl _))).setCell ⟨w.heap.size,3,none⟩ _ (.inr (Nat.le_refl _))).alloc _
theorem mH {pv:Nat->Value} {vt va:Value} {s:PS} {tn:Int} {j:Nat} {v:Value} (hj:j<10) (k:Nat):xU (yV pv j v) vt va s tn k=yV (xU pv vt va s tn) j v k:=by
 unfold yV
 by_cases e:k=j
 ·subst e
  rw [if_pos rfl,xB _ _ _ _ _ _ hj,if_pos rfl]
 ·rw [if_neg e]
  unfold xU
  by_cases h1:k<10
  ·rw [if_pos h1,if_pos h1];show (if k=j then v else pv k)=pv k;rw [if_neg e]
  ·rw [if_neg h1,if_neg h1]
theorem zF7 {W4 w5:World} {ob:Obj} {v9 fv vh:Value} {H:List (Inp×Value)} {i:Inp} {j:Nat} {v':Value} {x':RS} (h:LQ (SQR B) B S w b pv vt va T s A tn sq x) (hfit:Fit i) (hj3:3<=j) (hj7:j<7) (hleft:x'.left+1=x.left)
  (hsc:vU w (yV pv j v' 3) x'.clocks (fun q=>q<B)) (hsb:oW w (yV pv j v' 4) (x'.batches.map (·.2)) (fun q=>q<B)) (hsp:vU w (yV pv j v' 5) x'.picks (fun q=>q<B)) (hsl:vU w (yV pv j v' 6) x'.lots (fun q=>q<B)) (hbl:∀y,y∈x'.batches->y.2.length<=100000000)
  (hrow:w.ownsRow B 49 4 vh H.length (xS H)) (hown:∀q,own vh q->T q) (hfl:∀y,y∈H->yJ w y.2 (zs y.1.2.2.2) (fun q=>T q/\¬own vh q)) (hlog:x'.log=qT H++yX (jB i)) (hfits:∀y,y∈H->Fit y.1) (hcnt:H.length+x.left<=20000000) (hnh:(H.length:Int)=s.heard)
  (c4:LAt W4 b (yV (xU pv vt va s tn) j v')) (f04:Fr (fun q=>q=b) w W4 (fun q=>q=b)) (o4:yR W4 (w.heap.size+2) fv (zs i.2.2.2)) (hz4:w.heap.size+2<=W4.heap.size) (o5:w5.ownsRow B 49 4 v9 (H.length+1) (xS H++[.int .i64 (i.1:Nat),.int .i64 (i.2.1:Nat),.int .i64 (i.2.2.1:Nat),fv])) (hv9:∃a c,v9=.slice a (H.length+1) c) (f5:Fr (own vh) (W4.alloc ob).drew w5 (own v9)) (u0 u1 u2 u3:Value) :
  rX (SQR B) B S w b pv vt va A tn sq {s with heard:=wrap64 (s.heard+1)} x' (((((w5.setCell ⟨b,9,none⟩ v9).setCell ⟨w.heap.size,0,none⟩ u0).setCell ⟨w.heap.size,1,none⟩ u1).setCell ⟨w.heap.size,2,none⟩ u2).setCell ⟨w.heap.size,3,none⟩ u3)/\
   yJ (((((w5.setCell ⟨b,9,none⟩ v9).setCell ⟨w.heap.size,0,none⟩ u0).setCell ⟨w.heap.size,1,none⟩ u1).setCell ⟨w.heap.size,2,none⟩ u2).setCell ⟨w.heap.size,3,none⟩ u3) fv (zs i.2.2.2) (fun q=>q<(((((w5.setCell ⟨b,9,none⟩ v9).setCell ⟨w.heap.size,0,none⟩ u0).setCell ⟨w.heap.size,1,none⟩ u1).setCell ⟨w.heap.size,2,none⟩ u2).setCell ⟨w.heap.size,3,none⟩ u3).heap.size):=by
 have hb:=h.blt
 have hBw:=h.below
 have hbB:=(h.bound b h.inB).1
 have hbT:¬T b:=fun e=>(h.inT b e).2 rfl
 have hTl:∀q,T q->B<=q/\q<w.heap.size:=fun q hq=>h.bound q (h.inT q hq).1
 generalize hW:((((w5.setCell ⟨b,9,none⟩ v9).setCell ⟨w.heap.size,0,none⟩ u0).setCell ⟨w.heap.size,1,none⟩ u1).setCell ⟨w.heap.size,2,none⟩ u2).setCell ⟨w.heap.size,3,none⟩ u3=W
 have hWz:W.heap.size=w5.heap.size:=by subst hW;simp [World.setCell]
 have hz4a:(W4.alloc ob).drew.heap.size=W4.heap.size+1:=by show (W4.alloc ob).heap.size=_;simp
 have hz5:W4.heap.size+1<=w5.heap.size:=by have h1:=f5.size;omega
 have keep5:∀q,q≠b->q≠w.heap.size->W.heap[q]?=w5.heap[q]?:=fun q h1 h2=>by
  subst hW
  exact(zQ _ _ _ _ h2).trans ((zQ _ _ _ _ h2).trans ((zQ _ _ _ _ h2).trans ((zQ _ _ _ _ h2).trans (zQ _ _ _ _ h1))))
 have keep45:∀q,q<W4.heap.size->¬own vh q->w5.heap[q]?=W4.heap[q]?:=fun q h1 h2=>(f5.same q (by show q<(W4.alloc ob).heap.size;simp;omega) h2).trans (zR W4 ob q h1)
 have keepw:∀q,q<w.heap.size->q≠b->¬own vh q->W.heap[q]?=w.heap[q]?:=fun q h1 h2 h3=>(keep5 q h2 (by omega)).trans ((keep45 q (by omega) h3).trans (f04.same q h1 h2))
 have hvb:¬own vh b:=fun e=>hbT (hown b e)
 have hvl:∀q,own vh q->q<w.heap.size:=fun q e=>(zS hrow q e).2
 have hv9o:∀q,own v9 q->own vh q\/W4.heap.size<=q:=fun q hq=>by
  by_cases hl:q<W4.heap.size
  ·exact .inl (f5.old q (by show q<(W4.alloc ob).heap.size;simp;omega) hq)
  ·exact .inr (by omega)
 have hfv:∀q,own fv q->w.heap.size+2<=q/\q<W4.heap.size:=fun q hq=>zS o4 q hq
 have hcells:LAt W b (xU (yV (yV pv j v') 9 v9) vt va {s with heard:=wrap64 (s.heard+1)} tn):=by
  have e5:LAt w5 b (yV (xU pv vt va s tn) j v'):=c4.block (keep45 b (by omega) hvb)
  have e6:=e5.set 9 v9 (by omega)
  have e7:LAt W b (yV (yV (xU pv vt va s tn) j v') 9 v9):=by
   subst hW
   exact(((e6.other (show ¬b=w.heap.size by omega)).other (show ¬b=w.heap.size by omega)).other (show ¬b=w.heap.size by omega)).other (show ¬b=w.heap.size by omega)
  refine e7.congr (fun k _=>?_)
  rw [mH (by omega)]
  unfold yV
  by_cases e9:k=9
  ·rw [if_pos e9,if_pos e9]
  ·rw [if_neg e9,if_neg e9]
   have:=mH (pv:=pv) (vt:=vt) (va:=va) (s:={s with heard:=wrap64 (s.heard+1)}) (tn:=tn) (j:=j) (v:=v') (by omega) k
   unfold yV at this
   rw [this]
   rfl
 have hrow':W.ownsRow B 49 4 v9 (H++[(i,fv)]).length (xS (H++[(i,fv)])):=by
  rw [List.length_append,qZ]
  refine yA o5 (fun q hq=>keep5 q (fun e=>?_) (fun e=>?_))
  ·rcases hv9o q hq with h1 | h1
   ·exact hvb (e▸h1)
   ·omega
  ·rcases hv9o q hq with h1 | h1
   ·have:=hvl q h1;omega
   ·omega
 have hT':∀q,(own v9 q\/(T q/\¬own vh q)\/own fv q)->q<W.heap.size/\q≠b:=fun q hq=>by
  rw [hWz]
  rcases hq with h1 | ⟨h1,_⟩ | h1
  ·refine⟨(zS o5 q h1).2,fun e=>?_⟩
   rcases hv9o q h1 with h2 | h2
   ·exact hvb (e▸h2)
   ·omega
  ·have:=hTl q h1
   exact⟨by omega,fun e=>hbT (e▸h1)⟩
  ·have:=hfv q h1
   exact⟨by omega,by omega⟩
 have hf:Fr (fun q=>q=b\/T q) w W (fun q=>q=b\/(own v9 q\/(T q/\¬own vh q)\/own fv q)):=by
  have g1:W.os=w.os/\W.tape=w.tape/\W.output=w.output:=by
   have g0:=(((((Fr.refl (fun _=>True) w5).setCell ⟨b,9,none⟩ v9 (.inl trivial)).setCell ⟨w.heap.size,0,none⟩ u0 (.inl trivial)).setCell ⟨w.heap.size,1,none⟩ u1 (.inl trivial)).setCell ⟨w.heap.size,2,none⟩ u2 (.inl trivial)).setCell ⟨w.heap.size,3,none⟩ u3 (.inl trivial)
   rw [hW] at g0
   exact⟨g0.os.trans (f5.os.trans f04.os),g0.tape.trans (f5.tape.trans f04.tape),g0.output.trans (f5.output.trans f04.output)⟩
  refine⟨g1.1,g1.2.1,g1.2.2,by rw [hWz];omega,fun k hk hn=>keepw k hk (fun e=>hn (.inl e)) (fun e=>hn (.inr (hown k e))),fun k hk hq=>?_⟩
  rcases hq with h1 | h1 | ⟨h1,_⟩ | h1
  ·exact .inl h1
  ·rcases hv9o k h1 with h2 | h2
   ·exact .inr (hown k h2)
   ·omega
  ·exact .inr h1
  ·have:=hfv k h1;omega
 have hbelow:∀q,q<B->W.heap[q]?=w.heap[q]?:=fun q hq=>keepw q (by omega) (by omega) (fun e=>by have:=(zS hrow q e).1;omega)
 have hpv:∀k,k≠9->yV (yV pv j v') 9 v9 k=yV pv j v' k:=fun k hk=>by show (if k=9 then v9 else yV pv j v' k)=_;rw [if_neg hk]
 have h9:yV (yV pv j v') 9 v9 9=v9:=by show (if 9=9 then v9 else yV pv j v' 9)=v9;rw [if_pos rfl]
 have hnew:yJ W fv (zs i.2.2.2) (fun q=>(own v9 q\/(T q/\¬own vh q)\/own fv q)/\¬own v9 q):=by
  obtain⟨a1,c1,e1,hc1⟩:=pI o4
  refine⟨a1,c1,e1,hc1.imp id ?_⟩
  rintro ⟨q,off,e2,hq,hcc⟩
  have hoq:own fv q:=by rw [e1,e2];rfl
  have hg:=hfv q hoq
  have hnv:¬own v9 q:=fun e=>by
   rcases hv9o q e with h1 | h1
   ·have:=hvl q h1;omega
   ·omega
  exact⟨q,off,e2,⟨.inr (.inr hoq),hnv⟩,fun k hk=>(zO (w:=W4) (a:=⟨q,off+k,none⟩) ((keep5 q (by omega) (by omega)).trans (keep45 q hg.2 (fun e=>by have:=hvl q e;omega)))).trans (hcc k hk)⟩
 have hsrc:SQR B (yV (yV pv j v') 9 v9) (fun q=>own v9 q\/(T q/\¬own vh q)\/own fv q) W x':=by
  refine⟨?_,by rw [hpv 3 (by omega)];exact hsc.keep hbelow,by rw [hpv 4 (by omega)];exact hsb.keep hbelow,by rw [hpv 5 (by omega)];exact hsp.keep hbelow,by rw [hpv 6 (by omega)];exact hsl.keep hbelow,hbl,H++[(i,fv)],?_,?_,?_,?_,?_,?_⟩
  ·rw [hpv 7 (by omega)]
   show (if 7=j then v' else pv 7)=_
   rw [if_neg (by omega)]
   exact h.src.rep
  ·rw [h9];exact hrow'
  ·rw [h9];exact fun q hq=>.inl hq
  ·intro y hy
   rw [h9]
   rcases List.mem_append.1 hy with hy | hy
   ·refine yQ (hfl y hy) (fun q hq=>keepw q (hTl q hq.1).2 (fun e=>hbT (e▸hq.1)) hq.2) (fun q hq=>⟨.inr (.inl hq),fun e=>?_⟩)
    rcases hv9o q e with h1 | h1
    ·exact hq.2 h1
    ·have:=(hTl q hq.1).2;omega
   ·rw [List.mem_singleton] at hy
    subst hy
    exact hnew
  ·rw [gO];exact hlog
  ·intro y hy
   rcases List.mem_append.1 hy with hy | hy
   ·exact hfits y hy
   ·rw [List.mem_singleton] at hy;subst hy;exact hfit
  ·rw [List.length_append];simp only [List.length_cons,List.length_nil];omega
 obtain⟨a9,c9,e9⟩:=hv9
 have hreb:=h.rebuild (s':={s with heard:=wrap64 (s.heard+1)}) hf hcells hsrc hT' rfl (h.rel.of rfl rfl) ⟨a9,H.length+1,c9,by rw [h9];exact e9,by show _=wrap64 (s.heard+1);rw [<-hnh];unfold wrap64;omega⟩
 refine⟨⟨_,_,_,hreb.1,fun k hk=>?_,hreb.2⟩,?_⟩
 ·rw [hpv k (by omega)]
  show (if k=j then v' else pv k)=_
  rw [if_neg (by omega)]
 ·obtain⟨a1,c1,e1,hc1⟩:=hnew
  exact⟨a1,c1,e1,hc1.imp id fun ⟨q,off,e2,hq,hcc⟩=>⟨q,off,e2,(hT' q hq.1).1,hcc⟩⟩
theorem yF4 (h:LQ (SQR B) B S w b pv vt va T s A tn sq x) (i:Inp) (hfit:Fit i) (j:Nat) (hj3:3<=j) (hj7:j<7) (v':Value) (x':RS) (hlog:x'.log=x.log++yX (jB i)) (hleft:x'.left+1=x.left)
  (hsc:vU w (yV pv j v' 3) x'.clocks (fun q=>q<B)) (hsb:oW w (yV pv j v' 4) (x'.batches.map (·.2)) (fun q=>q<B)) (hsp:vU w (yV pv j v' 5) x'.picks (fun q=>q<B)) (hsl:vU w (yV pv j v' 6) x'.lots (fun q=>q<B)) (hbl:∀y,y∈x'.batches->y.2.length<=100000000) {k o n:Int} {fl:List Int} (ek:((i.1:Nat):Int)=k) (eo:((i.2.1:Nat):Int)=o) (en:((i.2.2.1:Nat):Int)=n) (ef:zs i.2.2.2=fl)
  (hcall:Calls Tryz.prog 146 #[.pointer (some ⟨b,0,none⟩),.int .i64 k,.int .i64 o] ((w.alloc (.cells #[.int .i64 0,.int .i64 0,.int .i64 0,.slice none 0 0] 49)).alloc (.cells #[.int .i64 0,.int .i64 0,.int .i64 0,.slice none 0 0] 49)) (WAns ((w.alloc (.cells #[.int .i64 0,.int .i64 0,.int .i64 0,.slice none 0 0] 49)).alloc (.cells #[.int .i64 0,.int .i64 0,.int .i64 0,.slice none 0 0] 49)) b (xU pv vt va s tn) k o n fl j v')) :
  Calls Tryz.prog 141 #[.pointer (some ⟨b,0,none⟩),.int .i64 k,.int .i64 o] w fun e w'=>∃fa fc,e=.returned (.agg #[.int .i64 k,.int .i64 o,.int .i64 n,.slice fa fl.length fc])/\rX (SQR B) B S w b pv vt va A tn sq {s with heard:=wrap64 (s.heard+1)} x' w'/\yJ w' (.slice fa fl.length fc) fl (fun q=>q<w'.heap.size):=by
 subst ek eo en ef
 have hb:=h.blt
 have k7:=(h.cell 7 (by omega)).trans (by rw [xB _ _ _ _ _ _ (by omega),h.src.rep])
 have f0:Fr (fun _=>False) w ((w.alloc (.cells #[.int .i64 0,.int .i64 0,.int .i64 0,.slice none 0 0] 49)).alloc (.cells #[.int .i64 0,.int .i64 0,.int .i64 0,.slice none 0 0] 49)) (fun _=>False):=((Fr.refl _ _).alloc _).alloc _
 have HC:=zZ hcall
 have hB6:B<=w.heap.size:=h.below
 obtain⟨hB,hbB⟩:=h.bound b h.inB
 obtain⟨H,hrow,hown,hfl,hlogH,hfits,hcnt⟩:=h.src.hd
 obtain⟨ha,hn,hcp,hp9,hnh⟩:=h.hc
 have hHn:H.length=hn:=by
  obtain⟨a1,c1,e1⟩:=yM hrow
  rw [hp9] at e1
  injection e1 with _ e1
  exact e1.symm
 subst hHn
 rw [hp9] at hrow hown hfl
 have HH:=zZ h
 have HSC:=zZ hsc
 have HSB:=zZ hsb
 have HSP:=zZ hsp
 have HSL:=zZ hsl
 have HBL:=zZ hbl
 have HFL:=zZ hfl
 have HOWN:=zZ hown
 have HROW:=zZ hrow
 have HFITS:=zZ hfits
 have HLOG:=zZ (hlog.trans (by rw [hlogH]))
 have HFIT:=zZ hfit
 have HCNT:=zZ hcnt
 clear h hcall hsc hsb hsp hsl hbl hfl hown hrow hfits hlog hlogH hfit
 go_enter Tryz.func141,Tryz.ntmps141
 go_wp2_with fail
 go_at_call 146
 refine(zY HC).mono ?_
 rintro e w3 ⟨fv,rfl,hc3,f3,o3⟩
 obtain⟨fa,fc,hfv⟩:=xP o3
 subst hfv
 have hz3:w.heap.size+2<=w3.heap.size:=by have:=f3.size;simp at this;omega
 have hbz:¬w.heap.size=b:=by omega
 have hbz1:¬w.heap.size+1=b:=by omega
 have x6:w3.heap[w.heap.size]?=some (.cells #[.int .i64 0,.int .i64 0,.int .i64 0,.slice none 0 0] 49):=(f3.same _ (by simp;omega) hbz).trans ((zR _ _ _ (by simp)).trans (heap_alloc_new _ _))
 have x7:w3.heap[w.heap.size+1]?=some (.cells #[.int .i64 0,.int .i64 0,.int .i64 0,.slice none 0 0] 49):=(f3.same _ (by simp) hbz1).trans (by
  have h:=heap_alloc_new (w.alloc (.cells #[.int .i64 0,.int .i64 0,.int .i64 0,.slice none 0 0] 49)) (.cells #[.int .i64 0,.int .i64 0,.int .i64 0,.slice none 0 0] 49)
  rwa [show (w.alloc (.cells #[.int .i64 0,.int .i64 0,.int .i64 0,.slice none 0 0] 49)).heap.size=w.heap.size+1 by simp] at h)
 have f03:=(f0.widen (T:=fun q=>q=b) (fun q h=>h.elim)).trans f3
 have k6:=fun j=>cell_of_row w3 _ j _ 49 (0,0) x6
 have t6:=fun j=>yB x6 j
 have k8:=fun j=>cell_of_row w3 _ j _ 49 (0,0) x7
 have t8:=fun j=>yB x7 j
 have l6:=(zN.1 x6).1
 have l8:=(zN.1 x7).1
 have hb3:b<w3.heap.size:=by omega
 have n1:¬b=w.heap.size:=by omega
 have n3:¬b=w.heap.size+1:=by omega
 have n5:¬w3.heap.size=b:=by omega
 have n6:¬w3.heap.size=w.heap.size:=by omega
 have n7:¬w3.heap.size=w.heap.size+1:=by omega
 have n8:¬b=w3.heap.size:=by omega
 have n9:¬w.heap.size=w3.heap.size:=by omega
 have n10:¬w.heap.size+1=w3.heap.size:=by omega
 have C3:=zZ hc3
 have F03:=zZ f03
 have O3:=zZ o3
 have X6:=zZ x6
 clear f03 f3 f0 HC k7 hc3 o3
 go_wp2
 have zW:(((w3.setCell ⟨w.heap.size+1,0,none⟩ (.int .i64 (i.1:Nat))).setCell ⟨w.heap.size+1,1,none⟩ (.int .i64 (i.2.1:Nat))).setCell ⟨w.heap.size+1,2,none⟩ (.int .i64 (i.2.2.1:Nat))).heap.size=w3.heap.size:=by simp [World.setCell]
 have zW':((((w3.setCell ⟨w.heap.size+1,0,none⟩ (.int .i64 (i.1:Nat))).setCell ⟨w.heap.size+1,1,none⟩ (.int .i64 (i.2.1:Nat))).setCell ⟨w.heap.size+1,2,none⟩ (.int .i64 (i.2.2.1:Nat))).setCell ⟨w.heap.size+1,3,none⟩ (.slice fa (zs i.2.2.2).length fc)).heap.size=w3.heap.size:=by simp [World.setCell]
 have y7:(((((w3.setCell ⟨w.heap.size+1,0,none⟩ (.int .i64 (i.1:Nat))).setCell ⟨w.heap.size+1,1,none⟩ (.int .i64 (i.2.1:Nat))).setCell ⟨w.heap.size+1,2,none⟩ (.int .i64 (i.2.2.1:Nat))).setCell ⟨w.heap.size+1,3,none⟩ (.slice fa (zs i.2.2.2).length fc)).alloc (.cells #[.int .i64 (i.1:Nat),.int .i64 (i.2.1:Nat),.int .i64 (i.2.2.1:Nat),.slice fa (zs i.2.2.2).length fc] 49)).heap[w.heap.size+1]?=some (.cells #[.int .i64 (i.1:Nat),.int .i64 (i.2.1:Nat),.int .i64 (i.2.2.1:Nat),.slice fa (zs i.2.2.2).length fc] 49):=(zR _ _ _ (by rw [zW'];exact l8)).trans (yD _ _ 3 _ 49 _ (yD _ _ 2 _ 49 _ (yD _ _ 1 _ 49 _ (yD _ _ 0 _ 49 _ x7))))
 have keep4:∀q,q<w3.heap.size->q≠w.heap.size+1->(((((w3.setCell ⟨w.heap.size+1,0,none⟩ (.int .i64 (i.1:Nat))).setCell ⟨w.heap.size+1,1,none⟩ (.int .i64 (i.2.1:Nat))).setCell ⟨w.heap.size+1,2,none⟩ (.int .i64 (i.2.2.1:Nat))).setCell ⟨w.heap.size+1,3,none⟩ (.slice fa (zs i.2.2.2).length fc)).alloc (.cells #[.int .i64 (i.1:Nat),.int .i64 (i.2.1:Nat),.int .i64 (i.2.2.1:Nat),.slice fa (zs i.2.2.2).length fc] 49)).heap[q]?=w3.heap[q]?:=fun q hq hne=>(zR _ _ _ (by rw [zW'];exact hq)).trans ((zQ _ _ _ _ hne).trans ((zQ _ _ _ _ hne).trans ((zQ _ _ _ _ hne).trans (zQ _ _ _ _ hne))))
 have y6:=(keep4 w.heap.size l6 (by omega)).trans x6
 have cells4:LAt (((((w3.setCell ⟨w.heap.size+1,0,none⟩ (.int .i64 (i.1:Nat))).setCell ⟨w.heap.size+1,1,none⟩ (.int .i64 (i.2.1:Nat))).setCell ⟨w.heap.size+1,2,none⟩ (.int .i64 (i.2.2.1:Nat))).setCell ⟨w.heap.size+1,3,none⟩ (.slice fa (zs i.2.2.2).length fc)).alloc (.cells #[.int .i64 (i.1:Nat),.int .i64 (i.2.1:Nat),.int .i64 (i.2.2.1:Nat),.slice fa (zs i.2.2.2).length fc] 49)) b (yV (xU pv vt va s tn) j v'):=(zY C3).block (keep4 b hb3 n3)
 have f04:Fr (fun q=>q=b) w (((((w3.setCell ⟨w.heap.size+1,0,none⟩ (.int .i64 (i.1:Nat))).setCell ⟨w.heap.size+1,1,none⟩ (.int .i64 (i.2.1:Nat))).setCell ⟨w.heap.size+1,2,none⟩ (.int .i64 (i.2.2.1:Nat))).setCell ⟨w.heap.size+1,3,none⟩ (.slice fa (zs i.2.2.2).length fc)).alloc (.cells #[.int .i64 (i.1:Nat),.int .i64 (i.2.1:Nat),.int .i64 (i.2.2.1:Nat),.slice fa (zs i.2.2.2).length fc] 49)) (fun q=>q=b):=(((((zY F03).setCell ⟨w.heap.size+1,0,none⟩ _ (.inr (by show w.heap.size<=w.heap.size+1;omega))).setCell ⟨w.heap.size+1,1,none⟩ _ (.inr (by show w.heap.size<=w.heap.size+1;omega))).setCell ⟨w.heap.size+1,2,none⟩ _ (.inr (by show w.heap.size<=w.heap.size+1;omega))).setCell ⟨w.heap.size+1,3,none⟩ _ (.inr (by show w.heap.size<=w.heap.size+1;omega))).alloc _
 have hge2:∀q,own (.slice fa (zs i.2.2.2).length fc) q->w.heap.size+2<=q:=fun q hq=>by have:=(zS (zY O3) q hq).1;simpa using this
 have o4:yR (((((w3.setCell ⟨w.heap.size+1,0,none⟩ (.int .i64 (i.1:Nat))).setCell ⟨w.heap.size+1,1,none⟩ (.int .i64 (i.2.1:Nat))).setCell ⟨w.heap.size+1,2,none⟩ (.int .i64 (i.2.2.1:Nat))).setCell ⟨w.heap.size+1,3,none⟩ (.slice fa (zs i.2.2.2).length fc)).alloc (.cells #[.int .i64 (i.1:Nat),.int .i64 (i.2.1:Nat),.int .i64 (i.2.2.1:Nat),.slice fa (zs i.2.2.2).length fc] 49)) (w.heap.size+2) (.slice fa (zs i.2.2.2).length fc) (zs i.2.2.2):=by
  have h1:yR w3 (w.heap.size+2) (.slice fa (zs i.2.2.2).length fc) (zs i.2.2.2):=by have:=zY O3;simpa using this
  exact yA h1 (fun q hq=>keep4 q (zS h1 q hq).2 (by have:=hge2 q hq;omega))
 have hz4:w.heap.size+2<=(((((w3.setCell ⟨w.heap.size+1,0,none⟩ (.int .i64 (i.1:Nat))).setCell ⟨w.heap.size+1,1,none⟩ (.int .i64 (i.2.1:Nat))).setCell ⟨w.heap.size+1,2,none⟩ (.int .i64 (i.2.2.1:Nat))).setCell ⟨w.heap.size+1,3,none⟩ (.slice fa (zs i.2.2.2).length fc)).alloc (.cells #[.int .i64 (i.1:Nat),.int .i64 (i.2.1:Nat),.int .i64 (i.2.2.1:Nat),.slice fa (zs i.2.2.2).length fc] 49)).heap.size:=by have:=f04.size;simp [World.setCell];omega
 clear keep4 zW zW' C3 F03 O3 X6 k6 t6 k8 t8 x6 x7 l6 l8
 generalize hW4:((((w3.setCell ⟨w.heap.size+1,0,none⟩ (.int .i64 (i.1:Nat))).setCell ⟨w.heap.size+1,1,none⟩ (.int .i64 (i.2.1:Nat))).setCell ⟨w.heap.size+1,2,none⟩ (.int .i64 (i.2.2.1:Nat))).setCell ⟨w.heap.size+1,3,none⟩ (.slice fa (zs i.2.2.2).length fc)).alloc (.cells #[.int .i64 (i.1:Nat),.int .i64 (i.2.1:Nat),.int .i64 (i.2.2.1:Nat),.slice fa (zs i.2.2.2).length fc] 49)=W4 at *
 clear hW4
 have hrow4:W4.ownsRow B 49 4 (.slice ha H.length hcp) H.length (xS H):=yA (zY HROW) (fun q hq=>f04.same q (zS (zY HROW) q hq).2 (fun e=>((zY HH).inT q (zY HOWN q hq)).2 e))
 have cb:=fun i hi=>(cells4 i hi).1
 have c9:=(cells4 9 (by omega)).1
 have e9:yV (xU pv vt va s tn) j v' 9=.slice ha H.length hcp:=by unfold yV;rw [if_neg (by omega),xB _ _ _ _ _ _ (by omega),hp9]
 rw [e9] at c9
 have z9:=(cells4 9 (by omega)).2
 have l6:=(zN.1 y6).1
 have l7:=(zN.1 y7).1
 have Y7:=zZ y7
 have Y6:=zZ y6
 have R4:=zZ hrow4
 have C4:=zZ cells4
 have F04:=zZ f04
 have O4:=zZ o4
 have HGE2:=zZ hge2
 have hBW4:B<=W4.heap.size:=by omega
 have hb4:b<W4.heap.size:=by omega
 clear hrow4 cells4 f04 o4 y6 y7 e9 cb hge2
 have hq7:∀o,(W4.alloc o).drew.heap[w.heap.size+1]?=some (.cells #[.int .i64 (i.1:Nat),.int .i64 (i.2.1:Nat),.int .i64 (i.2.2.1:Nat),.slice fa (zs i.2.2.2).length fc] 49):=fun o=>(zR W4 o _ l7).trans (zY Y7)
 have cq9:∀o,(W4.alloc o).drew.cell? ⟨b,9,none⟩=some (.slice ha H.length hcp):=fun o=>(zO (w:=W4) (a:=⟨b,9,none⟩) (zR W4 o _ hb4)).trans c9
 refine wp_region_held_drew (S:=fun w'=>w'.heap[w.heap.size+1]?=some (.cells #[.int .i64 (i.1:Nat),.int .i64 (i.2.1:Nat),.int .i64 (i.2.2.1:Nat),.slice fa (zs i.2.2.2).length fc] 49)) (by kernel_rfl) ?_ (fun hHeld=>?_)
 ·exact zY Y7
 refine zA (i:=0) (oi:={dst:=some 87,op:=.move (.tmp 0),type:=177,pos:= "run.go:167",after:=#[],guard:=none}) ?_
 simp only [Act.put,zC,zD,zE]
 refine zA (i:=1) (oi:={dst:=some 88,op:=.move (.tmp 0),type:=177,pos:= "run.go:167",after:=#[],guard:=none}) ?_
 simp only [Act.put,zC,zD,zE]
 refine zA (i:=2) (oi:={dst:=some 89,op:=.nilCheck (.tmp 88),type:=0,pos:= "run.go:167",after:=#[zG 1],guard:=none}) ?_
 simp only [Act.put,zC,zD,zE]
 refine zA (i:=3) (oi:={dst:=some 90,op:=.fieldAddr 180 (.tmp 89) 4,type:=0,pos:= "run.go:167",after:=#[zG 2],guard:=none}) ?_
 simp only [Act.put,zC,zD,zE]
 refine zB (i:=5) (oi:={dst:=some 92,op:=.load 49 (.tmp 7),type:=49,pos:= "run.go:167",after:=#[],guard:=none}) ?_
 simp only [Act.put,zC,zD,zE]
 refine wpAnyH_ready (rs:=[4,6]) (by kernel_rfl) (by simp) ?_
 refine AllReadyH.cons (o:={dst:=some 91,op:=.load 44 (.tmp 90),type:=44,pos:= "run.go:167",after:=#[zG 3],guard:=none}) rfl (fun K' hK'=>?_) (AllReadyH.cons (o:={dst:=some 93,op:=.buildSlice 44 1 #[(0,.tmp 92)],type:=44,pos:= "run.go:167",after:=#[zG 5],guard:=none}) rfl (fun K' hK'=>?_) AllReadyH.nil)
 focus
  go_simp
  refine hK'.out _ _ ?_ (fun hHeld=>?_)
  ·exact zY Y7
  clear hK' K'
  try simp only [Act.put,zC,zD,zE]
  refine zL (i:=6) (o:={dst:=some 93,op:=.buildSlice 44 1 #[(0,.tmp 92)],type:=44,pos:= "run.go:167",after:=#[zG 5],guard:=none}) (fun K' hK'=>?_)
 rotate_left
 focus
  go_simp
  refine hK'.out _ _ ?_ (fun hHeld=>?_)
  ·exact hq7 _
  clear hK' K'
  try simp only [Act.put,zC,zD,zE]
  refine zL (i:=4) (o:={dst:=some 91,op:=.load 44 (.tmp 90),type:=44,pos:= "run.go:167",after:=#[zG 3],guard:=none}) (fun K' hK'=>?_)
 rotate_left
 all_goals
  go_simp
  refine hK'.out _ _ ?_ (fun hHeld=>?_)
  ·exact hq7 _
  clear hK' K'
  try simp only [Act.put,zC,zD,zE]
  refine zL (i:=7) (o:={dst:=some 94,op:=.call {callee:=.builtin .append,args:=#[.tmp 91,.tmp 93],argTypes:=#[44,44]},type:=44,pos:= "run.go:167",after:=#[zG 4,zG 6],guard:=none}) (fun K' hK'=>?_)
  refine xK (d:=94) rfl rL (by decide) (by decide) (v:=.slice ha H.length hcp) (n:=H.length) (m:=1) (xs:=xS H) (news:=[.int .i64 (i.1:Nat),.int .i64 (i.2.1:Nat),.int .i64 (i.2.2.1:Nat),.slice fa (zs i.2.2.2).length fc]) (B:=B) (ad:=⟨W4.heap.size,0,none⟩) (cap:=1) rfl (.tmp 91) (.tmp 93) rfl rfl rfl (World.ownsRow.alloc (zY R4) (.cells #[.int .i64 (i.1:Nat),.int .i64 (i.2.1:Nat),.int .i64 (i.2.2.1:Nat),.slice fa (zs i.2.2.2).length fc] 49)) rfl (World.news_of_block (heap_alloc_new W4 _)) (by simp [Value.oneCell']) (by omega) (by omega) (by show B<=(W4.alloc _).heap.size;simp;omega) ?_
  intro v5 w5 o5 f5 sh5
  obtain⟨av,cv,rfl⟩:=sh5
  have hb5:w5.heap[b]?=W4.heap[b]?:=(f5.same b (by show b<(W4.alloc _).heap.size;simp;omega) (fun e=>((zY HH).inT b (zY HOWN b e)).2 rfl)).trans (zR W4 _ _ hb4)
  have p9:=(zO (w:=W4) (a:=⟨b,9,none⟩) hb5).trans c9
  have pz9:=(zP (w:=W4) (a:=⟨b,9,none⟩) hb5).trans z9
  have nown:∀q,w.heap.size<=q->¬own (.slice ha H.length hcp) q:=fun q hq e=>by have:=(zS (zY HROW) q e).2;omega
  have g7:w5.heap[w.heap.size+1]?=some (.cells #[.int .i64 (i.1:Nat),.int .i64 (i.2.1:Nat),.int .i64 (i.2.2.1:Nat),.slice fa (zs i.2.2.2).length fc] 49):=(f5.same _ (by show _<(W4.alloc _).heap.size;simp;omega) (nown _ (by omega))).trans (hq7 _)
  have g6:w5.heap[w.heap.size]?=_:=(f5.same _ (by show _<(W4.alloc _).heap.size;simp;omega) (nown _ (Nat.le_refl _))).trans ((zR W4 _ _ l6).trans (zY Y6))
  have O5:=zZ o5
  have F5:=zZ f5
  have NOWN:=zZ nown
  have HB5:=zZ hb5
  have G6:=zZ g6
  have G7:=zZ g7
  have k6:=fun j=>cell_of_row w5 _ j _ 49 (0,0) g6
  have t6:=fun j=>yB g6 j
  have k7:=fun j=>cell_of_row w5 _ j _ 49 (0,0) g7
  have l6':=(zN.1 g6).1
  have l7':=(zN.1 g7).1
  clear o5 f5 nown hb5
  refine hK'.out _ _ g7 (fun hHeld=>?_)
  clear hK' K'
  simp only [zC,zD,zE]
  refine zA (i:=8) (oi:={dst:=some 95,op:=.nilCheck (.tmp 87),type:=0,pos:= "run.go:167",after:=#[zG 0,zF 0,zF 1,zF 2,zF 3,zF 4,zF 5,zF 6,zF 7],guard:=none}) ?_
  simp only [Act.put,zC,zD,zE]
  refine zA (i:=9) (oi:={dst:=some 96,op:=.fieldAddr 180 (.tmp 95) 4,type:=0,pos:= "run.go:167",after:=#[zG 8,zF 0,zF 1,zF 2,zF 3,zF 4,zF 5,zF 6,zF 7],guard:=none}) ?_
  simp only [Act.put,zC,zD,zE]
  refine zL (i:=10) (o:={dst:=none,op:=.store 44 (.tmp 96) (.tmp 94),type:=0,pos:= "run.go:167",after:=#[zG 9,zG 7,zM 7,zF 0,zF 1,zF 2,zF 3,zF 4,zF 5,zF 6,zF 7],guard:=none}) (fun K' hK'=>?_)
  go_simp
  refine hK'.out _ _ ?_ (fun hHeld=>?_)
  ·exact(zQ _ _ _ _ hbz1).trans g7
  clear hK' K'
  try simp only [Act.put,zC,zD,zE]
  refine wpAnyH_done (by kernel_rfl) ?_ _
  clear g6 g7
  go_wp2
  have y6:(((((w5.setCell ⟨b,9,none⟩ (.slice av (H.length+1) cv)).setCell ⟨w.heap.size,0,none⟩ (.int .i64 (i.1:Nat))).setCell ⟨w.heap.size,1,none⟩ (.int .i64 (i.2.1:Nat))).setCell ⟨w.heap.size,2,none⟩ (.int .i64 (i.2.2.1:Nat))).setCell ⟨w.heap.size,3,none⟩ (.slice fa (zs i.2.2.2).length fc)).heap[w.heap.size]?=some (.cells #[.int .i64 (i.1:Nat),.int .i64 (i.2.1:Nat),.int .i64 (i.2.2.1:Nat),.slice fa (zs i.2.2.2).length fc] 49):=yD _ _ 3 _ 49 _ (yD _ _ 2 _ 49 _ (yD _ _ 1 _ 49 _ (yD _ _ 0 _ 49 _ ((zQ _ _ _ _ hbz).trans (zY G6)))))
  have ky:=fun j=>cell_of_row _ _ j _ 49 (0,0) y6
  have hfin:=zF7 (ob:=(.cells #[.int .i64 (i.1:Nat),.int .i64 (i.2.1:Nat),.int .i64 (i.2.2.1:Nat),.slice fa (zs i.2.2.2).length fc] 49)) (zY HH) (zY HFIT) hj3 hj7 hleft (zY HSC) (zY HSB) (zY HSP) (zY HSL) (zY HBL) (zY HROW) (zY HOWN) (zY HFL) (zY HLOG) (zY HFITS) (zY HCNT) hnh (zY C4) (zY F04) (zY O4) hz4 (zY O5) ⟨av,cv,rfl⟩ (zY F5) (.int .i64 (i.1:Nat)) (.int .i64 (i.2.1:Nat)) (.int .i64 (i.2.2.1:Nat)) (.slice fa (zs i.2.2.2).length fc)
  have HFIN:=zZ hfin
  clear hfin
  refine bodyPost_ret (v:=.agg #[.int .i64 (i.1:Nat),.int .i64 (i.2.1:Nat),.int .i64 (i.2.2.1:Nat),.slice fa (zs i.2.2.2).length fc]) (by simp [results,Tryz.results141,go_sem,ky]) rfl ?_
  exact⟨fa,fc,rfl,(zY HFIN).1,(zY HFIN).2⟩
end
end Go.Proofs.YtfmbebofllgmoaaGreatDoor
namespace Go.Proofs.YtfmbebofllgmoaaGreatDoor
open Go.RowKit
section
variable {B:Nat} {S T:Nat->Prop} {w:World} {b:Nat} {pv:Nat->Value} {vt va:Value} {s:PS} {A:List AT} {tn sq:Int} {x:RS}
def HAns (B:Nat) (S:Nat->Prop) (w:World) (b:Nat) (pv:Nat->Value) (vt va:Value) (A:List AT) (tn sq:Int) (s:PS) (R:Rep) (x':RS) (e:Ending) (w':World):Prop:=
 ∃kd of_ n fa fl fc,e=.returned (.agg #[.int .i64 kd,.int .i64 of_,.int .i64 n,.slice fa fl fc])/\rX (SQR B) B S w b pv vt va A tn sq (sQ s R) x' w'/\(R.e=0->n=R.n/\yJ w' (.slice fa fl fc) R.files (fun q=>q<w'.heap.size))
theorem rec_no (h:LQ (SQR B) B S w b pv vt va T s A tn sq x) (k o:Int) (a0 a1 a2:Int)
  (hcall:∀W,Fr (fun _=>False) w W (fun _=>False)->Calls Tryz.prog 146 #[.pointer (some ⟨b,0,none⟩),.int .i64 k,.int .i64 o] W fun e w'=>e=.returned (.tuple #[.agg #[.int .i64 a0,.int .i64 a1,.int .i64 a2,.slice none 0 0],.bool false])/\Fr (fun _=>False) W w' (fun _=>False)) :
  Calls Tryz.prog 141 #[.pointer (some ⟨b,0,none⟩),.int .i64 k,.int .i64 o] w (HAns B S w b pv vt va A tn sq s xC x):=by
 refine(yF3 h k o a0 a1 a2 hcall).mono ?_
 rintro e w' ⟨rfl,hl⟩
 exact⟨0,0,0,none,0,0,rfl,hl,fun h=>absurd h (by decide)⟩
theorem fU (h:LQ (SQR B) B S w b pv vt va T s A tn sq x) {k o:Int} {R:Rep} {x':RS} (hR:(yG x k o)=(R,x')) (he:R.e=0) (hm:zB1 k o) (hlog:x'.log=x.log++yX (jB (qL R))) (j:Nat) (hj3:3<=j) (hj7:j<7) (v':Value)
  (hsc:vU w (yV pv j v' 3) x'.clocks (fun q=>q<B)) (hsb:oW w (yV pv j v' 4) (x'.batches.map (·.2)) (fun q=>q<B)) (hsp:vU w (yV pv j v' 5) x'.picks (fun q=>q<B)) (hsl:vU w (yV pv j v' 6) x'.lots (fun q=>q<B)) (hbl:∀y,y∈x'.batches->y.2.length<=100000000)
  (hcall:Calls Tryz.prog 146 #[.pointer (some ⟨b,0,none⟩),.int .i64 k,.int .i64 o] ((w.alloc (.cells #[.int .i64 0,.int .i64 0,.int .i64 0,.slice none 0 0] 49)).alloc (.cells #[.int .i64 0,.int .i64 0,.int .i64 0,.slice none 0 0] 49)) (WAns ((w.alloc (.cells #[.int .i64 0,.int .i64 0,.int .i64 0,.slice none 0 0] 49)).alloc (.cells #[.int .i64 0,.int .i64 0,.int .i64 0,.slice none 0 0] 49)) b (xU pv vt va s tn) k o R.n R.files j v')) :
  Calls Tryz.prog 141 #[.pointer (some ⟨b,0,none⟩),.int .i64 k,.int .i64 o] w (HAns B S w b pv vt va A tn sq s R x'):=by
 have ha:=zS6 (x:=x) hm (by rw [hR];exact he)
 rw [hR] at ha
 obtain⟨a1,a2,a3,a4,a5,_,a7⟩:=ha
 dsimp only at a1 a2 a3 a4 a5 a7
 have e1:=congrArg Rep.kind a5
 have e2:=congrArg Rep.of a5
 have e3:=congrArg Rep.n a5
 have e4:=congrArg Rep.files a5
 refine(yF4 h (qL R) a3 j hj3 hj7 v' x' hlog a7 hsc hsb hsp hsl hbl (k:=k) (o:=o) (n:=R.n) (fl:=R.files) (e1.trans a1) (e2.trans a2) e3 e4 hcall).mono ?_
 rintro e w' ⟨fa,fc,rfl,h1,h2⟩
 refine⟨k,o,R.n,fa,R.files.length,fc,rfl,?_,fun _=>⟨rfl,h2⟩⟩
 have e5:sQ s R={s with heard:=wrap64 (s.heard+1)}:=by unfold sQ;rw [if_pos he]
 rw [e5]
 exact h1
theorem kH (pv:Nat->Value) (j:Nat) (v:Value):yV pv j v j=v:=by unfold yV;rw [if_pos rfl]
theorem sX (pv:Nat->Value) {j k:Nat} (v:Value) (h:k≠j):yV pv j v k=pv k:=by unfold yV;rw [if_neg h]
theorem zZ7 (B:Nat):eB (SQR B) yG zB1 B:=⟨fun {S T w b pv vt va s A tn sq x k o} h hf hm=>by
 have f0:Fr (fun _=>False) w ((w.alloc (.cells #[.int .i64 0,.int .i64 0,.int .i64 0,.slice none 0 0] 49)).alloc (.cells #[.int .i64 0,.int .i64 0,.int .i64 0,.slice none 0 0] 49)) (fun _=>False):=((Fr.refl _ _).alloc _).alloc _
 have hW:=h.fr (SQR.law B) f0
 have hB:=h.below
 have hbB:=(h.bound b h.inB).1
 have hP:∀q,q<B->q<((w.alloc (.cells #[.int .i64 0,.int .i64 0,.int .i64 0,.slice none 0 0] 49)).alloc (.cells #[.int .i64 0,.int .i64 0,.int .i64 0,.slice none 0 0] 49)).heap.size/\q≠b:=fun q hq=>⟨by have:=f0.size;omega,by omega⟩
 have hback:∀q,q<B->w.heap[q]?=((w.alloc (.cells #[.int .i64 0,.int .i64 0,.int .i64 0,.slice none 0 0] 49)).alloc (.cells #[.int .i64 0,.int .i64 0,.int .i64 0,.slice none 0 0] 49)).heap[q]?:=fun q hq=>(f0.same q (by omega) (fun h=>h)).symm
 have hno:∀{k o:Int},yG x k o=(xC,x)->(∀W,Fr (fun _=>False) w W (fun _=>False)->Calls Tryz.prog 146 #[.pointer (some ⟨b,0,none⟩),.int .i64 k,.int .i64 o] W fun e w'=>e=.returned (.tuple #[.agg #[.int .i64 k,.int .i64 o,.int .i64 0,.slice none 0 0],.bool false])/\Fr (fun _=>False) W w' (fun _=>False))->Calls Tryz.prog 141 #[.pointer (some ⟨b,0,none⟩),.int .i64 k,.int .i64 o] w (HAns B S w b pv vt va A tn sq s (yG x k o).1 (yG x k o).2):=fun e hc=>by rw [e];exact rec_no h _ _ _ _ _ hc
 show Calls Tryz.prog 141 _ w (HAns B S w b pv vt va A tn sq s (yG x k o).1 (yG x k o).2)
 have hmm:=hm
 rcases hm with ⟨rfl,rfl⟩ | ⟨rfl,rfl⟩ | ⟨rfl,h2,h8⟩ | ⟨rfl,h1,hM⟩
 ·cases hx:x.clocks with
  | nil=>
   exact hno (by simp [yG,hx]) (fun W hF=>yR7 (c:=xU pv vt va s tn) (P:=fun q=>q<B) (h.fr (SQR.law B) hF).cells (by rw [xB _ _ _ _ _ _ (by omega)];have:=(h.fr (SQR.law B) hF).src.c;rw [hx] at this;exact this))
  | cons z r=>
   have hR:yG x 1 0=(⟨1,0,vO z,[],0⟩,{x with clocks:=r,log:=x.log++yX (yY 1 0 (vO z).toNat)}):=by simp [yG,hx]
   have hsrc:vU ((w.alloc (.cells #[.int .i64 0,.int .i64 0,.int .i64 0,.slice none 0 0] 49)).alloc (.cells #[.int .i64 0,.int .i64 0,.int .i64 0,.slice none 0 0] 49)) (xU pv vt va s tn 3) (z::r) (fun q=>q<B):=by rw [xB _ _ _ _ _ _ (by omega)];have:=hW.src.c;rw [hx] at this;exact this
   obtain⟨v',hv',hcall⟩:=world1 hW.cells hP hsrc
   rw [hR]
   exact fU h hR rfl hmm rfl 3 (by omega) (by omega) v' (by rw [kH];exact hv'.keep hback) (by rw [sX _ _ (by omega)];exact h.src.b) (by rw [sX _ _ (by omega)];exact h.src.p) (by rw [sX _ _ (by omega)];exact h.src.l) h.src.bl hcall
 ·cases hx:x.batches with
  | nil=>
   exact hno (by simp [yG,hx]) (fun W hF=>yR8 (c:=xU pv vt va s tn) (P:=fun q=>q<B) (h.fr (SQR.law B) hF).cells (by rw [xB _ _ _ _ _ _ (by omega)];obtain⟨vals,h1,h2,_⟩:=(h.fr (SQR.law B) hF).src.b;rw [hx] at h2;obtain rfl:vals=[]:=List.eq_nil_of_length_eq_zero (by simpa using h2);exact h1))
  | cons z r=>
   have hR:yG x 2 0=(⟨2,0,0,vH z.2,0⟩,{x with batches:=r,log:=x.log++yX (tP (vH z.2))}):=by simp [yG,hx]
   have hsrc:oW ((w.alloc (.cells #[.int .i64 0,.int .i64 0,.int .i64 0,.slice none 0 0] 49)).alloc (.cells #[.int .i64 0,.int .i64 0,.int .i64 0,.slice none 0 0] 49)) (xU pv vt va s tn 4) (z.2::r.map (·.2)) (fun q=>q<B):=by rw [xB _ _ _ _ _ _ (by omega)];have:=hW.src.b;rw [hx] at this;exact this
   obtain⟨v',hv',hcall⟩:=world2 hW.cells hP (h.src.bl z (by rw [hx];simp)) hsrc
   rw [hR]
   exact fU h hR rfl hmm (by show x.log++_=x.log++yX (tP (zs ((vH z.2).map Int.toNat)));rw [iL _ (fun y hy=>(rZ z.2 y hy).1)]) 4 (by omega) (by omega) v' (by rw [sX _ _ (by omega)];exact h.src.c) (by rw [kH];exact hv'.keep hback) (by rw [sX _ _ (by omega)];exact h.src.p) (by rw [sX _ _ (by omega)];exact h.src.l) (fun y hy=>h.src.bl y (by rw [hx];exact List.mem_cons_of_mem _ hy)) hcall
 ·cases hx:x.picks with
  | nil=>
   exact hno (by simp [yG,hx]) (fun W hF=>yR9 (c:=xU pv vt va s tn) (P:=fun q=>q<B) (h.fr (SQR.law B) hF).cells o (by rw [xB _ _ _ _ _ _ (by omega)];have:=(h.fr (SQR.law B) hF).src.p;rw [hx] at this;exact this))
  | cons z r=>
   have hR:yG x 3 o=(⟨3,o,z % o,[],0⟩,{x with picks:=r,log:=x.log++yX (yY 3 o.toNat (z % o).toNat)}):=by simp [yG,hx]
   have hsrc:vU ((w.alloc (.cells #[.int .i64 0,.int .i64 0,.int .i64 0,.slice none 0 0] 49)).alloc (.cells #[.int .i64 0,.int .i64 0,.int .i64 0,.slice none 0 0] 49)) (xU pv vt va s tn 5) (z::r) (fun q=>q<B):=by rw [xB _ _ _ _ _ _ (by omega)];have:=hW.src.p;rw [hx] at this;exact this
   obtain⟨v',hv',hcall⟩:=world3 hW.cells hP o (by omega) (by omega) hsrc
   rw [hR]
   exact fU h hR rfl hmm rfl 5 (by omega) (by omega) v' (by rw [sX _ _ (by omega)];exact h.src.c) (by rw [sX _ _ (by omega)];exact h.src.b) (by rw [kH];exact hv'.keep hback) (by rw [sX _ _ (by omega)];exact h.src.l) h.src.bl hcall
 ·cases hx:x.lots with
  | nil=>
   exact hno (by simp [yG,hx]) (fun W hF=>yS0 (c:=xU pv vt va s tn) (P:=fun q=>q<B) (h.fr (SQR.law B) hF).cells o (by rw [xB _ _ _ _ _ _ (by omega)];have:=(h.fr (SQR.law B) hF).src.l;rw [hx] at this;exact this))
  | cons z r=>
   have hR:yG x 4 o=(⟨4,o,z % o,[],0⟩,{x with lots:=r,log:=x.log++yX (yY 4 o.toNat (z % o).toNat)}):=by simp [yG,hx]
   have hsrc:vU ((w.alloc (.cells #[.int .i64 0,.int .i64 0,.int .i64 0,.slice none 0 0] 49)).alloc (.cells #[.int .i64 0,.int .i64 0,.int .i64 0,.slice none 0 0] 49)) (xU pv vt va s tn 6) (z::r) (fun q=>q<B):=by rw [xB _ _ _ _ _ _ (by omega)];have:=hW.src.l;rw [hx] at this;exact this
   obtain⟨v',hv',hcall⟩:=world4 hW.cells hP o (by omega) (by omega) hsrc
   rw [hR]
   exact fU h hR rfl hmm rfl 6 (by omega) (by omega) v' (by rw [sX _ _ (by omega)];exact h.src.c) (by rw [sX _ _ (by omega)];exact h.src.b) (by rw [sX _ _ (by omega)];exact h.src.p) (by rw [kH];exact hv'.keep hback) h.src.bl hcall⟩
end
end Go.Proofs.YtfmbebofllgmoaaGreatDoor
namespace Go.Proofs.YtfmbebofllgmoaaGreatDoor
open Go.RowKit
attribute [local go_sem ↓] Go.wp_at_zero Go.wp_at_succ
theorem eW:∀(A:List (Inp×Value)) (i:Nat) (p:Inp×Value),A[i]?=some p->(xS A)[i*4]?=some (.int .i64 p.1.1)/\(xS A)[i*4+1]?=some (.int .i64 p.1.2.1)/\(xS A)[i*4+2]?=some (.int .i64 p.1.2.2.1)/\(xS A)[i*4+3]?=some p.2
 | [],i,p,h=>by simp at h
 | x::r,0,p,h=>by
  simp at h
  subst h
  exact⟨rfl,rfl,rfl,rfl⟩
 | x::r,i+1,p,h=>by
  have hr:=eW r i p (by simpa using h)
  have e:∀j,(xS (x::r))[(i+1)*4+j]?=(xS r)[i*4+j]?:=fun j=>by
   rw [show (i+1)*4+j=(i*4+j)+4 by omega];rfl
  exact⟨(e 0).trans hr.1,(e 1).trans hr.2.1,(e 2).trans hr.2.2.1,(e 3).trans hr.2.2.2⟩
theorem yO4 {i:Inp} (hf:Fit i):bs (jB i)=xI i:=by
 obtain⟨k,o,n,fs⟩:=i
 unfold jB
 rcases hf with ⟨h1,h2,h3,h4⟩ | ⟨h1,h2,h3,h4⟩ | ⟨h1,h2,h3,h4,h5⟩ | ⟨h1,h2,h3,h4,h5⟩ | ⟨h1,h2,h3,h4,h5⟩
 ·dsimp only at *
  subst h1 h2 h4
  rw [if_neg (by omega)]
  exact nC 1 0 _ [] (.inl rfl)
 ·dsimp only at *
  subst h1 h2
  have e:(zs fs).map Int.toNat=fs:=by
   unfold zs
   rw [List.map_map]
   conv=>rhs;rw [<-List.map_id fs]
   apply List.map_congr_left
   intro z _
   simp
  rw [if_pos rfl,jP (zs fs) 0 n,e]
 ·dsimp only at *
  subst h1 h5
  rw [if_neg (by omega)]
  exact nD 3 o n [] (.inl rfl)
 ·dsimp only at *
  subst h1 h5
  rw [if_neg (by omega)]
  exact nD 4 o n [] (.inr rfl)
 ·dsimp only at *
  subst h1 h2 h5
  rw [if_neg (by omega)]
  exact nC 5 0 _ [] (.inr rfl)
theorem bU {i:Inp} (hf:Fit i):(jB i).size<=10:=by
 have:=nB hf
 rw [<-yO4 hf,vA] at this
 omega
theorem zF8 {i:Inp} (hf:Fit i) {W:World} {fv:Value} {P:Nat->Prop} (hP:∀q,P q->q<W.heap.size) (hl:yJ W fv (zs i.2.2.2) P):Calls Tryz.prog 112 #[.agg #[.int .i64 (i.1:Nat),.int .i64 (i.2.1:Nat),.int .i64 (i.2.2.1:Nat),fv]] W fun e w'=>e=.returned (.string (jB i))/\Fr (fun _=>False) W w' (fun _=>False):=by
 obtain⟨a,c,hv,_⟩:=id hl
 have hfl:=hf.files
 obtain⟨k,o,n,fs⟩:=i
 unfold jB
 rcases hf with ⟨h1,h2,h3,h4⟩ | ⟨h1,h2,h3,h4⟩ | ⟨h1,h2,h3,h4,h5⟩ | ⟨h1,h2,h3,h4,h5⟩ | ⟨h1,h2,h3,h4,h5⟩
 ·dsimp only at *
  subst h1
  rw [if_neg (by omega)]
  exact mW 1 o n fv a _ c hv (.inl rfl) (by omega) W
 ·dsimp only at *
  subst h1
  rw [if_pos rfl]
  refine kX o n fv (zs fs) W hP hl (by rw [xM];exact hfl.1) (fun z hz=>?_)
  unfold zs at hz
  obtain⟨y,hy,rfl⟩:=List.mem_map.1 hz
  have:=hfl.2 y hy
  show (0:Int)<=(y:Int)/\(y:Int)<8
  exact⟨by omega,by omega⟩
 ·dsimp only at *
  subst h1
  rw [if_neg (by omega)]
  exact jN 3 o n fv a _ c hv (.inl rfl) (by omega) (by omega) W
 ·dsimp only at *
  subst h1
  rw [if_neg (by omega)]
  exact jN 4 o n fv a _ c hv (.inr rfl) (by omega) (by omega) W
 ·dsimp only at *
  subst h1
  rw [if_neg (by omega)]
  exact mW 5 o n fv a _ c hv (.inr rfl) (by omega) W
theorem zQ1 {w:World} {B:Nat} {vh:Value} {H:List (Inp×Value)} {P:Nat->Prop} (hrow:w.ownsRow B 49 4 vh H.length (xS H)) (hcnt:H.length<=20000000) (hfit:∀y,y∈H->Fit y.1) (hP:∀q,P q->q<w.heap.size) (hfl:∀y,y∈H->yJ w y.2 (zs y.1.2.2.2) P) (e:Int) (he1:1<=e) (he5:e<=5) :
  Calls Tryz.prog 108 #[vh,.int .i64 e] w fun r w'=>r=.returned (.string (qT H++yX (yY 5 0 e.toNat)))/\Fr (fun _=>False) w w' (fun _=>False):=by
 obtain⟨ha,hc,rfl⟩:=yM hrow
 have hbody:∀y,y∈H->∀W,Fr (fun _=>False) w W (fun _=>False)->Calls Tryz.prog 112 #[.agg #[.int .i64 (y.1.1:Nat),.int .i64 (y.1.2.1:Nat),.int .i64 (y.1.2.2.1:Nat),y.2]] W fun e w'=>e=.returned (.string (jB y.1))/\Fr (fun _=>False) W w' (fun _=>False):=fun y hy W hW=>
  zF8 (hfit y hy) (fun q hq=>zT (hP q hq) hW.size) (yQ (hfl y hy) (fun q hq=>hW.same q (hP q hq) (fun h=>h)) (fun _ h=>h))
 have HR:=zZ hrow
 have HB:=zZ hbody
 have HFIT:=zZ hfit
 have hend:=fun W=>mW 5 0 e.toNat (.slice none 0 0) none 0 0 rfl (.inr rfl) (by omega) W
 have hee:((e.toNat:Nat):Int)=e:=by omega
 rw [hee] at hend
 have hfe:(yY 5 0 e.toNat).size<=10:=by
  have:=bU (i:=(5,0,e.toNat,[])) (fL e.toNat (by omega) (by omega))
  exact this
 have HE:=zZ hend
 clear hrow hbody hfit hfl hP hend hee
 go_enter Tryz.func108,Tryz.ntmps108
 go_wp2
 go_loopw [5,6] (fun u i wr=>∃k:Nat,k<=H.length/\i=.int .i64 k/\u=.string (qT (H.take k))/\(qT (H.take k)).size<=3+40*k/\Fr (fun _=>False) w wr (fun _=>False)) (fun _ i _=>H.length-(intOf i).toNat)
 case atStart=>exact⟨0,Nat.zero_le _,rfl,rfl,(by decide:tW.size<=3+40*0),Fr.refl _ _⟩
 case round=>
  obtain⟨k,hk,rfl,rfl,hsz0,hf⟩:=hrel
  by_cases hlt:k<H.length
  ·obtain⟨y,hy⟩ : ∃y,H[k]?=some y:=⟨_,List.getElem?_eq_getElem hlt⟩
   obtain⟨g,cg,hv,_,hgl,hcell⟩:=tU (zY HR) (by omega)
   injection hv with hv hv2 hv3
   subst hv
   clear hv2 hv3
   obtain⟨g0,g1,g2,g3⟩:=eW H k y hy
   have c0:=(hf.cell g _ hgl (fun h=>h)).trans (hcell _ _ g0)
   have c1:=(hf.cell g _ hgl (fun h=>h)).trans (hcell _ _ g1)
   have c2:=(hf.cell g _ hgl (fun h=>h)).trans (hcell _ _ g2)
   have c3:=(hf.cell g _ hgl (fun h=>h)).trans (hcell _ _ g3)
   have hk0:(0:Int)<=(k:Int):=by omega
   have hk1:(k:Int)<(H.length:Int):=by omega
   have HB1:=zZ (zY HB y (List.mem_of_getElem? hy) wr hf)
   have hsn:qT (H.take (k+1))=qT (H.take k)++yX (jB y.1):=by rw [List.take_add_one,hy];exact gO _ _
   have HSN:=zZ hsn
   have HY:=zZ hy
   have HF:=zZ hf
   clear hf hcell g0 g1 g2 g3 hy hsn
   have hsz:=bU (zY HFIT y (List.mem_of_getElem? (by exact zY HY)))
   have hfs:=rF (jB y.1) (by omega)
   have hsn2:(qT (H.take k)++yX (jB y.1)).size<=3+40*(k+1):=by rw [ByteArray.size_append];omega
   have HSN2:=zZ hsn2
   clear hsn2
   go_wp2_with (first | (go_at_call 112;refine(zY HB1).mono ?_;rintro e1 w2 ⟨rfl,f2⟩;have F2:=zZ f2;clear f2 HB1) | (go_at_call 130;refine(bS _ (by omega) w2).mono ?_;rintro e1 w3 ⟨rfl,f3⟩;have F3:=zZ f3;clear f3))
   go_roundw
   case rel=>exact⟨k+1,by omega,by go_num,by rw [zY HSN],by rw [zY HSN];exact zY HSN2,(zY HF).trans ((zY F2).trans (zY F3))⟩
   case measure=>simp [intOf];omega
  ·have hkl:k=H.length:=by omega
   subst hkl
   rw [List.take_length] at hsz0 ⊢
   have hfs:=rF (yY 5 0 e.toNat) (by omega)
   have hk1:¬(H.length:Int)<(H.length:Int):=by omega
   have HF:=zZ hf
   clear hf
   go_wp2_with (first | (go_at_call 112;refine(zY HE wr).mono ?_;rintro e1 w2 ⟨rfl,f2⟩;have F2:=zZ f2;clear f2) | (go_at_call 130;refine(bS _ (by omega) w2).mono ?_;rintro e1 w3 ⟨rfl,f3⟩;have F3:=zZ f3;clear f3))
   go_ret
   exact⟨rfl,(zY HF).trans ((zY F2).trans (zY F3))⟩
theorem jT (f:Int) (w:World):Calls Tryz.prog 106 #[.int .i64 f] w fun e w'=>e=.returned (.int .i64 (min (max f 0) 5000))/\w'=w:=by
 go_enter Tryz.func106,Tryz.ntmps106
 go_wp2
 go_ret
 exact⟨rfl,rfl⟩
section
variable {σ:Type} {SQ:(Nat->Value)->(Nat->Prop)->World->σ->Prop} {B:Nat} {S T:Nat->Prop} {w:World} {b:Nat} {pv:Nat->Value} {vt va:Value} {s:PS} {A:List AT} {tn sq:Int} {x:σ}
theorem eV (h:LQ SQ B S w b pv vt va T s A tn sq x):Calls Tryz.prog 109 #[.pointer (some ⟨b,0,none⟩)] w fun e w'=>e=.returned (qY s)/\Fr (fun _=>False) w w' (fun _=>False):=by
 have hb:=h.blt
 obtain⟨ha,hn,hc,hp9,hnh⟩:=h.hc
 have c27:=(h.cell 27 (by omega)).trans (by rw [xF])
 have c14:=(h.cell 14 (by omega)).trans (by rw [tQ])
 have c9:=(h.cell 9 (by omega)).trans (by rw [xB _ _ _ _ _ _ (by omega),hp9])
 have cr:∀i,i<4->w.cell? ⟨b,10+i,none⟩=some (.int .i64 (s.reg i)):=fun i hi=>(h.cell (10+i) (by omega)).trans (by rw [uF _ _ _ _ _ _ hi])
 have c10:=cr 0 (by omega)
 have c11:=cr 1 (by omega)
 have c12:=cr 2 (by omega)
 have c13:=cr 3 (by omega)
 have nb:=heap_alloc_new w (.cells #[.int .i64 0,.int .i64 0,.int .i64 0,.int .i64 0,.int .i64 0,.int .i64 0,.int .i64 0] 37)
 have kb:=zR w (.cells #[.int .i64 0,.int .i64 0,.int .i64 0,.int .i64 0,.int .i64 0,.int .i64 0,.int .i64 0] 37) b hb
 have fr:=(Fr.refl (fun _=>False) w).alloc (.cells #[.int .i64 0,.int .i64 0,.int .i64 0,.int .i64 0,.int .i64 0,.int .i64 0,.int .i64 0] 37)
 have hne:b≠w.heap.size:=by omega
 have hne':¬w.heap.size=b:=by omega
 have NB:=zZ nb
 have KB:=zZ kb
 have FR:=zZ fr
 clear h cr nb kb fr
 go_enter Tryz.func109,Tryz.ntmps109
 go_wp2
 generalize hW:w.alloc (.cells #[.int .i64 0,.int .i64 0,.int .i64 0,.int .i64 0,.int .i64 0,.int .i64 0,.int .i64 0] 37)=W at *
 clear hW
 have nz:=fun j=>yB (zY NB) j
 have nk:=fun j=>cell_of_row W _ j _ 37 (0,0) (zY NB)
 have hwl:=(zN.1 (zY NB)).1
 have st:∀(V:World) (j:Nat) (u:Value),V.heap[b]?=w.heap[b]?->(V.setCell ⟨w.heap.size,j,none⟩ u).heap[b]?=w.heap[b]?:=fun V j u hv=>(zQ _ _ _ _ hne).trans hv
 have dr:∀(V:World),V.heap[b]?=w.heap[b]?->V.drew.heap[b]?=w.heap[b]?:=fun V hv=>hv
 have dy:∀(V:World) (o:Obj),V.heap[w.heap.size]?=some o->V.drew.heap[w.heap.size]?=some o:=fun V o hv=>hv
 have hs7:(((((((W.setCell ⟨w.heap.size,0,none⟩ (.int .i64 s.fin)).setCell ⟨w.heap.size,1,none⟩ (.int .i64 (s.reg 0))).setCell ⟨w.heap.size,2,none⟩ (.int .i64 (s.reg 1))).setCell ⟨w.heap.size,3,none⟩ (.int .i64 (s.reg 2))).setCell ⟨w.heap.size,4,none⟩ (.int .i64 (s.reg 3))).setCell ⟨w.heap.size,5,none⟩ (.int .i64 s.clock)).setCell ⟨w.heap.size,6,none⟩ (.int .i64 s.heard)).drew.heap[b]?=w.heap[b]?:=dr _ (st _ _ _ (st _ _ _ (st _ _ _ (st _ _ _ (st _ _ _ (st _ _ _ (st _ _ _ (zY KB))))))))
 have hy7:(((((((W.setCell ⟨w.heap.size,0,none⟩ (.int .i64 s.fin)).setCell ⟨w.heap.size,1,none⟩ (.int .i64 (s.reg 0))).setCell ⟨w.heap.size,2,none⟩ (.int .i64 (s.reg 1))).setCell ⟨w.heap.size,3,none⟩ (.int .i64 (s.reg 2))).setCell ⟨w.heap.size,4,none⟩ (.int .i64 (s.reg 3))).setCell ⟨w.heap.size,5,none⟩ (.int .i64 s.clock)).setCell ⟨w.heap.size,6,none⟩ (.int .i64 s.heard)).drew.heap[w.heap.size]?=some (.cells #[.int .i64 s.fin,.int .i64 (s.reg 0),.int .i64 (s.reg 1),.int .i64 (s.reg 2),.int .i64 (s.reg 3),.int .i64 s.clock,.int .i64 s.heard] 37):=dy _ _ (dP (zY NB) _ _ _ _ _ _ _)
 have hf7:Fr (fun _=>False) w (((((((W.setCell ⟨w.heap.size,0,none⟩ (.int .i64 s.fin)).setCell ⟨w.heap.size,1,none⟩ (.int .i64 (s.reg 0))).setCell ⟨w.heap.size,2,none⟩ (.int .i64 (s.reg 1))).setCell ⟨w.heap.size,3,none⟩ (.int .i64 (s.reg 2))).setCell ⟨w.heap.size,4,none⟩ (.int .i64 (s.reg 3))).setCell ⟨w.heap.size,5,none⟩ (.int .i64 s.clock)).setCell ⟨w.heap.size,6,none⟩ (.int .i64 s.heard)).drew (fun _=>False):=((((((((zY FR).setCell ⟨w.heap.size,0,none⟩ (.int .i64 s.fin) (.inr (Nat.le_refl _))).setCell ⟨w.heap.size,1,none⟩ (.int .i64 (s.reg 0)) (.inr (Nat.le_refl _))).setCell ⟨w.heap.size,2,none⟩ (.int .i64 (s.reg 1)) (.inr (Nat.le_refl _))).setCell ⟨w.heap.size,3,none⟩ (.int .i64 (s.reg 2)) (.inr (Nat.le_refl _))).setCell ⟨w.heap.size,4,none⟩ (.int .i64 (s.reg 3)) (.inr (Nat.le_refl _))).setCell ⟨w.heap.size,5,none⟩ (.int .i64 s.clock) (.inr (Nat.le_refl _))).setCell ⟨w.heap.size,6,none⟩ (.int .i64 s.heard) (.inr (Nat.le_refl _))).drew
 have HS7:=zZ hs7
 have HY7:=zZ hy7
 have HF7:=zZ hf7
 clear st dr dy hs7 hy7 hf7
 refine wp_region_held_drew (S:=fun w'=>w'.heap[b]?=w.heap[b]?) (by kernel_rfl) ?_ (fun hHeld=>?_)
 ·exact zY KB
 refine zA (i:=0) (oi:={dst:=some 3,op:=.move (.tmp 0),type:=177,pos:= "run.go:336",after:=#[],guard:=none}) ?_
 simp only [Act.put,zC,zD,zE]
 refine zA (i:=1) (oi:={dst:=some 4,op:=.nilCheck (.tmp 3),type:=0,pos:= "run.go:336",after:=#[zG 0],guard:=none}) ?_
 simp only [Act.put,zC,zD,zE]
 refine zA (i:=2) (oi:={dst:=some 5,op:=.fieldAddr 180 (.tmp 4) 12,type:=0,pos:= "run.go:336",after:=#[zG 1],guard:=none}) ?_
 simp only [Act.put,zC,zD,zE]
 refine zK (i:=3) (oi:={dst:=some 6,op:=.load 3 (.tmp 5),type:=3,pos:= "run.go:336",after:=#[zG 2],guard:=none}) (v:=?_) ?_ ?_
 rotate_left
 ·intro w' hSw;have k27:=(zO (w:=w) (a:=⟨b,27,none⟩) hSw).trans c27;have k14:=(zO (w:=w) (a:=⟨b,14,none⟩) hSw).trans c14;have k9:=(zO (w:=w) (a:=⟨b,9,none⟩) hSw).trans c9;have k10:=(zO (w:=w) (a:=⟨b,10,none⟩) hSw).trans c10;have k11:=(zO (w:=w) (a:=⟨b,11,none⟩) hSw).trans c11;have k12:=(zO (w:=w) (a:=⟨b,12,none⟩) hSw).trans c12;have k13:=(zO (w:=w) (a:=⟨b,13,none⟩) hSw).trans c13;go_simp;try with_reducible rfl
 simp only [Act.put,zC,zD,zE]
 refine zA (i:=4) (oi:={dst:=some 7,op:=.move (.tmp 0),type:=177,pos:= "run.go:336",after:=#[],guard:=none}) ?_
 simp only [Act.put,zC,zD,zE]
 refine zA (i:=5) (oi:={dst:=some 8,op:=.nilCheck (.tmp 7),type:=0,pos:= "run.go:336",after:=#[zG 4],guard:=none}) ?_
 simp only [Act.put,zC,zD,zE]
 refine zA (i:=6) (oi:={dst:=some 9,op:=.fieldAddr 180 (.tmp 8) 5,type:=0,pos:= "run.go:336",after:=#[zG 5],guard:=none}) ?_
 simp only [Act.put,zC,zD,zE]
 refine zK (i:=7) (oi:={dst:=some 10,op:=.load 35 (.tmp 9),type:=35,pos:= "run.go:336",after:=#[zG 6],guard:=none}) (v:=?_) ?_ ?_
 rotate_left
 ·intro w' hSw;have k27:=(zO (w:=w) (a:=⟨b,27,none⟩) hSw).trans c27;have k14:=(zO (w:=w) (a:=⟨b,14,none⟩) hSw).trans c14;have k9:=(zO (w:=w) (a:=⟨b,9,none⟩) hSw).trans c9;have k10:=(zO (w:=w) (a:=⟨b,10,none⟩) hSw).trans c10;have k11:=(zO (w:=w) (a:=⟨b,11,none⟩) hSw).trans c11;have k12:=(zO (w:=w) (a:=⟨b,12,none⟩) hSw).trans c12;have k13:=(zO (w:=w) (a:=⟨b,13,none⟩) hSw).trans c13;go_simp;try with_reducible rfl
 simp only [Act.put,zC,zD,zE]
 refine zA (i:=8) (oi:={dst:=some 11,op:=.move (.tmp 0),type:=177,pos:= "run.go:336",after:=#[],guard:=none}) ?_
 simp only [Act.put,zC,zD,zE]
 refine zA (i:=9) (oi:={dst:=some 12,op:=.nilCheck (.tmp 11),type:=0,pos:= "run.go:336",after:=#[zG 8],guard:=none}) ?_
 simp only [Act.put,zC,zD,zE]
 refine zA (i:=10) (oi:={dst:=some 13,op:=.fieldAddr 180 (.tmp 12) 6,type:=0,pos:= "run.go:336",after:=#[zG 9],guard:=none}) ?_
 simp only [Act.put,zC,zD,zE]
 refine zK (i:=11) (oi:={dst:=some 14,op:=.load 3 (.tmp 13),type:=3,pos:= "run.go:336",after:=#[zG 10],guard:=none}) (v:=?_) ?_ ?_
 rotate_left
 ·intro w' hSw;have k27:=(zO (w:=w) (a:=⟨b,27,none⟩) hSw).trans c27;have k14:=(zO (w:=w) (a:=⟨b,14,none⟩) hSw).trans c14;have k9:=(zO (w:=w) (a:=⟨b,9,none⟩) hSw).trans c9;have k10:=(zO (w:=w) (a:=⟨b,10,none⟩) hSw).trans c10;have k11:=(zO (w:=w) (a:=⟨b,11,none⟩) hSw).trans c11;have k12:=(zO (w:=w) (a:=⟨b,12,none⟩) hSw).trans c12;have k13:=(zO (w:=w) (a:=⟨b,13,none⟩) hSw).trans c13;go_simp;try with_reducible rfl
 simp only [Act.put,zC,zD,zE]
 refine zA (i:=12) (oi:={dst:=some 15,op:=.move (.tmp 0),type:=177,pos:= "run.go:336",after:=#[],guard:=none}) ?_
 simp only [Act.put,zC,zD,zE]
 refine zA (i:=13) (oi:={dst:=some 16,op:=.nilCheck (.tmp 15),type:=0,pos:= "run.go:336",after:=#[zG 12],guard:=none}) ?_
 simp only [Act.put,zC,zD,zE]
 refine zA (i:=14) (oi:={dst:=some 17,op:=.fieldAddr 180 (.tmp 16) 4,type:=0,pos:= "run.go:336",after:=#[zG 13],guard:=none}) ?_
 simp only [Act.put,zC,zD,zE]
 refine zK (i:=15) (oi:={dst:=some 18,op:=.load 44 (.tmp 17),type:=44,pos:= "run.go:336",after:=#[zG 14],guard:=none}) (v:=?_) ?_ ?_
 rotate_left
 ·intro w' hSw;have k27:=(zO (w:=w) (a:=⟨b,27,none⟩) hSw).trans c27;have k14:=(zO (w:=w) (a:=⟨b,14,none⟩) hSw).trans c14;have k9:=(zO (w:=w) (a:=⟨b,9,none⟩) hSw).trans c9;have k10:=(zO (w:=w) (a:=⟨b,10,none⟩) hSw).trans c10;have k11:=(zO (w:=w) (a:=⟨b,11,none⟩) hSw).trans c11;have k12:=(zO (w:=w) (a:=⟨b,12,none⟩) hSw).trans c12;have k13:=(zO (w:=w) (a:=⟨b,13,none⟩) hSw).trans c13;go_simp;try with_reducible rfl
 simp only [Act.put,zC,zD,zE]
 refine zK (i:=16) (oi:={dst:=some 19,op:=.call {callee:=.builtin .len,args:=#[.tmp 18],argTypes:=#[44]},type:=3,pos:= "run.go:336",after:=#[zG 15],guard:=none}) (v:=?_) ?_ ?_
 rotate_left
 ·intro w' hSw;have k27:=(zO (w:=w) (a:=⟨b,27,none⟩) hSw).trans c27;have k14:=(zO (w:=w) (a:=⟨b,14,none⟩) hSw).trans c14;have k9:=(zO (w:=w) (a:=⟨b,9,none⟩) hSw).trans c9;have k10:=(zO (w:=w) (a:=⟨b,10,none⟩) hSw).trans c10;have k11:=(zO (w:=w) (a:=⟨b,11,none⟩) hSw).trans c11;have k12:=(zO (w:=w) (a:=⟨b,12,none⟩) hSw).trans c12;have k13:=(zO (w:=w) (a:=⟨b,13,none⟩) hSw).trans c13;go_simp;try with_reducible rfl
 simp only [Act.put,zC,zD,zE]
 refine zA (i:=17) (oi:={dst:=some 20,op:=.build 37 #[(0,.tmp 6),(1,.tmp 10),(2,.tmp 14),(3,.tmp 19)],type:=37,pos:= "run.go:336",after:=#[zG 3,zG 7,zG 11,zG 16],guard:=none}) ?_
 simp only [Act.put,zC,zD,zE]
 refine zL (i:=18) (o:={dst:=none,op:=.store 37 (.tmp 2) (.tmp 20),type:=0,pos:= "run.go:336",after:=#[zG 17,zF 0,zF 1,zF 2,zF 3,zF 4,zF 5,zF 6,zF 7,zF 8,zF 9,zF 10,zF 11,zF 12,zF 13,zF 14,zF 15,zF 16,zF 17],guard:=none}) (fun K' hK'=>?_)
 go_simp
 refine hK'.out _ _ ?_ (fun hHeld=>?_)
 ·exact zY HS7
 clear hK' K'
 try simp only [Act.put,zC,zD,zE]
 refine wpAnyH_done (by kernel_rfl) ?_ _
 generalize hV:(((((((W.setCell ⟨w.heap.size,0,none⟩ (.int .i64 s.fin)).setCell ⟨w.heap.size,1,none⟩ (.int .i64 (s.reg 0))).setCell ⟨w.heap.size,2,none⟩ (.int .i64 (s.reg 1))).setCell ⟨w.heap.size,3,none⟩ (.int .i64 (s.reg 2))).setCell ⟨w.heap.size,4,none⟩ (.int .i64 (s.reg 3))).setCell ⟨w.heap.size,5,none⟩ (.int .i64 s.clock)).setCell ⟨w.heap.size,6,none⟩ (.int .i64 s.heard)).drew=V at *
 clear hV
 have ky:=fun j=>cell_of_row V _ j _ 37 (0,0) (zY HY7)
 go_wp2
 refine bodyPost_ret (v:=.agg #[.int .i64 s.fin,.int .i64 (s.reg 0),.int .i64 (s.reg 1),.int .i64 (s.reg 2),.int .i64 (s.reg 3),.int .i64 s.clock,.int .i64 s.heard]) (by simp [results,Tryz.results109,go_sem,ky]) rfl ?_
 exact⟨rfl,zY HF7⟩
end
