/-
  PROVED HERE: the document's batch: the ready files wake as th
-/
import Derived.Deep.Upon
import Derived.Test.YtfmbebofllgmoaaGreatDoorSallbi
set_option maxHeartbeats 8000000
set_option maxRecDepth 20000
namespace Go.Proofs.YtfmbebofllgmoaaGreatDoor
open Go.RowKit
attribute [local go_sem ↓] Go.wp_at_zero Go.wp_at_succ
theorem xA {ops:Array Oper} {rest:List Oper} {o:Oper} {a:Act} {Q:Exit->Act->World->Prop} {w:World} {B t e size bytes:Nat} (E:mU t e size bytes) (hs0:0<size) (hs1:bytes<=140) {v:Value} {n m:Nat} {xs news:List Value} (hgd:o.guard=none) (sv xv:Operand)
  (ho:o.op=.call {callee:=.builtin .append,args:=#[sv,xv],argTypes:=#[t,t]}) {ad:Addr} {cap:Nat} (hs:a.eval sv=v) (hx:a.eval xv=.slice (some ad) m cap) (hrow:w.ownsRow B e size v n xs) (hl:news.length=m*size)
  (hc:∀j u,news[j]?=some u->w.cell? (ad.add j)=some u) (h1:∀u∈news,u.oneCell'=true) (hn:n+m<=1000000000000) (hB:B<=w.heap.size)
  (h:∀v' w',w'.ownsRow B e size v' (n+m) (xs++news)->Fr (own v) w w' (own v')->(∃a c,v'=.slice a (n+m) c)->wpList Tryz.prog ops Q rest (a.put o.dst v') w'):wpList Tryz.prog ops Q (o::rest) a w:=by
 rcases Nat.eq_zero_or_pos m with h0 | h0
 ·subst h0
  have hnl:news=[]:=List.eq_nil_of_length_eq_zero (by rw [hl,Nat.zero_mul])
  subst hnl
  obtain⟨i,z,hi,hz,hsz,hby,hzc⟩:=E.i
  obtain⟨va,vc,hv⟩:=yM hrow
  have hle:n<=vc:=by
   rcases hrow.2 with ⟨e1,e2⟩ | ⟨g,cp,cur,e1,_,_,e2,_⟩
   ·omega
   ·rw [hv] at e1;cases e1;exact e2
  have hrun:=Go.run_append_nothing (P:=Tryz.prog) w t t o.type e i E.u hi va n vc hle (.slice (some ad) 0 cap) (Go.Src.ofSlice w E.u ad 0 cap [] (by simp) (fun j u hj=>by simp at hj) (fun u hu=>by simp at hu))
  refine wpList_plain hgd fun K hK=>?_
  unfold Oper.wp execOp
  simp only [ho,resolve,invoke,builtin,Sem.run_bind,Sem.run_pure,Result.andThen_ok,List.map_toArray,List.map_cons,List.map_nil,hs,hx,hv,hrun]
  refine hK _ _ (h _ w ?_ (by rw [hv];exact Fr.refl _ _) ⟨va,vc,rfl⟩)
  rw [List.append_nil,<-hv]
  exact hrow
 ·exact sJ E hs0 hs1 hgd sv xv ho hs hx hrow hl hc h1 h0 hn hB h
theorem zR7 (a b c d:Value) (w:World):Sem.run Tryz.prog (Instr.field 49 (.agg #[a,b,c,d]) 2) w=.ok c w:=by kernel_rfl
section
variable {σ:Type} {SQ:(Nat->Value)->(Nat->Prop)->World->σ->Prop} {ask:σ->Int->Int->Rep×σ} {may:Int->Int->Prop} {mes:σ->Nat} {B:Nat} {S T:Nat->Prop} {w:World} {b:Nat} {pv:Nat->Value} {vt va:Value} {s:PS} {A:List AT} {tn sq:Int} {x:σ}
def BaRel (SQ:(Nat->Value)->(Nat->Prop)->World->σ->Prop) (ask:σ->Int->Int->Rep×σ) (B:Nat) (S:Nat->Prop) (w:World) (b:Nat) (pv:Nat->Value) (tn sq:Int) (p:Pg) (M:Nat) (tot:PS×σ) (k:Nat) (u:Value) (wr:World):Prop:=
 ∃S' pv' vt' va' T' A' s' x' N l,LQ SQ B S' wr b pv' vt' va' T' s' A' tn sq x'/\(∀i,i<3->pv' i=pv i)/\Fr S w wr S'/\yR wr w.heap.size u l/\(∀q,own u q->¬S' q)/\wkM ask (gF ask p) k l s' x'=tot/\vL p N s'/\N+l.length<=M/\(∀z,z∈l->0<=z/\z<8)/\l.length<=k/\l.length<=8
theorem zV6 (l:List Int) (f:Int->Bool) (k:Nat) (z:Int) (h:l[k]?=some z):(l.take (k+1)).filter f=(l.take k).filter f++(if f z then [z] else []):=by
 rw [List.take_add_one,h,List.filter_append]
 by_cases e:f z=true<;>simp [e]
theorem zK0 (L:rK SQ B) (K:eB SQ ask may B) (hm:may 1 0) (hm2:may 2 0) (hm3:∀n:Nat,2<=n->n<=8->may 3 n) (hm4:∀v,1<=v->v<=1000000->may 4 v) (hs:uP ask mes)
  {w0:World} (hB:B=w0.heap.size) (hbel:Below w0.heap.size w0 w) {p:Pg} (pg:oE w0 pv p) (ok:sM p) (h:LQ SQ B S w b pv vt va T s A tn sq x) (hf:s.fin=0) {N:Nat} (hq:vL p N s) (hN:N+8<=100000000) :
  Calls Tryz.prog 129 #[.pointer (some ⟨b,0,none⟩)] w fun e w'=>e=.returned (.tuple #[])/\eD SQ B S w b pv tn sq (sF ask p s x).1 (sF ask p s x).2 w':=by
 have hc:=K.calls h hf hm2
 have hfi8:=hs.files x
 have hmost:=hs.most x
 unfold sF
 generalize ask x 2 0=R at *
 obtain⟨⟨rk,ro,rn,rf,re⟩,x'⟩:=R
 dsimp only at hc hfi8 hmost ⊢
 have hSB:∀k,S k->B<=k:=fun k hk=>(h.bound k hk).1
 have hBw:B<=w.heap.size:=h.below
 obtain⟨fa0,fc0,hfv,_,hff⟩:=pg.f
 have HC:=zZ hc
 have HSB:=zZ hSB
 have HBW:=zZ hBw
 have HBEL:=zZ hbel
 have HBE:=zZ hB
 have HFF:=zZ hff
 have HQ:=zZ hq
 have HF8:=zZ hfi8
 have HF:=zZ hf
 clear hc h hSB hBw hbel hB hff hq hfi8 hf
 by_cases hre:re=0
 ·rw [if_pos hre]
  generalize htot:wkM ask (gF ask p) 8 (rf.filter fun z=>s.wat z.toNat) {s with heard:=wrap64 (s.heard+1)} x'=tot
  have e0:sQ s ⟨rk,ro,rn,rf,re⟩={s with heard:=wrap64 (s.heard+1)}:=by unfold sQ;rw [if_pos hre]
  rw [e0] at HC
  have HTOT:=zZ htot
  have HRE:=zZ hre
  clear htot hre e0
  go_enter Tryz.func129,Tryz.ntmps129
  go_wp2_with fail
  go_at_call 141
  refine(zY HC).mono ?_
  rintro e w1 ⟨kd,of_,n,fa,fl,fc,rfl,⟨S1,pv1,T1,h1,p1,f1⟩,hn⟩
  obtain⟨hnn,hints⟩:=hn (zY HRE)
  subst hnn
  obtain⟨fa',fc',hfe,hcells⟩:=hints
  injection hfe with hfe1 hfe2 hfe3
  subst hfe1 hfe2 hfe3
  have k27:w1.cell? ⟨b,27,none⟩=some (.int .i64 0):=(h1.cell 27 (by omega)).trans (by rw [xF];exact congrArg (fun z=>some (Value.int .i64 z)) (zY HF))
  have hb1:=h1.blt
  have hn5:w1.heap.size≠b:=by omega
  have hn6:¬b=w1.heap.size:=by omega
  have ha:=h1.alloc L (.cells #[.int .i64 kd,.int .i64 of_,.int .i64 n,.slice fa rf.length fc] 49)
  have g49:=heap_alloc_new w1 (.cells #[.int .i64 kd,.int .i64 of_,.int .i64 n,.slice fa rf.length fc] 49)
  have hcl:rf=[]\/∃q off,fa=some ⟨q,off,none⟩/\q<w1.heap.size/\∀i,i<rf.length->(w1.alloc (.cells #[.int .i64 kd,.int .i64 of_,.int .i64 n,.slice fa rf.length fc] 49)).cell? ⟨q,off+i,none⟩=some (.int .i64 (rf.getD i 0)):=by
   rcases hcells with h0 | ⟨q,off,e,hq,hcc⟩
   ·exact .inl h0
   ·exact .inr ⟨q,off,e,hq,fun i hi=>(zO (w:=w1) (a:=⟨q,off+i,none⟩) (zR _ _ _ hq)).trans (hcc i hi)⟩
  have HA:=zZ ha
  have FA:=zZ (f1.alloc (.cells #[.int .i64 kd,.int .i64 of_,.int .i64 n,.slice fa rf.length fc] 49))
  have P1:=zZ p1
  have HCL:=zZ hcl
  have G49:=zZ g49
  have hw1:w1.heap.size<(w1.alloc (.cells #[.int .i64 kd,.int .i64 of_,.int .i64 n,.slice fa rf.length fc] 49)).heap.size:=by simp
  clear h1 f1 p1 hcells hn ha hcl g49 HC
  go_wp2
  generalize hW1:w1.alloc (.cells #[.int .i64 kd,.int .i64 of_,.int .i64 n,.slice fa rf.length fc] 49)=W1 at *
  clear hW1 k27
  go_loopw [3,4] (fun u i wr=>∃k:Nat,k<=rf.length/\i=.int .i64 k/\∃la lc,u=.slice la ((rf.take k).filter fun z=>s.wat z.toNat).length lc/\Hid (yR wr W1.heap.size (.slice la ((rf.take k).filter fun z=>s.wat z.toNat).length lc) ((rf.take k).filter fun z=>s.wat z.toNat)/\Fr (fun _=>False) W1 wr (fun _=>False))) (fun _ i _=>rf.length-(intOf i).toNat)
  case atStart=>exact⟨0,Nat.zero_le _,rfl,none,0,rfl,zX _ _ _ _,Fr.refl _ _⟩
  case round=>
   obtain⟨k,hk,rfl,la,lc,rfl,hh⟩:=hrel
   have hr:=(zY HA).fr L (zY hh).2
   have k49:=fun j=>cell_of_row wr w1.heap.size j _ 49 (0,0) (((zY hh).2.same _ hw1 (fun h=>h)).trans (zY G49))
   by_cases hlt:k<rf.length
   ·have hz:rf[k]?=some (rf.getD k 0):=by rw [List.getD_eq_getElem?_getD,List.getElem?_eq_getElem hlt];rfl
    obtain⟨z,hzz⟩ : ∃z,rf.getD k 0=z:=⟨_,rfl⟩
    rw [hzz] at hz
    obtain⟨z0,z8⟩:=zY HF8 z (List.mem_of_getElem? hz)
    rcases zY HCL with h0 | ⟨q,off,rfl,hql,hcc⟩
    ·rw [h0] at hlt;simp at hlt
    have kz:=((zY hh).2.cell q (off+k) (by omega) (fun h=>h)).trans (hcc k hlt)
    rw [hzz] at kz
    have kw:=(hr.cell (17+z.toNat) (by omega)).trans (by rw [uG _ _ _ _ _ _ (by omega)])
    change wr.cell? _=some (.bool (s.wat z.toNat)) at kw
    have k2:=(hr.cell 2 (by omega)).trans (by rw [xB _ _ _ _ _ _ (by omega),zY P1 2 (by omega),hfv])
    have htk:=zV6 rf (fun z=>s.wat z.toNat) k z hz
    have hle:((rf.take k).filter fun z=>s.wat z.toNat).length<=8:=by have:=List.length_filter_le (fun z=>s.wat z.toNat) (rf.take k);rw [List.length_take] at this;omega
    have hk0:(0:Int)<=(k:Int):=by omega
    have hk1:(k:Int)<(rf.length:Int):=by omega
    have hqw:q<wr.heap.size:=by have:=(zY hh).2.size;omega
    have HTK:=zZ htk
    have HH:=zZ (zY hh)
    by_cases hwz:s.wat z.toNat=true
    ·have hzf:z<(p.fn:Int):=by have:=(zY HQ).2.wat z.toNat hwz;omega
     rw [hwz] at kw
     rw [if_pos hwz] at htk
     have HTK:=zZ htk
     have nb:=heap_alloc_new wr (.cells #[.int .i64 z] 3)
     have NB:=zZ nb
     have RA:=zZ (show (wr.alloc (.cells #[.int .i64 z] 3)).ownsRow W1.heap.size 3 1 (.slice la ((rf.take k).filter fun z=>s.wat z.toNat).length lc) ((rf.take k).filter fun z=>s.wat z.toNat).length (((rf.take k).filter fun z=>s.wat z.toNat).map fun z=>Value.int .i64 z) from World.ownsRow.alloc (zY HH).1 (.cells #[.int .i64 z] 3))
     have hwz2:W1.heap.size<=(wr.alloc (.cells #[.int .i64 z] 3)).heap.size:=by have:=(zY HH).2.size;simp;omega
     clear hr hh htk hz hzz hcc nb hwz
     go_wp2_with (at_builtin;refine gY sK (by omega) (by omega) (B:=W1.heap.size) (v:=.slice la ((rf.take k).filter fun z=>s.wat z.toNat).length lc) (n:=((rf.take k).filter fun z=>s.wat z.toNat).length) (m:=1) (xs:=((rf.take k).filter fun z=>s.wat z.toNat).map fun z=>Value.int .i64 z) (news:=[.int .i64 z]) rfl (.tmp 44) (.tmp 46) rfl (ad:=⟨wr.heap.size,0,none⟩) (cap:=1) rfl rfl (zY RA) rfl (World.news_of_block (zY NB)) (by simp [Value.oneCell']) (by omega) (by omega) hwz2 ?_;intro v3 w3 o3 f3 sh3;obtain⟨av,cv,rfl⟩:=sh3;have O3:=zZ o3;have F3:=zZ f3;clear o3 f3)
     go_roundw
     case rel=>
      refine⟨k+1,by omega,by go_num,av,cv,?_⟩
      rw [zY HTK,List.length_append]
      refine⟨rfl,?_,Fr.more ((zY HH).2.alloc _) (zY F3) (fun q hq=>(zS (zY HH).1 q hq).1)⟩
      have:=zY O3
      rw [<-List.map_singleton (f:=fun z=>Value.int .i64 z),<-List.map_append] at this
      unfold yR
      rw [List.length_append]
      exact this
     case measure=>simp [intOf];omega
    ·have hwf:s.wat z.toNat=false:=by simpa using hwz
     rw [hwf] at kw
     rw [if_neg hwz,List.append_nil] at htk
     have HTK:=zZ htk
     clear hr hh htk hz hzz hcc hwz
     by_cases hzf:z<(p.fn:Int)
     ·go_wp2
      go_roundw
      case rel=>
       refine⟨k+1,by omega,by go_num,la,lc,?_⟩
       rw [zY HTK]
       exact⟨rfl,HH⟩
      case measure=>simp [intOf];omega
     ·go_wp2
      go_roundw
      case rel=>
       refine⟨k+1,by omega,by go_num,la,lc,?_⟩
       rw [zY HTK]
       exact⟨rfl,HH⟩
      case measure=>simp [intOf];omega
   ·have hkl:k=rf.length:=by omega
    subst hkl
    have hk1:¬(rf.length:Int)<(rf.length:Int):=by omega
    rw [List.take_length] at hh ⊢
    have hLl:(rf.filter fun z=>s.wat z.toNat).length<=8:=by have:=List.length_filter_le (fun z=>s.wat z.toNat) rf;omega
    have hwW:w.heap.size<=W1.heap.size:=(zY FA).size
    have r0:BaRel SQ ask B S w b pv tn sq p (N+8) tot 8 (.slice la (rf.filter fun z=>s.wat z.toNat).length lc) wr:=
     ⟨S1,pv1,vt,va,T1,A,_,x',N,_,hr,zY P1,(zY FA).trans ((zY hh).2.wide _),rC (zY hh).1 hwW,fun q hq hS=>by
      have h1:=(zS (zY hh).1 q hq).1
      have h2:=((zY HA).bound q hS).2
      omega,zY HTOT,⟨(zY HQ).1.of rfl rfl rfl rfl,(zY HQ).2.of rfl rfl rfl⟩,by omega,fun z hz=>zY HF8 z (List.mem_filter.1 hz).1,hLl,hLl⟩
    have R0:=zZ r0
    clear hr hh r0 hLl hwW HTOT HF8 HCL
    go_wp2
    clear k49
    go_loopg [3] 8 (fun k u wr=>BaRel SQ ask B S w b pv tn sq p (N+8) tot k u wr)
    case atStart=>exact zY R0
    case round=>
     obtain⟨S',pv',vt',va',T',A',s',x2,N',l,q1,q0,q2,qo,qd,q3,q5,q6,q8,q7,q9⟩:=hrel
     obtain⟨la',lc',rfl⟩:=xP qo
     have c27:=(q1.cell 27 (by omega)).trans (by rw [xF])
     by_cases hl0:l=[]
     ·have e:=q3.symm.trans (iK _ gk l s' x2 (.inl hl0))
      have hlen:l.length=0:=by rw [hl0];rfl
      have Q1:=zZ q1
      have Q2:=zZ q2
      have Q0:=zZ q0
      have E:=zZ e
      clear q1 q2 q3 q5 q0 qo qd q8 e
      rw [hlen]
      go_wp2
      go_end0
      rw [zY E]
      exact⟨rfl,S',pv',vt',va',T',A',zY Q1,zY Q0,zY Q2⟩
     ·have hlp:0<l.length:=List.length_pos_iff.2 hl0
      have hlp':(0:Int)<(l.length:Int):=by omega
      by_cases hfi:s'.fin=0
      ·have hfb:(s'.fin==0)=true:=by simpa using hfi
       obtain⟨k',rfl⟩ : ∃k',gk=k'+1:=⟨gk-1,by omega⟩
       by_cases h1:l.length=1
       ·obtain⟨z,rfl⟩ : ∃z,l=[z]:=List.length_eq_one_iff.1 h1
        have hpk:pk ask [z].length s' x2=(0,true,s',x2):=by unfold pk;rfl
        have hst:=cZ (ask:=ask) (gF ask p) k' [z] s' x2 hl0 hfi hpk
        have E:=zZ (show tot=wkM ask (gF ask p) k' [] (wk1 (gF ask p) z s' x2).1 (wk1 (gF ask p) z s' x2).2 from q3.symm.trans hst)
        have hcp:1<=lc':=by
         rcases qo.2 with ⟨e1,e2⟩ | ⟨g,cp,cur,e1,_,_,e2,_⟩
         ·have e2':[z].length=0:=e2;simp at e2'
         ·injection e1 with _ _ e1;rw [e1];exact e2
        obtain⟨g,cg,hv,hg1,hg2,hcell⟩:=tU qo hlp
        injection hv with hv hv2 hv3
        subst hv hv3
        clear hv2
        have kz:wr.cell? ⟨g,0,none⟩=some (.int .i64 z):=hcell 0 _ rfl
        have nw1:∀j u,(([z].take 0).map fun z=>Value.int .i64 z)[j]?=some u->wr.cell? (Addr.add ⟨g,0,none⟩ j)=some u:=fun j u hj=>by simp at hj
        have nw2:∀j u,(([z].drop (0+1)).map fun z=>Value.int .i64 z)[j]?=some u->wr.cell? ⟨g,1+j,none⟩=some u:=fun j u hj=>by simp at hj
        obtain⟨hz0,hz8⟩:=q8 z (by simp)
        have H4:=zZ q1
        have P4:=zZ q0
        have FQ:=zZ q2
        have Q5:=zZ q5
        have NW1:=zZ nw1
        have NW2:=zZ nw2
        have HGL:=zZ hg2
        have hk2:(1:Int)<=(lc':Int):=by omega
        have hk3:(0:Int)<=(lc':Int):=by omega
        have hl1:[z].length=1:=rfl
        clear q1 q0 q2 q3 q5 qo qd q8 hst hpk hcell nw1 nw2 h1 hlp hlp' hl0
        rw [hl1]
        by_cases hlc:lc'=1
        ·subst hlc
         by_cases hwz:s'.wat z.toNat=true
         ·have HWZ:=zZ hwz
          clear hwz
          as_aux_lemma=>
           have hzf:z<(p.fn:Int):=by have:=(zY Q5).2.wat z.toNat (zY HWZ);omega
           obtain⟨ua,uc,hut⟩:=yM (zY H4).row
           subst hut
           rcases zY HFF with hz00 | ⟨tb,toff,rfl,htb⟩
           ·omega
           obtain⟨vi,hvi,hops⟩:=htb z.toNat (by omega)
           have htbl:tb<w0.heap.size:=zU _ _ hvi
           have hln:s'.trace.length<=100000000:=by have:=(zY Q5).1.trace;omega
           have hq6:vL p (N'+1) {s' with trace:=s'.trace++[(2,z,0)]}:=pK (s:=s') (zY Q5)
           have hq7:=qF hs (ok.fr z.toNat (by omega)) {s' with trace:=s'.trace++[(2,z,0)]} x2 hq6
           have HQ6:=zZ hq6
           have HQ7:=zZ hq7
           have HOPS:=zZ hops
           have HVI:=zZ hvi
           clear hq6 hq7 hops hvi htb
           go_wp2_with (at_builtin;first | (refine xA sK (by omega) (by omega) (B:=wr.heap.size) (v:=.slice none 0 0) (n:=0) (m:=0) (xs:=[]) (news:=([z].take 0).map fun z=>Value.int .i64 z) rfl (.tmp 75) (.tmp 78) rfl (ad:=⟨g,0,none⟩) (cap:=1) rfl rfl (zX _ _ _ _) (by rw [List.length_map,List.length_take];simp;try omega) (zY NW1) (fun u hu=>(by obtain⟨_,_,rfl⟩:=List.mem_map.1 hu;rfl)) (by omega) (Nat.le_refl _) ?_;intro v5 w5 o5 f5 sh5;rw [Nat.zero_add,List.nil_append] at o5;rw [Nat.zero_add] at sh5;obtain⟨a5,c5,rfl⟩:=sh5;have f5':Fr (fun _=>False) wr w5 (fun _=>False):=⟨f5.os,f5.tape,f5.output,f5.size,fun k hk _=>f5.same k hk (by simp [own,Value.ownBlock]),fun _ _ h=>h⟩;have O5:=zZ o5;have F5:=zZ f5';have hz5:=f5.size;have NW2':=zZ (fun j u hj=>(f5'.cell g _ (zY HGL) (fun h=>h)).trans (zY NW2 j u hj));clear o5 f5 f5') | (refine xA sK (by omega) (by omega) (B:=wr.heap.size) (v:=.slice a5 0 c5) (n:=0) (m:=0) (xs:=([z].take 0).map fun z=>Value.int .i64 z) (news:=([z].drop (0+1)).map fun z=>Value.int .i64 z) rfl (.tmp 80) (.tmp 84) rfl (ad:=⟨g,0,none⟩) (cap:=0) rfl rfl (zY O5) (by rw [List.length_map,List.length_drop];simp) (fun j u hj=>absurd hj (by rw [List.drop_eq_nil_of_le (by simp)];simp)) (fun u hu=>(by obtain⟨_,_,rfl⟩:=List.mem_map.1 hu;rfl)) (by omega) hz5 ?_;intro v6 w6 o6 f6 sh6;rw [Nat.add_zero] at o6 sh6;obtain⟨a6,c6,rfl⟩:=sh6;have f46:Fr (fun _=>False) wr w6 (fun _=>False):=Fr.more (zY F5) f6 (fun q hq=>(zS (zY O5) q hq).1);have o6':yR w6 wr.heap.size (.slice a6 0 c6) ([z].eraseIdx 0):=(by unfold yR;exact o6);have h6:=(zY H4).fr L f46;have kw6:=(h6.cell (17+z.toNat) (by omega)).trans (by rw [uG _ _ _ _ _ _ (by omega)]);change w6.cell? _=some (.bool (s'.wat z.toNat)) at kw6;rw [zY HWZ] at kw6;have k26:=(h6.cell 26 (by omega)).trans (by rw [xE]);change w6.cell? _=some (.slice ua s'.trace.length uc) at k26;have nb:=heap_alloc_new w6 (.cells #[.int .i64 2,.int .i64 z,.int .i64 0] 72);have h6a:=h6.alloc L (.cells #[.int .i64 2,.int .i64 z,.int .i64 0] 72);have hB6:=h6a.below;have hb6:=h6.blt;have O6:=zZ o6';have F46:=zZ f46;have NB:=zZ nb;have H6A:=zZ h6a;clear nb h6a;clear o6 o6' f6 f46 h6) | (refine sJ kP (by omega) (by omega) (B:=B) (v:=.slice ua s'.trace.length uc) (n:=s'.trace.length) (m:=1) (xs:=vD s'.trace) (news:=[.int .i64 2,.int .i64 z,.int .i64 0]) rfl (.tmp 96) (.tmp 99) rfl (ad:=⟨w6.heap.size,0,none⟩) (cap:=1) rfl rfl (by exact(zY H6A).row) rfl (World.news_of_block (zY NB)) (by simp [Value.oneCell']) (by omega) (by omega) hB6 ?_;intro v7 w7 o7 f7 sh7;obtain⟨av,cv,rfl⟩:=sh7;have c7:=(zY H6A).cells.block (f7.same b (zY H6A).blt (fun e=>((zY H6A).inV b e).2.1 rfl));have k26':=(c7 26 (by omega)).1.trans (by rw [xE]);have z26:=(c7 26 (by omega)).2;have FIN:=zZ ((zY H6A).setTrace L (o:=(2,z,0)) o7 f7);have kf2:=((zY FIN).1.cell 2 (by omega)).trans (by rw [xB _ _ _ _ _ _ (by omega),zY P4 2 (by omega),hfv]);have hbel7:Below w0.heap.size w0 (w7.setCell ⟨b,26,none⟩ (.slice av (s'.trace.length+1) cv)):=(zY HBEL).trans (zY HBE▸((zY FQ).trans (((zY F46).alloc (.cells #[.int .i64 2,.int .i64 z,.int .i64 0] 72)).wide _ |>.trans (zY FIN).2)).below (zY HSB) (zY HBW));have kvi:=(xT hbel7 tb (toff+z.toNat) htbl).trans (zY HVI);have htw7:tb<(w7.setCell ⟨b,26,none⟩ (.slice av (s'.trace.length+1) cv)).heap.size:=zT htbl hbel7.size;have HBEL7:=zZ hbel7;clear o7 f7 c7 hbel7))
           go_at_call 125
           refine(sH L K hm hm4 hs.clock (zY HBE) (zY HBEL7) (zY FIN).1 (zY HOPS) (ok.fl z.toNat (by omega)) ok.tn ok.fn (ok.fr z.toNat (by omega)) (zY HQ6).1 (by omega)).mono ?_
           rintro e w8 ⟨rfl,S8,pv8,vt8,va8,T8,A8,h8,p8,f8⟩
           have f68:=((zY FIN).2.trans f8)
           have hap:∀q,own (.slice a6 0 c6) q->¬S' q:=fun q hq hS=>by have h1:=(zS (zY O6) q hq).1;have h2:=((zY H4).bound q hS).2;omega
           have hf6s:=((Fr.refl S' w6).alloc (.cells #[.int .i64 2,.int .i64 z,.int .i64 0] 72)).trans f68
           have o8:yR w8 wr.heap.size (.slice a6 0 c6) ([z].eraseIdx 0):=yA (zY O6) (fun q hq=>hf6s.same q (zS (zY O6) q hq).2 (hap q hq))
           have d8:∀q,own (.slice a6 0 c6) q->¬S8 q:=fun q hq hS=>hap q hq (hf6s.old q (zS (zY O6) q hq).2 hS)
           have H8:=zZ h8
           have P8:=zZ p8
           have O8:=zZ o8
           have D8:=zZ d8
           have F8:=zZ ((zY FQ).trans (((zY F46).wide _).trans hf6s))
           clear h8 p8 f8 f68 hap hf6s o8 d8 kvi kf2 k26' z26 htw7
           go_wp2
           go_roundg k'
           case rel=>
            have e9:=zY E
            rw [show wk1 (gF ask p) z s' x2=gF ask p z {s' with trace:=s'.trace++[(2,z,0)]} x2 from by unfold wk1;rw [if_pos (by exact zY HWZ)]] at e9
            exact⟨S8,pv8,vt8,va8,T8,A8,_,_,N'+1,[],zY H8,fun i hi=>(zY P8 i hi).trans (zY P4 i hi),zY F8,rC (zY O8) (zY FQ).size,zY D8,e9.symm,zY HQ7,by simp at q6 ⊢;omega,fun y hy=>absurd hy (by simp),by simp,by simp⟩
           case measure=>omega
         ·have hwf:s'.wat z.toNat=false:=by simpa using hwz
          have HWZ:=zZ hwf
          clear hwz hwf
          as_aux_lemma=>
           go_wp2_with (at_builtin;first | (refine xA sK (by omega) (by omega) (B:=wr.heap.size) (v:=.slice none 0 0) (n:=0) (m:=0) (xs:=[]) (news:=([z].take 0).map fun z=>Value.int .i64 z) rfl (.tmp 75) (.tmp 78) rfl (ad:=⟨g,0,none⟩) (cap:=1) rfl rfl (zX _ _ _ _) (by rw [List.length_map,List.length_take];simp;try omega) (zY NW1) (fun u hu=>(by obtain⟨_,_,rfl⟩:=List.mem_map.1 hu;rfl)) (by omega) (Nat.le_refl _) ?_;intro v5 w5 o5 f5 sh5;rw [Nat.zero_add,List.nil_append] at o5;rw [Nat.zero_add] at sh5;obtain⟨a5,c5,rfl⟩:=sh5;have f5':Fr (fun _=>False) wr w5 (fun _=>False):=⟨f5.os,f5.tape,f5.output,f5.size,fun k hk _=>f5.same k hk (by simp [own,Value.ownBlock]),fun _ _ h=>h⟩;have O5:=zZ o5;have F5:=zZ f5';have hz5:=f5.size;have NW2':=zZ (fun j u hj=>(f5'.cell g _ (zY HGL) (fun h=>h)).trans (zY NW2 j u hj));clear o5 f5 f5') | (refine xA sK (by omega) (by omega) (B:=wr.heap.size) (v:=.slice a5 0 c5) (n:=0) (m:=0) (xs:=([z].take 0).map fun z=>Value.int .i64 z) (news:=([z].drop (0+1)).map fun z=>Value.int .i64 z) rfl (.tmp 80) (.tmp 84) rfl (ad:=⟨g,0,none⟩) (cap:=0) rfl rfl (zY O5) (by rw [List.length_map,List.length_drop];simp) (fun j u hj=>absurd hj (by rw [List.drop_eq_nil_of_le (by simp)];simp)) (fun u hu=>(by obtain⟨_,_,rfl⟩:=List.mem_map.1 hu;rfl)) (by omega) hz5 ?_;intro v6 w6 o6 f6 sh6;rw [Nat.add_zero] at o6 sh6;obtain⟨a6,c6,rfl⟩:=sh6;have f46:Fr (fun _=>False) wr w6 (fun _=>False):=Fr.more (zY F5) f6 (fun q hq=>(zS (zY O5) q hq).1);have o6':yR w6 wr.heap.size (.slice a6 0 c6) ([z].eraseIdx 0):=(by unfold yR;exact o6);have h6:=(zY H4).fr L f46;have kw6:=(h6.cell (17+z.toNat) (by omega)).trans (by rw [uG _ _ _ _ _ _ (by omega)]);change w6.cell? _=some (.bool (s'.wat z.toNat)) at kw6;rw [zY HWZ] at kw6;have O6:=zZ o6';have F46:=zZ f46;have H6:=zZ h6;clear o6 o6' f6 f46 h6))
           have hap:∀q,own (.slice a6 0 c6) q->¬S' q:=fun q hq hS=>by have h1:=(zS (zY O6) q hq).1;have h2:=((zY H4).bound q hS).2;omega
           go_roundg k'
           case rel=>
            have e9:=zY E
            rw [show wk1 (gF ask p) z s' x2=(s',x2) from by unfold wk1;rw [if_neg (by rw [show PS.wat s' z.toNat=false from zY HWZ];simp)]] at e9
            exact⟨S',pv',vt',va',T',A',_,_,N',[],zY H6,zY P4,(zY FQ).trans ((zY F46).wide _),rC (zY O6) (zY FQ).size,hap,e9.symm,zY Q5,by simp at q6 ⊢;omega,fun y hy=>absurd hy (by simp),by simp,by simp⟩
           case measure=>omega
        ·skip
         by_cases hwz:s'.wat z.toNat=true
         ·have HWZ:=zZ hwz
          clear hwz
          as_aux_lemma=>
           have hzf:z<(p.fn:Int):=by have:=(zY Q5).2.wat z.toNat (zY HWZ);omega
           obtain⟨ua,uc,hut⟩:=yM (zY H4).row
           subst hut
           rcases zY HFF with hz00 | ⟨tb,toff,rfl,htb⟩
           ·omega
           obtain⟨vi,hvi,hops⟩:=htb z.toNat (by omega)
           have htbl:tb<w0.heap.size:=zU _ _ hvi
           have hln:s'.trace.length<=100000000:=by have:=(zY Q5).1.trace;omega
           have hq6:vL p (N'+1) {s' with trace:=s'.trace++[(2,z,0)]}:=pK (s:=s') (zY Q5)
           have hq7:=qF hs (ok.fr z.toNat (by omega)) {s' with trace:=s'.trace++[(2,z,0)]} x2 hq6
           have HQ6:=zZ hq6
           have HQ7:=zZ hq7
           have HOPS:=zZ hops
           have HVI:=zZ hvi
           clear hq6 hq7 hops hvi htb
           go_wp2_with (at_builtin;first | (refine xA sK (by omega) (by omega) (B:=wr.heap.size) (v:=.slice none 0 0) (n:=0) (m:=0) (xs:=[]) (news:=([z].take 0).map fun z=>Value.int .i64 z) rfl (.tmp 75) (.tmp 78) rfl (ad:=⟨g,0,none⟩) (cap:=lc') rfl rfl (zX _ _ _ _) (by rw [List.length_map,List.length_take];simp;try omega) (zY NW1) (fun u hu=>(by obtain⟨_,_,rfl⟩:=List.mem_map.1 hu;rfl)) (by omega) (Nat.le_refl _) ?_;intro v5 w5 o5 f5 sh5;rw [Nat.zero_add,List.nil_append] at o5;rw [Nat.zero_add] at sh5;obtain⟨a5,c5,rfl⟩:=sh5;have f5':Fr (fun _=>False) wr w5 (fun _=>False):=⟨f5.os,f5.tape,f5.output,f5.size,fun k hk _=>f5.same k hk (by simp [own,Value.ownBlock]),fun _ _ h=>h⟩;have O5:=zZ o5;have F5:=zZ f5';have hz5:=f5.size;have NW2':=zZ (fun j u hj=>(f5'.cell g _ (zY HGL) (fun h=>h)).trans (zY NW2 j u hj));clear o5 f5 f5') | (refine xA sK (by omega) (by omega) (B:=wr.heap.size) (v:=.slice a5 0 c5) (n:=0) (m:=0) (xs:=([z].take 0).map fun z=>Value.int .i64 z) (news:=([z].drop (0+1)).map fun z=>Value.int .i64 z) rfl (.tmp 80) (.tmp 84) rfl (ad:=⟨g,1,none⟩) (cap:=(lc'-1)) rfl rfl (zY O5) (by rw [List.length_map,List.length_drop];simp) (fun j u hj=>(by rw [sA];exact zY NW2' j u hj)) (fun u hu=>(by obtain⟨_,_,rfl⟩:=List.mem_map.1 hu;rfl)) (by omega) hz5 ?_;intro v6 w6 o6 f6 sh6;rw [Nat.add_zero] at o6 sh6;obtain⟨a6,c6,rfl⟩:=sh6;have f46:Fr (fun _=>False) wr w6 (fun _=>False):=Fr.more (zY F5) f6 (fun q hq=>(zS (zY O5) q hq).1);have o6':yR w6 wr.heap.size (.slice a6 0 c6) ([z].eraseIdx 0):=(by unfold yR;exact o6);have h6:=(zY H4).fr L f46;have kw6:=(h6.cell (17+z.toNat) (by omega)).trans (by rw [uG _ _ _ _ _ _ (by omega)]);change w6.cell? _=some (.bool (s'.wat z.toNat)) at kw6;rw [zY HWZ] at kw6;have k26:=(h6.cell 26 (by omega)).trans (by rw [xE]);change w6.cell? _=some (.slice ua s'.trace.length uc) at k26;have nb:=heap_alloc_new w6 (.cells #[.int .i64 2,.int .i64 z,.int .i64 0] 72);have h6a:=h6.alloc L (.cells #[.int .i64 2,.int .i64 z,.int .i64 0] 72);have hB6:=h6a.below;have hb6:=h6.blt;have O6:=zZ o6';have F46:=zZ f46;have NB:=zZ nb;have H6A:=zZ h6a;clear nb h6a;clear o6 o6' f6 f46 h6) | (refine sJ kP (by omega) (by omega) (B:=B) (v:=.slice ua s'.trace.length uc) (n:=s'.trace.length) (m:=1) (xs:=vD s'.trace) (news:=[.int .i64 2,.int .i64 z,.int .i64 0]) rfl (.tmp 96) (.tmp 99) rfl (ad:=⟨w6.heap.size,0,none⟩) (cap:=1) rfl rfl (by exact(zY H6A).row) rfl (World.news_of_block (zY NB)) (by simp [Value.oneCell']) (by omega) (by omega) hB6 ?_;intro v7 w7 o7 f7 sh7;obtain⟨av,cv,rfl⟩:=sh7;have c7:=(zY H6A).cells.block (f7.same b (zY H6A).blt (fun e=>((zY H6A).inV b e).2.1 rfl));have k26':=(c7 26 (by omega)).1.trans (by rw [xE]);have z26:=(c7 26 (by omega)).2;have FIN:=zZ ((zY H6A).setTrace L (o:=(2,z,0)) o7 f7);have kf2:=((zY FIN).1.cell 2 (by omega)).trans (by rw [xB _ _ _ _ _ _ (by omega),zY P4 2 (by omega),hfv]);have hbel7:Below w0.heap.size w0 (w7.setCell ⟨b,26,none⟩ (.slice av (s'.trace.length+1) cv)):=(zY HBEL).trans (zY HBE▸((zY FQ).trans (((zY F46).alloc (.cells #[.int .i64 2,.int .i64 z,.int .i64 0] 72)).wide _ |>.trans (zY FIN).2)).below (zY HSB) (zY HBW));have kvi:=(xT hbel7 tb (toff+z.toNat) htbl).trans (zY HVI);have htw7:tb<(w7.setCell ⟨b,26,none⟩ (.slice av (s'.trace.length+1) cv)).heap.size:=zT htbl hbel7.size;have HBEL7:=zZ hbel7;clear o7 f7 c7 hbel7))
           go_at_call 125
           refine(sH L K hm hm4 hs.clock (zY HBE) (zY HBEL7) (zY FIN).1 (zY HOPS) (ok.fl z.toNat (by omega)) ok.tn ok.fn (ok.fr z.toNat (by omega)) (zY HQ6).1 (by omega)).mono ?_
           rintro e w8 ⟨rfl,S8,pv8,vt8,va8,T8,A8,h8,p8,f8⟩
           have f68:=((zY FIN).2.trans f8)
           have hap:∀q,own (.slice a6 0 c6) q->¬S' q:=fun q hq hS=>by have h1:=(zS (zY O6) q hq).1;have h2:=((zY H4).bound q hS).2;omega
           have hf6s:=((Fr.refl S' w6).alloc (.cells #[.int .i64 2,.int .i64 z,.int .i64 0] 72)).trans f68
           have o8:yR w8 wr.heap.size (.slice a6 0 c6) ([z].eraseIdx 0):=yA (zY O6) (fun q hq=>hf6s.same q (zS (zY O6) q hq).2 (hap q hq))
           have d8:∀q,own (.slice a6 0 c6) q->¬S8 q:=fun q hq hS=>hap q hq (hf6s.old q (zS (zY O6) q hq).2 hS)
           have H8:=zZ h8
           have P8:=zZ p8
           have O8:=zZ o8
           have D8:=zZ d8
           have F8:=zZ ((zY FQ).trans (((zY F46).wide _).trans hf6s))
           clear h8 p8 f8 f68 hap hf6s o8 d8 kvi kf2 k26' z26 htw7
           go_wp2
           go_roundg k'
           case rel=>
            have e9:=zY E
            rw [show wk1 (gF ask p) z s' x2=gF ask p z {s' with trace:=s'.trace++[(2,z,0)]} x2 from by unfold wk1;rw [if_pos (by exact zY HWZ)]] at e9
            exact⟨S8,pv8,vt8,va8,T8,A8,_,_,N'+1,[],zY H8,fun i hi=>(zY P8 i hi).trans (zY P4 i hi),zY F8,rC (zY O8) (zY FQ).size,zY D8,e9.symm,zY HQ7,by simp at q6 ⊢;omega,fun y hy=>absurd hy (by simp),by simp,by simp⟩
           case measure=>omega
         ·have hwf:s'.wat z.toNat=false:=by simpa using hwz
          have HWZ:=zZ hwf
          clear hwz hwf
          as_aux_lemma=>
           go_wp2_with (at_builtin;first | (refine xA sK (by omega) (by omega) (B:=wr.heap.size) (v:=.slice none 0 0) (n:=0) (m:=0) (xs:=[]) (news:=([z].take 0).map fun z=>Value.int .i64 z) rfl (.tmp 75) (.tmp 78) rfl (ad:=⟨g,0,none⟩) (cap:=lc') rfl rfl (zX _ _ _ _) (by rw [List.length_map,List.length_take];simp;try omega) (zY NW1) (fun u hu=>(by obtain⟨_,_,rfl⟩:=List.mem_map.1 hu;rfl)) (by omega) (Nat.le_refl _) ?_;intro v5 w5 o5 f5 sh5;rw [Nat.zero_add,List.nil_append] at o5;rw [Nat.zero_add] at sh5;obtain⟨a5,c5,rfl⟩:=sh5;have f5':Fr (fun _=>False) wr w5 (fun _=>False):=⟨f5.os,f5.tape,f5.output,f5.size,fun k hk _=>f5.same k hk (by simp [own,Value.ownBlock]),fun _ _ h=>h⟩;have O5:=zZ o5;have F5:=zZ f5';have hz5:=f5.size;have NW2':=zZ (fun j u hj=>(f5'.cell g _ (zY HGL) (fun h=>h)).trans (zY NW2 j u hj));clear o5 f5 f5') | (refine xA sK (by omega) (by omega) (B:=wr.heap.size) (v:=.slice a5 0 c5) (n:=0) (m:=0) (xs:=([z].take 0).map fun z=>Value.int .i64 z) (news:=([z].drop (0+1)).map fun z=>Value.int .i64 z) rfl (.tmp 80) (.tmp 84) rfl (ad:=⟨g,1,none⟩) (cap:=(lc'-1)) rfl rfl (zY O5) (by rw [List.length_map,List.length_drop];simp) (fun j u hj=>(by rw [sA];exact zY NW2' j u hj)) (fun u hu=>(by obtain⟨_,_,rfl⟩:=List.mem_map.1 hu;rfl)) (by omega) hz5 ?_;intro v6 w6 o6 f6 sh6;rw [Nat.add_zero] at o6 sh6;obtain⟨a6,c6,rfl⟩:=sh6;have f46:Fr (fun _=>False) wr w6 (fun _=>False):=Fr.more (zY F5) f6 (fun q hq=>(zS (zY O5) q hq).1);have o6':yR w6 wr.heap.size (.slice a6 0 c6) ([z].eraseIdx 0):=(by unfold yR;exact o6);have h6:=(zY H4).fr L f46;have kw6:=(h6.cell (17+z.toNat) (by omega)).trans (by rw [uG _ _ _ _ _ _ (by omega)]);change w6.cell? _=some (.bool (s'.wat z.toNat)) at kw6;rw [zY HWZ] at kw6;have O6:=zZ o6';have F46:=zZ f46;have H6:=zZ h6;clear o6 o6' f6 f46 h6))
           have hap:∀q,own (.slice a6 0 c6) q->¬S' q:=fun q hq hS=>by have h1:=(zS (zY O6) q hq).1;have h2:=((zY H4).bound q hS).2;omega
           go_roundg k'
           case rel=>
            have e9:=zY E
            rw [show wk1 (gF ask p) z s' x2=(s',x2) from by unfold wk1;rw [if_neg (by rw [show PS.wat s' z.toNat=false from zY HWZ];simp)]] at e9
            exact⟨S',pv',vt',va',T',A',_,_,N',[],zY H6,zY P4,(zY FQ).trans ((zY F46).wide _),rC (zY O6) (zY FQ).size,hap,e9.symm,zY Q5,by simp at q6 ⊢;omega,fun y hy=>absurd hy (by simp),by simp,by simp⟩
           case measure=>omega
       ·have h2:2<=l.length:=by omega
        have h2':(1:Int)<(l.length:Int):=by omega
        have hc3:=K.calls q1 hfi (hm3 l.length h2 q9)
        have hpk:pk ask l.length s' x2=(if (ask x2 3 l.length).1.e=0 then (ask x2 3 l.length).1.n else 0,decide ((ask x2 3 l.length).1.e=0),hdS s' (ask x2 3 l.length).1,(ask x2 3 l.length).2):=by unfold pk;rw [if_neg h1]
        have hpl:=hs.pick x2 l.length h2 q9
        have hst:=cZ (ask:=ask) (gF ask p) k' l s' x2 hl0 hfi hpk
        generalize ask x2 3 l.length=R3 at *
        obtain⟨⟨r3k,r3o,r3n,r3f,r3e⟩,x4⟩:=R3
        dsimp only at hc3 hpl hst
        by_cases h3e:r3e=0
        ·have e3:sQ s' ⟨r3k,r3o,r3n,r3f,r3e⟩={s' with heard:=wrap64 (s'.heard+1)}:=by unfold sQ;rw [if_pos h3e]
         have e4:hdS s' ⟨r3k,r3o,r3n,r3f,r3e⟩={s' with heard:=wrap64 (s'.heard+1)}:=by unfold hdS;rw [if_pos h3e]
         obtain⟨kk,hkk⟩ : ∃kk:Nat,r3n=kk:=⟨r3n.toNat,by have:=(hpl h3e).1;omega⟩
         subst hkk
         have hkl:kk<l.length:=by have:=(hpl h3e).2;omega
         rw [e3] at hc3
         rw [e4,decide_eq_true h3e,if_pos rfl,if_pos h3e,show ((kk:Int)).toNat=kk by omega] at hst
         have E:=zZ (q3.symm.trans hst)
         have HC3:=zZ hc3
         have Q0:=zZ q0
         have Q2:=zZ q2
         have QO:=zZ qo
         have QD:=zZ qd
         have Q5:=zZ q5
         have Q8:=zZ q8
         have HE3:=zZ h3e
         have hfield:=zR7
         clear hc3 hst hpk hpl e3 e4 q1 q2 q0 q3 q5 qo qd q8 h1 h3e
         go_wp2_with fail
         go_at_call 141
         refine(zY HC3).mono ?_
         rintro e w4 ⟨kd4,of4,n4,fa4,fl4,fc4,rfl,⟨S4,pv4,T4,h4,p4,f4⟩,hn4⟩
         obtain⟨hn4,_⟩:=hn4 (zY HE3)
         subst hn4
         have k27:w4.cell? ⟨b,27,none⟩=some (.int .i64 0):=(h4.cell 27 (by omega)).trans (by rw [xF];exact congrArg (fun z=>some (Value.int .i64 z)) hfi)
         have o4:yR w4 w.heap.size (.slice la' l.length lc') l:=yA (zY QO) (fun q hq=>f4.same q (zS (zY QO) q hq).2 (zY QD q hq))
         have hcp:l.length<=lc':=by
          rcases o4.2 with ⟨e1,e2⟩ | ⟨g,cp,cur,e1,_,_,e2,_⟩
          ·have e2':l.length=0:=e2;omega
          ·injection e1 with _ _ e1;rw [e1];exact e2
         obtain⟨g,cg,hv,hg1,hg2,hcell⟩:=tU o4 hlp
         injection hv with hv hv2 hv3
         subst hv hv3
         clear hv2
         obtain⟨z,hz⟩ : ∃z,l[kk]?=some z:=⟨_,List.getElem?_eq_getElem hkl⟩
         have kz:w4.cell? ⟨g,kk,none⟩=some (.int .i64 z):=hcell kk _ (by rw [List.getElem?_map,hz];rfl)
         have nw1:∀j u,((l.take kk).map fun z=>Value.int .i64 z)[j]?=some u->w4.cell? (Addr.add ⟨g,0,none⟩ j)=some u:=fun j u hj=>by
          rw [sA,Nat.zero_add]
          refine hcell j u ?_
          rw [List.getElem?_map] at hj ⊢
          rw [List.getElem?_take] at hj
          split at hj
          ·exact hj
          ·cases hj
         have nw2:∀j u,((l.drop (kk+1)).map fun z=>Value.int .i64 z)[j]?=some u->w4.cell? ⟨g,kk+1+j,none⟩=some u:=fun j u hj=>by
          refine hcell _ u ?_
          rw [List.getElem?_map,List.getElem?_drop] at hj
          rw [List.getElem?_map]
          exact hj
         have H4:=zZ h4
         have P4:=zZ (show ∀i,i<3->pv4 i=pv i from fun i hi=>(p4 i hi).trans (zY Q0 i hi))
         have F4:=zZ f4
         have NW1:=zZ nw1
         have NW2:=zZ nw2
         have HGL:=zZ hg2
         have HZ:=zZ hz
         have hk0:(0:Int)<=(kk:Int):=by omega
         have hk1:(kk:Int)<(l.length:Int):=by omega
         have hk2:(kk:Int)<=(lc':Int):=by omega
         have hk3:(l.length:Int)<=(lc':Int):=by omega
         have hk4:(kk:Int)+1<=(l.length:Int):=by omega
         have hk5:(0:Int)<=(kk:Int)+1:=by omega
         have hgd:l.getD kk 0=z:=by rw [List.getD_eq_getElem?_getD,hz];rfl
         have E:=zZ (show tot=wkM ask (gF ask p) k' (l.eraseIdx kk) (wk1 (gF ask p) z {s' with heard:=wrap64 (s'.heard+1)} x4).1 (wk1 (gF ask p) z {s' with heard:=wrap64 (s'.heard+1)} x4).2 from by rw [<-hgd];exact zY E)
         obtain⟨hz0,hz8⟩:=zY Q8 z (List.mem_of_getElem? hz)
         have FQ:=zZ ((zY Q2).trans f4)
         clear h4 p4 f4 HC3 o4 hcell nw1 nw2 hz hgd
         by_cases hlc:lc'=kk+1
         ·subst hlc
          by_cases hwz:s'.wat z.toNat=true
          ·have HWZ:=zZ hwz
           clear hwz
           as_aux_lemma=>
            have hzf:z<(p.fn:Int):=by have:=(zY Q5).2.wat z.toNat (zY HWZ);omega
            obtain⟨ua,uc,hut⟩:=yM (zY H4).row
            subst hut
            rcases zY HFF with hz00 | ⟨tb,toff,rfl,htb⟩
            ·omega
            obtain⟨vi,hvi,hops⟩:=htb z.toNat (by omega)
            have htbl:tb<w0.heap.size:=zU _ _ hvi
            have hln:s'.trace.length<=100000000:=by have:=(zY Q5).1.trace;omega
            have hq6:vL p (N'+1) {{s' with heard:=wrap64 (s'.heard+1)} with trace:=s'.trace++[(2,z,0)]}:=pK (s:={s' with heard:=wrap64 (s'.heard+1)}) ⟨(zY Q5).1.of rfl rfl rfl rfl,(zY Q5).2.of rfl rfl rfl⟩
            have hq7:=qF hs (ok.fr z.toNat (by omega)) {s' with heard:=wrap64 (s'.heard+1),trace:=s'.trace++[(2,z,0)]} x4 hq6
            have HQ6:=zZ hq6
            have HQ7:=zZ hq7
            have HOPS:=zZ hops
            have HVI:=zZ hvi
            clear hq6 hq7 hops hvi htb
            go_wp2_with (at_builtin;first | (refine xA sK (by omega) (by omega) (B:=w4.heap.size) (v:=.slice none 0 0) (n:=0) (m:=kk) (xs:=[]) (news:=(l.take kk).map fun z=>Value.int .i64 z) rfl (.tmp 75) (.tmp 78) rfl (ad:=⟨g,0,none⟩) (cap:=(kk+1)) rfl rfl (zX _ _ _ _) (by rw [List.length_map,List.length_take];simp;try omega) (zY NW1) (fun u hu=>(by obtain⟨_,_,rfl⟩:=List.mem_map.1 hu;rfl)) (by omega) (Nat.le_refl _) ?_;intro v5 w5 o5 f5 sh5;rw [Nat.zero_add,List.nil_append] at o5;rw [Nat.zero_add] at sh5;obtain⟨a5,c5,rfl⟩:=sh5;have f5':Fr (fun _=>False) w4 w5 (fun _=>False):=⟨f5.os,f5.tape,f5.output,f5.size,fun k hk _=>f5.same k hk (by simp [own,Value.ownBlock]),fun _ _ h=>h⟩;have O5:=zZ o5;have F5:=zZ f5';have hz5:=f5.size;have NW2':=zZ (fun j u hj=>(f5'.cell g _ (zY HGL) (fun h=>h)).trans (zY NW2 j u hj));clear o5 f5 f5') | (refine xA sK (by omega) (by omega) (B:=w4.heap.size) (v:=.slice a5 kk c5) (n:=kk) (m:=0) (xs:=(l.take kk).map fun z=>Value.int .i64 z) (news:=(l.drop (kk+1)).map fun z=>Value.int .i64 z) rfl (.tmp 80) (.tmp 84) rfl (ad:=⟨g,0,none⟩) (cap:=0) rfl rfl (zY O5) (by rw [List.length_map,List.length_drop];simp;try omega) (fun j u hj=>absurd hj (by rw [List.drop_eq_nil_of_le (by omega)];simp)) (fun u hu=>(by obtain⟨_,_,rfl⟩:=List.mem_map.1 hu;rfl)) (by omega) hz5 ?_;intro v6 w6 o6 f6 sh6;rw [Nat.add_zero] at o6 sh6;obtain⟨a6,c6,rfl⟩:=sh6;have f46:Fr (fun _=>False) w4 w6 (fun _=>False):=Fr.more (zY F5) f6 (fun q hq=>(zS (zY O5) q hq).1);have o6':yR w6 w4.heap.size (.slice a6 kk c6) (l.eraseIdx kk):=(by unfold yR;rw [List.eraseIdx_eq_take_drop_succ,List.map_append,show (l.take kk++l.drop (kk+1)).length=kk by rw [List.length_append,List.length_take,List.length_drop];omega];exact o6);have h6:=(zY H4).fr L f46;have kw6:=(h6.cell (17+z.toNat) (by omega)).trans (by rw [uG _ _ _ _ _ _ (by omega)]);change w6.cell? _=some (.bool (s'.wat z.toNat)) at kw6;rw [zY HWZ] at kw6;have k26:=(h6.cell 26 (by omega)).trans (by rw [xE]);change w6.cell? _=some (.slice ua s'.trace.length uc) at k26;have nb:=heap_alloc_new w6 (.cells #[.int .i64 2,.int .i64 z,.int .i64 0] 72);have h6a:=h6.alloc L (.cells #[.int .i64 2,.int .i64 z,.int .i64 0] 72);have hB6:=h6a.below;have hb6:=h6.blt;have O6:=zZ o6';have F46:=zZ f46;have NB:=zZ nb;have H6A:=zZ h6a;clear nb h6a;clear o6 o6' f6 f46 h6) | (refine sJ kP (by omega) (by omega) (B:=B) (v:=.slice ua s'.trace.length uc) (n:=s'.trace.length) (m:=1) (xs:=vD s'.trace) (news:=[.int .i64 2,.int .i64 z,.int .i64 0]) rfl (.tmp 96) (.tmp 99) rfl (ad:=⟨w6.heap.size,0,none⟩) (cap:=1) rfl rfl (by exact(zY H6A).row) rfl (World.news_of_block (zY NB)) (by simp [Value.oneCell']) (by omega) (by omega) hB6 ?_;intro v7 w7 o7 f7 sh7;obtain⟨av,cv,rfl⟩:=sh7;have c7:=(zY H6A).cells.block (f7.same b (zY H6A).blt (fun e=>((zY H6A).inV b e).2.1 rfl));have k26':=(c7 26 (by omega)).1.trans (by rw [xE]);have z26:=(c7 26 (by omega)).2;have FIN:=zZ ((zY H6A).setTrace L (o:=(2,z,0)) o7 f7);have kf2:=((zY FIN).1.cell 2 (by omega)).trans (by rw [xB _ _ _ _ _ _ (by omega),zY P4 2 (by omega),hfv]);have hbel7:Below w0.heap.size w0 (w7.setCell ⟨b,26,none⟩ (.slice av (s'.trace.length+1) cv)):=(zY HBEL).trans (zY HBE▸((zY FQ).trans (((zY F46).alloc (.cells #[.int .i64 2,.int .i64 z,.int .i64 0] 72)).wide _ |>.trans (zY FIN).2)).below (zY HSB) (zY HBW));have kvi:=(xT hbel7 tb (toff+z.toNat) htbl).trans (zY HVI);have htw7:tb<(w7.setCell ⟨b,26,none⟩ (.slice av (s'.trace.length+1) cv)).heap.size:=zT htbl hbel7.size;have HBEL7:=zZ hbel7;clear o7 f7 c7 hbel7))
            go_at_call 125
            refine(sH L K hm hm4 hs.clock (zY HBE) (zY HBEL7) (zY FIN).1 (zY HOPS) (ok.fl z.toNat (by omega)) ok.tn ok.fn (ok.fr z.toNat (by omega)) (zY HQ6).1 (by omega)).mono ?_
            rintro e w8 ⟨rfl,S8,pv8,vt8,va8,T8,A8,h8,p8,f8⟩
            have f68:=((zY FIN).2.trans f8)
            have hap:∀q,own (.slice a6 kk c6) q->¬S4 q:=fun q hq hS=>by have h1:=(zS (zY O6) q hq).1;have h2:=((zY H4).bound q hS).2;omega
            have hf6s:=((Fr.refl S4 w6).alloc (.cells #[.int .i64 2,.int .i64 z,.int .i64 0] 72)).trans f68
            have o8:yR w8 w4.heap.size (.slice a6 kk c6) (l.eraseIdx kk):=yA (zY O6) (fun q hq=>hf6s.same q (zS (zY O6) q hq).2 (hap q hq))
            have d8:∀q,own (.slice a6 kk c6) q->¬S8 q:=fun q hq hS=>hap q hq (hf6s.old q (zS (zY O6) q hq).2 hS)
            have H8:=zZ h8
            have P8:=zZ p8
            have O8:=zZ o8
            have D8:=zZ d8
            have F8:=zZ ((zY FQ).trans (((zY F46).wide _).trans hf6s))
            clear h8 p8 f8 f68 hap hf6s o8 d8 kvi kf2 k26' z26 htw7
            go_wp2
            go_roundg k'
            case rel=>
             have e9:=zY E
             rw [show wk1 (gF ask p) z {s' with heard:=wrap64 (s'.heard+1)} x4=gF ask p z {{s' with heard:=wrap64 (s'.heard+1)} with trace:=s'.trace++[(2,z,0)]} x4 from by unfold wk1;rw [if_pos (by exact zY HWZ)]] at e9
             exact⟨S8,pv8,vt8,va8,T8,A8,_,_,N'+1,(l.eraseIdx kk),zY H8,fun i hi=>(zY P8 i hi).trans (zY P4 i hi),zY F8,rC (zY O8) (zY FQ).size,zY D8,e9.symm,zY HQ7,by rw [List.length_eraseIdx_of_lt hkl];omega,fun y hy=>zY Q8 y (List.mem_of_mem_eraseIdx hy),by rw [List.length_eraseIdx_of_lt hkl];omega,by rw [List.length_eraseIdx_of_lt hkl];omega⟩
            case measure=>omega
          ·have hwf:s'.wat z.toNat=false:=by simpa using hwz
           have HWZ:=zZ hwf
           clear hwz hwf
           as_aux_lemma=>
            go_wp2_with (at_builtin;first | (refine xA sK (by omega) (by omega) (B:=w4.heap.size) (v:=.slice none 0 0) (n:=0) (m:=kk) (xs:=[]) (news:=(l.take kk).map fun z=>Value.int .i64 z) rfl (.tmp 75) (.tmp 78) rfl (ad:=⟨g,0,none⟩) (cap:=(kk+1)) rfl rfl (zX _ _ _ _) (by rw [List.length_map,List.length_take];simp;try omega) (zY NW1) (fun u hu=>(by obtain⟨_,_,rfl⟩:=List.mem_map.1 hu;rfl)) (by omega) (Nat.le_refl _) ?_;intro v5 w5 o5 f5 sh5;rw [Nat.zero_add,List.nil_append] at o5;rw [Nat.zero_add] at sh5;obtain⟨a5,c5,rfl⟩:=sh5;have f5':Fr (fun _=>False) w4 w5 (fun _=>False):=⟨f5.os,f5.tape,f5.output,f5.size,fun k hk _=>f5.same k hk (by simp [own,Value.ownBlock]),fun _ _ h=>h⟩;have O5:=zZ o5;have F5:=zZ f5';have hz5:=f5.size;have NW2':=zZ (fun j u hj=>(f5'.cell g _ (zY HGL) (fun h=>h)).trans (zY NW2 j u hj));clear o5 f5 f5') | (refine xA sK (by omega) (by omega) (B:=w4.heap.size) (v:=.slice a5 kk c5) (n:=kk) (m:=0) (xs:=(l.take kk).map fun z=>Value.int .i64 z) (news:=(l.drop (kk+1)).map fun z=>Value.int .i64 z) rfl (.tmp 80) (.tmp 84) rfl (ad:=⟨g,0,none⟩) (cap:=0) rfl rfl (zY O5) (by rw [List.length_map,List.length_drop];simp;try omega) (fun j u hj=>absurd hj (by rw [List.drop_eq_nil_of_le (by omega)];simp)) (fun u hu=>(by obtain⟨_,_,rfl⟩:=List.mem_map.1 hu;rfl)) (by omega) hz5 ?_;intro v6 w6 o6 f6 sh6;rw [Nat.add_zero] at o6 sh6;obtain⟨a6,c6,rfl⟩:=sh6;have f46:Fr (fun _=>False) w4 w6 (fun _=>False):=Fr.more (zY F5) f6 (fun q hq=>(zS (zY O5) q hq).1);have o6':yR w6 w4.heap.size (.slice a6 kk c6) (l.eraseIdx kk):=(by unfold yR;rw [List.eraseIdx_eq_take_drop_succ,List.map_append,show (l.take kk++l.drop (kk+1)).length=kk by rw [List.length_append,List.length_take,List.length_drop];omega];exact o6);have h6:=(zY H4).fr L f46;have kw6:=(h6.cell (17+z.toNat) (by omega)).trans (by rw [uG _ _ _ _ _ _ (by omega)]);change w6.cell? _=some (.bool (s'.wat z.toNat)) at kw6;rw [zY HWZ] at kw6;have O6:=zZ o6';have F46:=zZ f46;have H6:=zZ h6;clear o6 o6' f6 f46 h6))
            have hap:∀q,own (.slice a6 kk c6) q->¬S4 q:=fun q hq hS=>by have h1:=(zS (zY O6) q hq).1;have h2:=((zY H4).bound q hS).2;omega
            go_roundg k'
            case rel=>
             have e9:=zY E
             rw [show wk1 (gF ask p) z {s' with heard:=wrap64 (s'.heard+1)} x4=({s' with heard:=wrap64 (s'.heard+1)},x4) from by unfold wk1;rw [if_neg (by rw [show PS.wat {s' with heard:=wrap64 (s'.heard+1)} z.toNat=false from zY HWZ];simp)]] at e9
             exact⟨S4,pv4,vt',va',T4,A',_,_,N',(l.eraseIdx kk),zY H6,zY P4,(zY FQ).trans ((zY F46).wide _),rC (zY O6) (zY FQ).size,hap,e9.symm,⟨(zY Q5).1.of rfl rfl rfl rfl,(zY Q5).2.of rfl rfl rfl⟩,by rw [List.length_eraseIdx_of_lt hkl];omega,fun y hy=>zY Q8 y (List.mem_of_mem_eraseIdx hy),by rw [List.length_eraseIdx_of_lt hkl];omega,by rw [List.length_eraseIdx_of_lt hkl];omega⟩
            case measure=>omega
         ·skip
          by_cases hwz:s'.wat z.toNat=true
          ·have HWZ:=zZ hwz
           clear hwz
           as_aux_lemma=>
            have hzf:z<(p.fn:Int):=by have:=(zY Q5).2.wat z.toNat (zY HWZ);omega
            obtain⟨ua,uc,hut⟩:=yM (zY H4).row
            subst hut
            rcases zY HFF with hz00 | ⟨tb,toff,rfl,htb⟩
            ·omega
            obtain⟨vi,hvi,hops⟩:=htb z.toNat (by omega)
            have htbl:tb<w0.heap.size:=zU _ _ hvi
            have hln:s'.trace.length<=100000000:=by have:=(zY Q5).1.trace;omega
            have hq6:vL p (N'+1) {{s' with heard:=wrap64 (s'.heard+1)} with trace:=s'.trace++[(2,z,0)]}:=pK (s:={s' with heard:=wrap64 (s'.heard+1)}) ⟨(zY Q5).1.of rfl rfl rfl rfl,(zY Q5).2.of rfl rfl rfl⟩
            have hq7:=qF hs (ok.fr z.toNat (by omega)) {s' with heard:=wrap64 (s'.heard+1),trace:=s'.trace++[(2,z,0)]} x4 hq6
            have HQ6:=zZ hq6
            have HQ7:=zZ hq7
            have HOPS:=zZ hops
            have HVI:=zZ hvi
            clear hq6 hq7 hops hvi htb
            go_wp2_with (at_builtin;first | (refine xA sK (by omega) (by omega) (B:=w4.heap.size) (v:=.slice none 0 0) (n:=0) (m:=kk) (xs:=[]) (news:=(l.take kk).map fun z=>Value.int .i64 z) rfl (.tmp 75) (.tmp 78) rfl (ad:=⟨g,0,none⟩) (cap:=lc') rfl rfl (zX _ _ _ _) (by rw [List.length_map,List.length_take];simp;try omega) (zY NW1) (fun u hu=>(by obtain⟨_,_,rfl⟩:=List.mem_map.1 hu;rfl)) (by omega) (Nat.le_refl _) ?_;intro v5 w5 o5 f5 sh5;rw [Nat.zero_add,List.nil_append] at o5;rw [Nat.zero_add] at sh5;obtain⟨a5,c5,rfl⟩:=sh5;have f5':Fr (fun _=>False) w4 w5 (fun _=>False):=⟨f5.os,f5.tape,f5.output,f5.size,fun k hk _=>f5.same k hk (by simp [own,Value.ownBlock]),fun _ _ h=>h⟩;have O5:=zZ o5;have F5:=zZ f5';have hz5:=f5.size;have NW2':=zZ (fun j u hj=>(f5'.cell g _ (zY HGL) (fun h=>h)).trans (zY NW2 j u hj));clear o5 f5 f5') | (refine xA sK (by omega) (by omega) (B:=w4.heap.size) (v:=.slice a5 kk c5) (n:=kk) (m:=(l.length-(kk+1))) (xs:=(l.take kk).map fun z=>Value.int .i64 z) (news:=(l.drop (kk+1)).map fun z=>Value.int .i64 z) rfl (.tmp 80) (.tmp 84) rfl (ad:=⟨g,kk+1,none⟩) (cap:=(lc'-(kk+1))) rfl rfl (zY O5) (by rw [List.length_map,List.length_drop];simp) (fun j u hj=>(by rw [sA];exact zY NW2' j u hj)) (fun u hu=>(by obtain⟨_,_,rfl⟩:=List.mem_map.1 hu;rfl)) (by omega) hz5 ?_;intro v6 w6 o6 f6 sh6;obtain⟨a6,c6,rfl⟩:=sh6;have f46:Fr (fun _=>False) w4 w6 (fun _=>False):=Fr.more (zY F5) f6 (fun q hq=>(zS (zY O5) q hq).1);have o6':yR w6 w4.heap.size (.slice a6 (kk+(l.length-(kk+1))) c6) (l.eraseIdx kk):=(by unfold yR;rw [List.eraseIdx_eq_take_drop_succ,List.map_append,show (l.take kk++l.drop (kk+1)).length=kk+(l.length-(kk+1)) by rw [List.length_append,List.length_take,List.length_drop];omega];exact o6);have h6:=(zY H4).fr L f46;have kw6:=(h6.cell (17+z.toNat) (by omega)).trans (by rw [uG _ _ _ _ _ _ (by omega)]);change w6.cell? _=some (.bool (s'.wat z.toNat)) at kw6;rw [zY HWZ] at kw6;have k26:=(h6.cell 26 (by omega)).trans (by rw [xE]);change w6.cell? _=some (.slice ua s'.trace.length uc) at k26;have nb:=heap_alloc_new w6 (.cells #[.int .i64 2,.int .i64 z,.int .i64 0] 72);have h6a:=h6.alloc L (.cells #[.int .i64 2,.int .i64 z,.int .i64 0] 72);have hB6:=h6a.below;have hb6:=h6.blt;have O6:=zZ o6';have F46:=zZ f46;have NB:=zZ nb;have H6A:=zZ h6a;clear nb h6a;clear o6 o6' f6 f46 h6) | (refine sJ kP (by omega) (by omega) (B:=B) (v:=.slice ua s'.trace.length uc) (n:=s'.trace.length) (m:=1) (xs:=vD s'.trace) (news:=[.int .i64 2,.int .i64 z,.int .i64 0]) rfl (.tmp 96) (.tmp 99) rfl (ad:=⟨w6.heap.size,0,none⟩) (cap:=1) rfl rfl (by exact(zY H6A).row) rfl (World.news_of_block (zY NB)) (by simp [Value.oneCell']) (by omega) (by omega) hB6 ?_;intro v7 w7 o7 f7 sh7;obtain⟨av,cv,rfl⟩:=sh7;have c7:=(zY H6A).cells.block (f7.same b (zY H6A).blt (fun e=>((zY H6A).inV b e).2.1 rfl));have k26':=(c7 26 (by omega)).1.trans (by rw [xE]);have z26:=(c7 26 (by omega)).2;have FIN:=zZ ((zY H6A).setTrace L (o:=(2,z,0)) o7 f7);have kf2:=((zY FIN).1.cell 2 (by omega)).trans (by rw [xB _ _ _ _ _ _ (by omega),zY P4 2 (by omega),hfv]);have hbel7:Below w0.heap.size w0 (w7.setCell ⟨b,26,none⟩ (.slice av (s'.trace.length+1) cv)):=(zY HBEL).trans (zY HBE▸((zY FQ).trans (((zY F46).alloc (.cells #[.int .i64 2,.int .i64 z,.int .i64 0] 72)).wide _ |>.trans (zY FIN).2)).below (zY HSB) (zY HBW));have kvi:=(xT hbel7 tb (toff+z.toNat) htbl).trans (zY HVI);have htw7:tb<(w7.setCell ⟨b,26,none⟩ (.slice av (s'.trace.length+1) cv)).heap.size:=zT htbl hbel7.size;have HBEL7:=zZ hbel7;clear o7 f7 c7 hbel7))
            go_at_call 125
            refine(sH L K hm hm4 hs.clock (zY HBE) (zY HBEL7) (zY FIN).1 (zY HOPS) (ok.fl z.toNat (by omega)) ok.tn ok.fn (ok.fr z.toNat (by omega)) (zY HQ6).1 (by omega)).mono ?_
            rintro e w8 ⟨rfl,S8,pv8,vt8,va8,T8,A8,h8,p8,f8⟩
            have f68:=((zY FIN).2.trans f8)
            have hap:∀q,own (.slice a6 (kk+(l.length-(kk+1))) c6) q->¬S4 q:=fun q hq hS=>by have h1:=(zS (zY O6) q hq).1;have h2:=((zY H4).bound q hS).2;omega
            have hf6s:=((Fr.refl S4 w6).alloc (.cells #[.int .i64 2,.int .i64 z,.int .i64 0] 72)).trans f68
            have o8:yR w8 w4.heap.size (.slice a6 (kk+(l.length-(kk+1))) c6) (l.eraseIdx kk):=yA (zY O6) (fun q hq=>hf6s.same q (zS (zY O6) q hq).2 (hap q hq))
            have d8:∀q,own (.slice a6 (kk+(l.length-(kk+1))) c6) q->¬S8 q:=fun q hq hS=>hap q hq (hf6s.old q (zS (zY O6) q hq).2 hS)
            have H8:=zZ h8
            have P8:=zZ p8
            have O8:=zZ o8
            have D8:=zZ d8
            have F8:=zZ ((zY FQ).trans (((zY F46).wide _).trans hf6s))
            clear h8 p8 f8 f68 hap hf6s o8 d8 kvi kf2 k26' z26 htw7
            go_wp2
            go_roundg k'
            case rel=>
             have e9:=zY E
             rw [show wk1 (gF ask p) z {s' with heard:=wrap64 (s'.heard+1)} x4=gF ask p z {{s' with heard:=wrap64 (s'.heard+1)} with trace:=s'.trace++[(2,z,0)]} x4 from by unfold wk1;rw [if_pos (by exact zY HWZ)]] at e9
             exact⟨S8,pv8,vt8,va8,T8,A8,_,_,N'+1,(l.eraseIdx kk),zY H8,fun i hi=>(zY P8 i hi).trans (zY P4 i hi),zY F8,rC (zY O8) (zY FQ).size,zY D8,e9.symm,zY HQ7,by rw [List.length_eraseIdx_of_lt hkl];omega,fun y hy=>zY Q8 y (List.mem_of_mem_eraseIdx hy),by rw [List.length_eraseIdx_of_lt hkl];omega,by rw [List.length_eraseIdx_of_lt hkl];omega⟩
            case measure=>omega
          ·have hwf:s'.wat z.toNat=false:=by simpa using hwz
           have HWZ:=zZ hwf
           clear hwz hwf
           as_aux_lemma=>
            go_wp2_with (at_builtin;first | (refine xA sK (by omega) (by omega) (B:=w4.heap.size) (v:=.slice none 0 0) (n:=0) (m:=kk) (xs:=[]) (news:=(l.take kk).map fun z=>Value.int .i64 z) rfl (.tmp 75) (.tmp 78) rfl (ad:=⟨g,0,none⟩) (cap:=lc') rfl rfl (zX _ _ _ _) (by rw [List.length_map,List.length_take];simp;try omega) (zY NW1) (fun u hu=>(by obtain⟨_,_,rfl⟩:=List.mem_map.1 hu;rfl)) (by omega) (Nat.le_refl _) ?_;intro v5 w5 o5 f5 sh5;rw [Nat.zero_add,List.nil_append] at o5;rw [Nat.zero_add] at sh5;obtain⟨a5,c5,rfl⟩:=sh5;have f5':Fr (fun _=>False) w4 w5 (fun _=>False):=⟨f5.os,f5.tape,f5.output,f5.size,fun k hk _=>f5.same k hk (by simp [own,Value.ownBlock]),fun _ _ h=>h⟩;have O5:=zZ o5;have F5:=zZ f5';have hz5:=f5.size;have NW2':=zZ (fun j u hj=>(f5'.cell g _ (zY HGL) (fun h=>h)).trans (zY NW2 j u hj));clear o5 f5 f5') | (refine xA sK (by omega) (by omega) (B:=w4.heap.size) (v:=.slice a5 kk c5) (n:=kk) (m:=(l.length-(kk+1))) (xs:=(l.take kk).map fun z=>Value.int .i64 z) (news:=(l.drop (kk+1)).map fun z=>Value.int .i64 z) rfl (.tmp 80) (.tmp 84) rfl (ad:=⟨g,kk+1,none⟩) (cap:=(lc'-(kk+1))) rfl rfl (zY O5) (by rw [List.length_map,List.length_drop];simp) (fun j u hj=>(by rw [sA];exact zY NW2' j u hj)) (fun u hu=>(by obtain⟨_,_,rfl⟩:=List.mem_map.1 hu;rfl)) (by omega) hz5 ?_;intro v6 w6 o6 f6 sh6;obtain⟨a6,c6,rfl⟩:=sh6;have f46:Fr (fun _=>False) w4 w6 (fun _=>False):=Fr.more (zY F5) f6 (fun q hq=>(zS (zY O5) q hq).1);have o6':yR w6 w4.heap.size (.slice a6 (kk+(l.length-(kk+1))) c6) (l.eraseIdx kk):=(by unfold yR;rw [List.eraseIdx_eq_take_drop_succ,List.map_append,show (l.take kk++l.drop (kk+1)).length=kk+(l.length-(kk+1)) by rw [List.length_append,List.length_take,List.length_drop];omega];exact o6);have h6:=(zY H4).fr L f46;have kw6:=(h6.cell (17+z.toNat) (by omega)).trans (by rw [uG _ _ _ _ _ _ (by omega)]);change w6.cell? _=some (.bool (s'.wat z.toNat)) at kw6;rw [zY HWZ] at kw6;have O6:=zZ o6';have F46:=zZ f46;have H6:=zZ h6;clear o6 o6' f6 f46 h6))
            have hap:∀q,own (.slice a6 (kk+(l.length-(kk+1))) c6) q->¬S4 q:=fun q hq hS=>by have h1:=(zS (zY O6) q hq).1;have h2:=((zY H4).bound q hS).2;omega
            go_roundg k'
            case rel=>
             have e9:=zY E
             rw [show wk1 (gF ask p) z {s' with heard:=wrap64 (s'.heard+1)} x4=({s' with heard:=wrap64 (s'.heard+1)},x4) from by unfold wk1;rw [if_neg (by rw [show PS.wat {s' with heard:=wrap64 (s'.heard+1)} z.toNat=false from zY HWZ];simp)]] at e9
             exact⟨S4,pv4,vt',va',T4,A',_,_,N',(l.eraseIdx kk),zY H6,zY P4,(zY FQ).trans ((zY F46).wide _),rC (zY O6) (zY FQ).size,hap,e9.symm,⟨(zY Q5).1.of rfl rfl rfl rfl,(zY Q5).2.of rfl rfl rfl⟩,by rw [List.length_eraseIdx_of_lt hkl];omega,fun y hy=>zY Q8 y (List.mem_of_mem_eraseIdx hy),by rw [List.length_eraseIdx_of_lt hkl];omega,by rw [List.length_eraseIdx_of_lt hkl];omega⟩
            case measure=>omega
        ·have e3:sQ s' ⟨r3k,r3o,r3n,r3f,r3e⟩={s' with fin:=r3e}:=by unfold sQ;rw [if_neg h3e]
         have e4:hdS s' ⟨r3k,r3o,r3n,r3f,r3e⟩={s' with fin:=r3e}:=by unfold hdS;rw [if_neg h3e]
         rw [e3] at hc3
         rw [e4] at hst
         rw [decide_eq_false h3e] at hst
         have E:=zZ (q3.symm.trans hst)
         have HC3:=zZ hc3
         have Q0:=zZ q0
         have Q2:=zZ q2
         have h3b:(r3e==0)=false:=by simpa using h3e
         have hfield:=zR7
         clear hc3 hst hpk hpl e3 e4 q1 q2 q0 q3 q5 qo qd q8 h1
         go_wp2_with fail
         go_at_call 141
         refine(zY HC3).mono ?_
         rintro e w4 ⟨kd4,of4,n4,fa4,fl4,fc4,rfl,⟨S4,pv4,T4,h4,p4,f4⟩,_⟩
         have k27:=(h4.cell 27 (by omega)).trans (by rw [xF])
         change w4.cell? _=some (.int .i64 r3e) at k27
         have H4:=zZ h4
         have P4:=zZ (show ∀i,i<3->pv4 i=pv i from fun i hi=>(p4 i hi).trans (zY Q0 i hi))
         have F4:=zZ f4
         clear h4 p4 f4 HC3
         go_wp2
         refine bodyPost_ret (v:=.tuple #[]) (by simp [results,Tryz.results129,go_sem]) rfl ?_
         rw [zY E]
         exact⟨rfl,S4,pv4,vt',va',T4,A',zY H4,zY P4,(zY Q2).trans (zY F4)⟩
      ·have e:=q3.symm.trans (iK _ gk l s' x2 (.inr hfi))
       have hfb:(s'.fin==0)=false:=by simpa using hfi
       have Q1:=zZ q1
       have Q2:=zZ q2
       have Q0:=zZ q0
       have E:=zZ e
       clear q1 q2 q3 q5 q0 qo qd q8 e
       go_wp2
       go_end0
       rw [zY E]
       exact⟨rfl,S',pv',vt',va',T',A',zY Q1,zY Q0,zY Q2⟩
 ·rw [if_neg hre]
  have e0:sQ s ⟨rk,ro,rn,rf,re⟩={s with fin:=re}:=by unfold sQ;rw [if_neg hre]
  rw [e0] at HC
  have hrb:(re==0)=false:=by simpa using hre
  clear e0
  go_enter Tryz.func129,Tryz.ntmps129
  go_wp2_with fail
  go_at_call 141
  refine(zY HC).mono ?_
  rintro e w1 ⟨kd,of_,n,fa,fl,fc,rfl,⟨S1,pv1,T1,h1,p1,f1⟩,_⟩
  have k27:=(h1.cell 27 (by omega)).trans (by rw [xF])
  change w1.cell? _=some (.int .i64 re) at k27
  have hb1:=h1.blt
  have hn6:¬b=w1.heap.size:=by omega
  have hn5:¬w1.heap.size=b:=by omega
  have HA:=zZ (h1.alloc L (.cells #[.int .i64 kd,.int .i64 of_,.int .i64 n,.slice fa fl fc] 49))
  have FA:=zZ (f1.alloc (.cells #[.int .i64 kd,.int .i64 of_,.int .i64 n,.slice fa fl fc] 49))
  have P1:=zZ p1
  clear h1 f1 p1 HC
  go_wp2
  refine bodyPost_ret (v:=.tuple #[]) (by simp [results,Tryz.results129,go_sem]) rfl ⟨rfl,?_⟩
  exact⟨S1,pv1,vt,va,T1,A,zY HA,zY P1,zY FA⟩
end
section
variable {σ:Type} {SQ:(Nat->Value)->(Nat->Prop)->World->σ->Prop} {ask:σ->Int->Int->Rep×σ} {may:Int->Int->Prop} {mes:σ->Nat} {B:Nat} {S T:Nat->Prop} {w:World} {b:Nat} {pv:Nat->Value} {vt va:Value} {s:PS} {A:List AT} {tn sq:Int} {x:σ}
def URel (SQ:(Nat->Value)->(Nat->Prop)->World->σ->Prop) (ask:σ->Int->Int->Rep×σ) (mes:σ->Nat) (B:Nat) (S:Nat->Prop) (w:World) (b:Nat) (pv:Nat->Value) (p:Pg) (fin:PS×σ) (k:Nat) (wr:World):Prop:=
 ∃S' pv' vt' va' T' A' s' x' N tn sq,LQ SQ B S' wr b pv' vt' va' T' s' A' tn sq x'/\(∀i,i<3->pv' i=pv i)/\Fr S w wr S'/\xG ask p k s' x'=fin/\vL p N s'/\N+16*k<=100000000/\(s'.fin≠0\/mes x'<k)/\0<=tn/\tn+k<=100000000
def URun (SQ:(Nat->Value)->(Nat->Prop)->World->σ->Prop) (B:Nat) (S:Nat->Prop) (w:World) (b:Nat) (pv:Nat->Value) (s:PS) (x:σ) (w':World):Prop:=∃tn sq,eD SQ B S w b pv tn sq s x w'
theorem kI {w2:World} {S2 T2:Nat->Prop} {pv2:Nat->Value} {vt2 va2:Value} {A2:List AT} {s2:PS} {x2:σ} {N k':Nat} {p:Pg} {fin:PS×σ} (p1:LQ SQ B S2 w2 b pv2 vt2 va2 T2 s2 A2 tn sq x2) (p0:∀i,i<3->pv2 i=pv i) (p2:Fr S w w2 S2) (e:fin=xG ask p k' s2 x2) (q:vL p N s2) (hN:N+16*k'<=100000000) (hm:s2.fin≠0\/mes x2<k') (ht:0<=tn) (ht2:tn+k'<=100000000):URel SQ ask mes B S w b pv p fin k' w2:=
 ⟨S2,pv2,vt2,va2,T2,A2,s2,x2,N,tn,sq,p1,p0,p2,e.symm,q,hN,hm,ht,ht2⟩
theorem zI3 (L:rK SQ B) (K:eB SQ ask may B) (hm:oJ may) (hs:uP ask mes) {w0:World} (hB:B=w0.heap.size) (hbel:Below w0.heap.size w0 w) {p:Pg} (pg:oE w0 pv p) (ok:sM p) (f:Int) (h:LQ SQ B S w b pv vt va T (s0 (min (max f 0) 5000)) A tn sq x) (h0:tn=0) (hM0:mes x<=5000000) :
  Calls Tryz.prog 107 #[.pointer (some ⟨b,0,none⟩)] w fun e w'=>e=.returned (.tuple #[])/\URun SQ B S w b pv (tG ask p (mes x+1) f x).1 (tG ask p (mes x+1) f x).2 w':=by
 subst h0
 have hq0:vL p 5000 (s0 (min (max f 0) 5000)):=⟨⟨⟨by show 0<=min (max f 0) 5000;omega,by show min (max f 0) 5000<=5000;omega⟩,⟨Int.le_refl 0,by show (0:Int)<=1099511627776;omega⟩,⟨Int.le_refl 0,by show 0+min (max f 0) 5000<=5000;omega⟩,by show 0+(min (max f 0) 5000).toNat<=5000;omega⟩,⟨fun i hi=>(by cases hi),fun i hi=>(by cases hi),fun i hi=>(by cases hi),fun i j hi=>(by cases hi)⟩⟩
 have hq1:=qF hs ok.sr (s0 (min (max f 0) 5000)) x hq0
 have hmes:=iS hs (f:=p.sf) (n:=p.sn) p.sn {s0 (min (max f 0) 5000) with next:=0} x
 have hcall:=sH L K hm.clock hm.lot hs.clock hB hbel h pg.s ok.sl ok.tn ok.fn ok.sr hq0.1 (by omega)
 have hSB:∀k,S k->B<=k:=fun k hk=>(h.bound k hk).1
 have hBw:B<=w.heap.size:=h.below
 have hc0:=(h.cell 0 (by omega)).trans (by rw [xB _ _ _ _ _ _ (by omega)])
 have hsv:=pg.s
 obtain⟨sa,sc,hpv0,_,_⟩:=hsv
 rw [hpv0] at hc0 hcall
 change Calls _ _ _ _ (fun e w'=>e=Ending.returned (.tuple #[])/\eD SQ B S w b pv 0 sq (hM ask p.sf p.sn p.sn (s0 (min (max f 0) 5000)) x).1 (hM ask p.sf p.sn p.sn (s0 (min (max f 0) 5000)) x).2 w') at hcall
 change vL p 5000 (hM ask p.sf p.sn p.sn (s0 (min (max f 0) 5000)) x).1 at hq1
 change mes (hM ask p.sf p.sn p.sn (s0 (min (max f 0) 5000)) x).2<=mes x at hmes
 unfold tG
 generalize hH:hM ask p.sf p.sn p.sn (s0 (min (max f 0) 5000)) x=Hh at *
 obtain⟨s1,x1⟩:=Hh
 dsimp only at hcall hq1 hmes ⊢
 have r0:∀w1,eD SQ B S w b pv 0 sq s1 x1 w1->URel SQ ask mes B S w b pv p (xG ask p (mes x+1) s1 x1) (mes x+1) w1:=fun w1 ⟨S1,pv1,vt1,va1,T1,A1,l1,p1,f1⟩=>
  kI l1 p1 f1 rfl hq1 (by omega) (.inr (by omega)) (Int.le_refl 0) (by omega)
 generalize xG ask p (mes x+1) s1 x1=fin at *
 generalize mes x+1=K0 at *
 have R0:=zZ r0
 have HC:=zZ hcall
 have HSB:=zZ hSB
 have HBW:=zZ hBw
 have HBEL:=zZ hbel
 have HBE:=zZ hB
 have HPG:=zZ pg
 clear h r0 hcall hSB hBw hbel hB pg hq0 hq1 hmes hH
 go_enter Tryz.func107,Tryz.ntmps107
 go_wp2_with fail
 go_at_call 125
 refine(zY HC).mono ?_
 rintro e w1 ⟨rfl,l1⟩
 have R1:=zZ (zY R0 w1 l1)
 clear l1 R0 HC hc0
 go_wp2
 go_loopg [] K0 (fun k wr=>URel SQ ask mes B S w b pv p fin k wr)
 case atStart=>exact zY R1
 case round=>
  obtain⟨S',pv',vt',va',T',A',s',x',N',tn',sq',q1,q0,q2,q3,q5,q6,q7,q8,q9⟩:=hrel
  have c27:=(q1.cell 27 (by omega)).trans (by rw [xF])
  by_cases hfi:s'.fin=0
  ·obtain⟨k',rfl⟩ : ∃k',gk=k'+1:=⟨gk-1,by have:=q7.resolve_left (fun h=>h hfi);omega⟩
   have hfb:(s'.fin==0)=true:=by simpa using hfi
   have hu:fin=xG ask p k' (xQ ask p s' x').1 (xQ ask p s' x').2:=by rw [<-q3];simp only [xG];rw [if_pos hfi]
   have hmt:(xQ ask p s' x').1.fin≠0\/mes (xQ ask p s' x').2<k':=by
    rcases gB hs p s' x' with h1 | h1
    ·exact .inl h1
    ·have:=q7.resolve_left (fun h=>h hfi);exact .inr (by omega)
   have htr:=jJ hs ok x' q5
   have c15:=(q1.cell 15 (by omega)).trans (by rw [tD])
   have f15:=q1.free 15 (by omega)
   have hw15:wrap64 (tn'+1)=tn'+1:=by unfold wrap64;omega
   have hSb:S b\/w.heap.size<=b:=by
    by_cases hS:S b
    ·exact .inl hS
    ·exact .inr (Nat.le_of_not_lt fun hl=>hS (q2.old b hl q1.inB))
   have hS2:∀k,S' k->B<=k:=fun k hk=>(q1.bound k hk).1
   have l2:=q1.set L 15 (.int .i64 (tn'+1)) s' (tn':=tn'+1) (sq':=s'.armings) (by omega) (zX7 (tn'+1)) rfl q1.rel.turn rfl
   have f2:=q2.setCell ⟨b,15,none⟩ (.int .i64 (tn'+1)) hSb
   have c27':=(l2.cell 27 (by omega)).trans (by rw [xF])
   have f27':=l2.free 27 (by omega)
   have HI:=zZ (zW9 l2)
   have HCK:=zZ (eQ L K l2 hfi hm.clock)
   have hq5c:=eP hs x' q5
   have L2:=zZ l2
   have F2:=zZ f2
   have HU:=zZ hu
   have HMT:=zZ hmt
   have HTR:=zZ htr
   have Q0:=zZ q0
   have HQC:=zZ hq5c
   have HSb:=zZ hSb
   have HFI:=zZ hfi
   clear q1 q2 q3 q5 q7 q0 hu hmt htr l2 f2 hSb hS2 hq5c hfi
   cases hid:qV s'
   ·have e0:xQ ask p s' x'=if ckB s' (ask x' 1 0).1 then
      (
        if (frM (gT ask p) (vB (ckS s' (ask x' 1 0).1)) (ckS s' (ask x' 1 0).1) (ask x' 1 0).2).1.fin=0 then sF ask p (frM (gT ask p) (vB (ckS s' (ask x' 1 0).1)) (ckS s' (ask x' 1 0).1) (ask x' 1 0).2).1 (frM (gT ask p) (vB (ckS s' (ask x' 1 0).1)) (ckS s' (ask x' 1 0).1) (ask x' 1 0).2).2
        else frM (gT ask p) (vB (ckS s' (ask x' 1 0).1)) (ckS s' (ask x' 1 0).1) (ask x' 1 0).2)
     else (ckS s' (ask x' 1 0).1,(ask x' 1 0).2):=by unfold xQ;rw [if_neg (by rw [hid];simp)]
    rw [e0] at HU HMT HTR
    rw [hid] at HI
    have hca:=zR3 s' (ask x' 1 0).1
    have hcf:(ckB s' (ask x' 1 0).1=true->(ckS s' (ask x' 1 0).1).fin=0)/\(ckB s' (ask x' 1 0).1=false->(ckS s' (ask x' 1 0).1).fin≠0):=by
     unfold ckB ckS
     by_cases he:(ask x' 1 0).1.e=0
     ·by_cases hl:(ask x' 1 0).1.n<s'.clock
      ·simp [he,hl]
      ·simp [he,hl];exact zY HFI
     ·simp [he]
    clear e0 hid
    generalize ckS s' (ask x' 1 0).1=s2 at *
    generalize (ask x' 1 0).2=x2 at *
    cases hcb:ckB s' (ask x' 1 0).1
    ·rw [hcb] at HU HMT HTR hcf
     rw [if_neg (by simp)] at HU HMT HTR
     have hnf:=hcf.2 rfl
     have hnb:(s2.fin==0)=false:=by simpa using hnf
     clear hcf hcb
     go_wp2_with (first | (go_at_call 126;refine(zY HI).mono ?_;rintro e w3 ⟨rfl,hw3⟩;rw [hw3];clear hw3 HI w3) | (go_at_call 127;refine(zY HCK).mono ?_;rintro e w4 ⟨rfl,S4,pv4,T4,l4,p4,f4⟩;have k27:=(l4.cell 27 (by omega)).trans (by rw [xF]);have L4:=zZ l4;have P4:=zZ p4;have F4:=zZ f4;clear l4 p4 f4 HCK))
     go_roundg k'
     case rel=>exact kI (zY L4) (fun i hi=>(zY P4 i hi).trans (zY Q0 i hi)) ((zY F2).trans (zY F4)) (zY HU) (zY HTR) (by omega) (zY HMT) (by omega) (by omega)
     case measure=>omega
    ·rw [hcb] at HU HMT HTR hcf
     rw [if_pos rfl] at HU HMT HTR
     have h20:=hcf.1 rfl
     have h2b:(s2.fin==0)=true:=by simpa using h20
     have hdl:=mD s2
     have hfr:=lC hs ok (vB s2) N' s2 x2 (fun t ht=>kD (zY HQC).2 ht) (zY HQC)
     have hT4:∀(w4:World) {S4:Nat->Prop} {pv4:Nat->Value} {T4:Nat->Prop},LQ SQ B S4 w4 b pv4 vt' va' T4 s2 A' (tn'+1) s'.armings x2->(∀i,i<3->pv4 i=pv i)->Fr S w w4 S4->Calls Tryz.prog 128 #[.pointer (some ⟨b,0,none⟩)] w4 fun e w'=>e=.returned (.tuple #[])/\eD SQ B S4 w4 b pv4 (tn'+1) s'.armings (frM (gT ask p) (vB s2) s2 x2).1 (frM (gT ask p) (vB s2) s2 x2).2 w':=fun w4 S4 pv4 T4 l4 p4 f4=>
      zI6 L K hm.clock hm.lot hs (zY HBE) ((zY HBEL).trans (zY HBE▸f4.below (zY HSB) (zY HBW))) ⟨by rw [p4 0 (by omega)];exact(zY HPG).s,by rw [p4 1 (by omega)];exact(zY HPG).t,by rw [p4 2 (by omega)];exact(zY HPG).f⟩ ok l4 (zY HQC) (by omega) (by rw [hca.2];exact Int.le_refl _)
     generalize frM (gT ask p) (vB s2) s2 x2=F at *
     obtain⟨s3,x3⟩:=F
     dsimp only at hfr hT4 HU HMT HTR
     have HT4:=zZ @hT4
     have HFR:=zZ hfr
     clear hcf hcb hT4 hfr h20 hca
     by_cases h30:s3.fin=0
     ·rw [if_pos h30] at HU HMT HTR
      have h3b:(s3.fin==0)=true:=by simpa using h30
      have H30:=zZ h30
      clear h30
      go_wp2_with (first | (go_at_call 126;refine(zY HI).mono ?_;rintro e w3 ⟨rfl,hw3⟩;rw [hw3];clear hw3 HI w3) | (go_at_call 127;refine(zY HCK).mono ?_;rintro e w4 ⟨rfl,S4,pv4,T4,l4,p4,f4⟩;have k27:=(l4.cell 27 (by omega)).trans (by rw [xF]);have L4:=zZ l4;have P4:=zZ (show ∀i,i<3->pv4 i=pv i from fun i hi=>(p4 i hi).trans (zY Q0 i hi));have F4:=zZ ((zY F2).trans f4);clear l4 p4 f4 HCK) | (go_at_call 128;refine(zY HT4 w4 (zY L4) (zY P4) (zY F4)).mono ?_;rintro e w5 ⟨rfl,S5,pv5,vt5,va5,T5,A5,l5,p5,f5⟩;have k27b:=(l5.cell 27 (by omega)).trans (by rw [xF]);have L5:=zZ l5;have P5:=zZ (show ∀i,i<3->pv5 i=pv i from fun i hi=>(p5 i hi).trans (zY P4 i hi));have F5:=zZ ((zY F4).trans f5);clear l5 p5 f5 HT4 k27))
      go_at_call 129
      refine(zK0 L K hm.clock hm.batch hm.pick hm.lot hs (zY HBE) ((zY HBEL).trans (zY HBE▸(zY F5).below (zY HSB) (zY HBW))) ⟨by rw [zY P5 0 (by omega)];exact(zY HPG).s,by rw [zY P5 1 (by omega)];exact(zY HPG).t,by rw [zY P5 2 (by omega)];exact(zY HPG).f⟩ ok (zY L5) (zY H30) (zY HFR) (by omega)).mono ?_
      rintro e w6 ⟨rfl,S6,pv6,vt6,va6,T6,A6,l6,p6,f6⟩
      have L6:=zZ l6
      have P6:=zZ p6
      have F6:=zZ f6
      clear l6 p6 f6
      go_wp2
      go_roundg k'
      case rel=>exact kI (zY L6) (fun i hi=>(zY P6 i hi).trans (zY P5 i hi)) ((zY F5).trans (zY F6)) (zY HU) (zY HTR) (by omega) (zY HMT) (by omega) (by omega)
      case measure=>omega
     ·rw [if_neg h30] at HU HMT HTR
      have h3b:(s3.fin==0)=false:=by simpa using h30
      clear h30
      go_wp2_with (first | (go_at_call 126;refine(zY HI).mono ?_;rintro e w3 ⟨rfl,hw3⟩;rw [hw3];clear hw3 HI w3) | (go_at_call 127;refine(zY HCK).mono ?_;rintro e w4 ⟨rfl,S4,pv4,T4,l4,p4,f4⟩;have k27:=(l4.cell 27 (by omega)).trans (by rw [xF]);have L4:=zZ l4;have P4:=zZ (show ∀i,i<3->pv4 i=pv i from fun i hi=>(p4 i hi).trans (zY Q0 i hi));have F4:=zZ ((zY F2).trans f4);clear l4 p4 f4 HCK) | (go_at_call 128;refine(zY HT4 w4 (zY L4) (zY P4) (zY F4)).mono ?_;rintro e w5 ⟨rfl,S5,pv5,vt5,va5,T5,A5,l5,p5,f5⟩;have k27b:=(l5.cell 27 (by omega)).trans (by rw [xF]);have L5:=zZ l5;have P5:=zZ (show ∀i,i<3->pv5 i=pv i from fun i hi=>(p5 i hi).trans (zY P4 i hi));have F5:=zZ ((zY F4).trans f5);clear l5 p5 f5 HT4 k27))
      go_roundg k'
      case rel=>exact kI (zY L5) (zY P5) (zY F5) (zY HU) (zY HTR) (by omega) (zY HMT) (by omega) (by omega)
      case measure=>omega
   ·have e0:xQ ask p s' x'=({s' with fin:=2},x'):=by unfold xQ;rw [if_pos hid]
    rw [hid] at HI
    rw [e0,vP p k' _ _ (by show (2:Int)≠0;omega)] at HU
    clear e0 hid
    go_wp2_with (first | (go_at_call 126;refine(zY HI).mono ?_;rintro e w3 ⟨rfl,hw3⟩;rw [hw3];clear hw3 HI w3))
    refine bodyPost_ret (v:=.tuple #[]) (by simp [results,Tryz.results107,go_sem]) rfl ?_
    rw [zY HU]
    exact⟨rfl,tn'+1,s'.armings,S',pv',vt',va',T',A',(zY L2).set L 27 _ _ (by omega) (qM 2) rfl ((zY L2).rel.of rfl rfl) rfl,zY Q0,(zY F2).setCell _ _ (zY HSb)⟩
  ·have e:=q3.symm.trans (vP p gk s' x' hfi)
   have hfb:(s'.fin==0)=false:=by simpa using hfi
   have Q1:=zZ q1
   have Q2:=zZ q2
   have Q0:=zZ q0
   have E:=zZ e
   clear q1 q2 q3 q5 q0 e q7 hfi
   go_wp2
   go_end0
   rw [zY E]
   exact⟨rfl,tn',sq',S',pv',vt',va',T',A',zY Q1,zY Q0,zY Q2⟩
end
end Go.Proofs.YtfmbebofllgmoaaGreatDoor
namespace Go.Proofs.YtfmbebofllgmoaaGreatDoor
open Go.RowKit
def zB6 (p1 p2 p3 v0 v1 v2 v3 r i h:Value) (k:Nat):Value:=if k=0 then p1 else if k=1 then p2 else if k=2 then p3 else if k=3 then v0 else if k=4 then v1 else if k=5 then v2 else if k=6 then v3 else if k=7 then r else if k=8 then i else h
def sU (p1 p2 p3 v0 v1 v2 v3 r i h:Value) (fu:Int):Array Value:=#[p1,p2,p3,v0,v1,v2,v3,r,i,h,.int .i64 0,.int .i64 0,.int .i64 0,.int .i64 0,.int .i64 0,.int .i64 0,.slice none 0 0,.bool false,.bool false,.bool false,.bool false,.bool false,.bool false,.bool false,.bool false,.int .i64 fu,.slice none 0 0,.int .i64 0]
theorem zD7 (p1 p2 p3 v0 v1 v2 v3 r i h:Value) (fu:Int) (k:Nat) (hk:k<28):(sU p1 p2 p3 v0 v1 v2 v3 r i h fu)[k]?=some (xU (zB6 p1 p2 p3 v0 v1 v2 v3 r i h) (.slice none 0 0) (.slice none 0 0) (s0 fu) 0 k):=by
 have hc:k=0\/k=1\/k=2\/k=3\/k=4\/k=5\/k=6\/k=7\/k=8\/k=9\/k=10\/k=11\/k=12\/k=13\/k=14\/k=15\/k=16\/k=17\/k=18\/k=19\/k=20\/k=21\/k=22\/k=23\/k=24\/k=25\/k=26\/k=27:=by omega
 rcases hc with rfl | rfl | rfl | rfl | rfl | rfl | rfl | rfl | rfl | rfl | rfl | rfl | rfl | rfl | rfl | rfl | rfl | rfl | rfl | rfl | rfl | rfl | rfl | rfl | rfl | rfl | rfl | rfl<;>rfl
theorem zJ9 (fu:Int):oD (s0 fu) [] 0 0:=
 ⟨fun _ h=>absurd h (by simp),fun i h=>(by cases h),List.Pairwise.nil,fun _ h=>absurd h (by simp),fun _ h=>absurd h (by simp),Int.le_refl _,Int.le_refl _⟩
theorem dH {σ:Type} {SQ:(Nat->Value)->(Nat->Prop)->World->σ->Prop} {B:Nat} {w1:World} {p1 p2 p3 v0 v1 v2 v3 r i:Value} {fu:Int} {x:σ} (hB:B<=w1.heap.size) {W:World} (hW:W=(w1.alloc (.cells (sU p1 p2 p3 v0 v1 v2 v3 r i (.slice none 0 0) fu) 180)).drew) (hs:SQ (zB6 p1 p2 p3 v0 v1 v2 v3 r i (.slice none 0 0)) (fun _=>False) W x) :
  LQ SQ B (fun q=>q=w1.heap.size) W w1.heap.size (zB6 p1 p2 p3 v0 v1 v2 v3 r i (.slice none 0 0)) (.slice none 0 0) (.slice none 0 0) (fun _=>False) (s0 fu) [] 0 0 x:=by
 have hb:W.heap[w1.heap.size]?=some (.cells (sU p1 p2 p3 v0 v1 v2 v3 r i (.slice none 0 0) fu) 180):=by rw [hW];exact heap_alloc_new _ _
 have hl:=(zN.1 hb).1
 refine⟨fun k hk=>by subst hk;exact⟨hB,hl⟩,fun k hk=>⟨(cell_of_row W _ k _ 180 (0,0) hb).trans (zD7 _ _ _ _ _ _ _ _ _ _ _ k hk),yB hb k⟩,zX _ _ _ _,zX _ _ _ _,zJ9 fu,hs,⟨none,0,0,rfl,rfl⟩,rfl,fun q hq=>?_,fun q hq=>?_,fun k hk=>hk.elim⟩
 ·simp [own,Value.ownBlock] at hq
 ·simp [own,Value.ownBlock] at hq
theorem yA8 {w W:World} {p1 p2 p3 v0 v1 v2 v3:Value} {lc lp ll:List Int} {bs:List (Value×List Int)} (hW:Below w.heap.size w W) (h0:vU w v0 lc (fun q=>q<w.heap.size)) (h1:oW w v1 (bs.map (·.2)) (fun q=>q<w.heap.size)) (h2:vU w v2 lp (fun q=>q<w.heap.size)) (h3:vU w v3 ll (fun q=>q<w.heap.size)) (hbs:∀b,b∈bs->b.2.length<=100000000)
  (n0:lc.length<=4000000) (n1:bs.length<=4000000) (n2:lp.length<=4000000) (n3:ll.length<=4000000):SQR w.heap.size (zB6 p1 p2 p3 v0 v1 v2 v3 (.bool false) (.slice none 0 0) (.slice none 0 0)) (fun _=>False) W ⟨lc,bs,lp,ll,tW⟩:=
 ⟨rfl,h0.keep hW.block,h1.keep hW.block,h2.keep hW.block,h3.keep hW.block,hbs,[],zX _ _ _ _,fun q hq=>by simp [own,Value.ownBlock,zB6] at hq,fun _ h=>absurd h (by simp),rfl,fun _ h=>absurd h (by simp),by simp only [RS.left,List.length_nil];omega⟩
