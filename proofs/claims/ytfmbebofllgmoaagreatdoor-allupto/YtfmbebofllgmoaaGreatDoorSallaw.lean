/-
  PROVED HERE: the reader's input: a batch.
-/
import Derived.RangeFuncOwn
import Derived.Test.YtfmbebofllgmoaaGreatDoorSallav
set_option maxHeartbeats 2000000
set_option maxRecDepth 20000
namespace Go.Proofs.YtfmbebofllgmoaaGreatDoor
open Go.RowKit
attribute [local go_sem ↓] Go.wp_at_zero Go.wp_at_succ
theorem Fr.nil {w w':World} {S':Nat->Prop} (h:Fr (own (.slice none 0 0)) w w' S'):Fr (fun _=>False) w w' (fun _=>False):=
 ⟨h.os,h.tape,h.output,h.size,fun k hk _=>h.same k hk (fun e=>by simp [own,Value.ownBlock] at e),fun _ _ h=>h⟩
theorem tL {w:World} {B B' e size n:Nat} {v:Value} {xs:List Value} (h:w.ownsRow B e size v n xs) (hB:B'<=B):w.ownsRow B' e size v n xs:=
 ⟨h.1,h.2.imp id fun ⟨g,cap,cur,e1,e2,r⟩=>⟨g,cap,cur,e1,by omega,r⟩⟩
theorem iI {ops:Array Oper} {o:Oper} {a:Act} {K:Act->World->Prop} {Q:Exit->Act->World->Prop} {E':Prop} {w:World} {B t e size bytes d:Nat} (hd:o.dst=some d) (E:mU t e size bytes) (hs0:0<size) (hs1:bytes<=100) {v:Value} {n m:Nat} {xs news:List Value} (hgd:o.guard=none) (sv xv:Operand)
  (ho:o.op=.call {callee:=.builtin .append,args:=#[sv,xv],argTypes:=#[t,t]}) {ad:Addr} {cap:Nat} (hs:a.eval sv=v) (hx:a.eval xv=.slice (some ad) m cap) (hrow:w.ownsRow B e size v n xs) (hl:news.length=m*size)
  (hc:∀j u,news[j]?=some u->w.cell? (ad.add j)=some u) (h1:∀u∈news,u.oneCell'=true) (hm:0<m) (hn:n+m<=1000000) (hB:B<=w.heap.size)
  (h:∀v' w',w'.ownsRow B e size v' (n+m) (xs++news)->Fr (own v) w w' (own v')->(∃a c,v'=.slice a (n+m) c)->K ⟨a.tmps.setIfInBounds d v',a.defers⟩ w'):if Region.wanted o (yielded ops a.tmps)=true then Oper.wp Tryz.prog o a w K Q else E':=
 yB0 E hs0 hs1 hgd sv xv ho hs hx hrow hl hc h1 hm hn hB (fun v' w' p1 p2 p3=>by rw [hd];exact h v' w' p1 p2 p3)
theorem dD (b:ByteArray) (h0:0<b.size) (hs:b.size<=40) (w:World) (x:Nat) (t:List Nat) (hv:sD (b.extract 1 b.size)=some (x::t)) (hk:yI b 0=2) (ht:0<t.length) (hx:x≠t.length):Calls Tryz.prog 101 #[.string b] w (tM b w):=by
 have hse:(b.extract 1 b.size).size=b.size-1:=by simp [ByteArray.size_extract]
 have HM:Hid (sR b=if x=t.length/\tT (-1) (zs t)=true then some (0,0,t) else none):=zZ (by unfold sR;rw [hv,hk];rfl)
 have hb0:((b[0]'h0).toNat:Int)=2:=by rw [<-xH b 0 h0,hk];rfl
 have HV:=zZ hv
 have HK:=zZ hk
 have HC:=zZ fun w=>vF (b.extract 1 b.size) (by omega) w
 clear hv
 go_enter Tryz.func101,Tryz.ntmps101
 go_wp2_with (go_at_call 122;(refine(zY HC _).mono ?_;rintro e w1 p1;obtain⟨f1,hl1,v1,rfl,o1⟩:=tS p1 (zY HV);have F1:=zZ f1;obtain⟨g,cap,cur,rfl,hg1,hg2,hg3,hg4,hg5,hg6⟩:=xJ o1 (by simp [zs]);rw [xM] at hg3 ⊢;have hg7:w.heap.size<g:=(by simp at hg1;omega);have hne:w.heap.size≠g:=(by omega);have HG6:=zZ hg6;have hl2:(x::t).length=t.length+1:=rfl;rw [hl2] at hg3 ⊢;have hl1':t.length<=100:=(by simp at hl1;omega);clear hg1 hg2 hg4 hg5 cur hl1 hk p1 f1 o1 hg6))
 have cz:w1.cell? ⟨g,0,none⟩=some (.int .i64 x):=zY HG6 0 (by simp [zs])
 have hx1:((x:Int)==(t.length:Int))=false:=beq_eq_false_iff_ne.2 (by omega)
 have hgz:g<w1.heap.size:=by
  obtain⟨o,ho,_⟩:=cells_of_cell cz;exact(zN.1 ho).1
 have hc1:¬cap=1:=by omega
 have hi1:(1:Int)<=(t.length:Int)+1:=by omega
 have hwr:IntKind.i64.wrap (t.length:Int)=t.length:=by rw [IntKind.wrap_i64];omega
 have hw1:w.heap.size<=w1.heap.size:=by omega
 have HT:=zZ ht
 have HX:=zZ hx
 have HL:=zZ (show t.length<=100 by omega)
 clear ht hx hl2
 refine wp_region_held_drew (S:=fun w'=>w'.cell? ⟨g,0,none⟩=some (.int .i64 x)) (by kernel_rfl) ?_ (fun hHeld=>?_)
 ·simp [go_sem,cz]
 refine zH (i:=0) (d:=44) (fuel:=18) ?_
 simp only [zC,zD,zE]
 refine zH (i:=1) (d:=45) (fuel:=17) ?_
 simp only [zC,zD,zE]
 refine zH (i:=2) (d:=46) (fuel:=16) ?_
 simp only [zC,zD,zE]
 refine zH (i:=5) (d:=49) (fuel:=15) ?_
 simp only [zC,zD,zE]
 refine zH (i:=6) (d:=50) (fuel:=14) ?_
 simp only [zC,zD,zE]
 refine zH (i:=7) (d:=51) (fuel:=13) ?_
 simp only [zC,zD,zE]
 refine zH (i:=8) (d:=52) (fuel:=12) ?_
 simp only [zC,zD,zE]
 refine zH (i:=9) (d:=53) (fuel:=11) ?_
 simp only [zC,zD,zE]
 refine zH (i:=10) (d:=54) (fuel:=10) ?_
 simp only [zC,zD,zE]
 refine zH (i:=11) (d:=55) (fuel:=9) ?_
 simp only [zC,zD,zE]
 refine wpAnyH_ready (rs:=[3]) (by kernel_rfl) (by simp) ?_
 refine AllReadyH.cons rfl (fun K hK=>?_) AllReadyH.nil
 refine iI (d:=47) rfl sK (by decide) (by decide) (v:=.slice none 0 0) (n:=0) (m:=t.length) (xs:=[]) (news:=(zs t).map (Value.int .i64)) (B:=w1.heap.size) (ad:=⟨g,1,none⟩) (cap:=cap-1) rfl (.const (.slice none 0 0)) (.tmp 46) rfl rfl rfl (zX _ _ _ _) (by simp [zs]) ?_ (by simp [Value.oneCell']) (zY HT) (by omega) (Nat.le_refl _) ?_
 ·intro j u hu
  rw [List.getElem?_map] at hu
  obtain⟨z,hz,rfl⟩:=Option.map_eq_some_iff.1 hu
  have hj:=(List.getElem?_eq_some_iff.1 hz).1
  rw [sA,Nat.add_comm 1 j]
  have:=zY HG6 (j+1) (by simp [zs] at hj ⊢;omega)
  rw [show (zs (x::t)).getD (j+1) 0=z by rw [show zs (x::t)=(x:Int)::zs t from rfl,List.getD_cons_succ,List.getD_eq_getElem?_getD,hz];rfl] at this
  exact this
 intro v2 w2 o2 f2 hsl
 obtain⟨a2,c2,rfl⟩:=hsl
 have F2:=zZ ((zY F1).drew.trans f2.nil)
 obtain⟨⟨r0,r1,r2,r3⟩,rz⟩:=oT (zY F2)
 have hc2:∀j,w2.cell? ⟨g,j,none⟩=w1.cell? ⟨g,j,none⟩:=fun j=>f2.cell g j hgz (fun e=>by simp [own,Value.ownBlock] at e)
 have HC2:=zZ hc2
 have O2:=zZ o2
 have hd2:w2.cell? ⟨g,0,none⟩=some (.int .i64 x):=(hc2 0).trans cz
 clear o2 f2 hc2
 refine hK.out _ _ hd2 (fun hHeld=>?_)
 clear hK K
 simp only [zC,zD,zE]
 refine zH (i:=4) (d:=48) (fuel:=7) ?_
 simp only [zC,zD,zE]
 refine zH (i:=12) (d:=56) (fuel:=6) ?_
 simp only [zC,zD,zE]
 refine vR (i:=13) (d:=57) (fuel:=5) rfl rfl (by kernel_rfl) (by kernel_rfl) (by kernel_rfl) (fun _ _ _ h=>h) (by rfl) (by assumption) ?_
 simp only [zC,zD,zE]
 refine vR (i:=14) (d:=58) (fuel:=4) rfl rfl (by kernel_rfl) (by kernel_rfl) (by kernel_rfl) (fun _ _ _ h=>h) (by rfl) (by assumption) ?_
 simp only [zC,zD,zE]
 refine vR (i:=15) (d:=59) (fuel:=3) rfl rfl (by kernel_rfl) (by kernel_rfl) (by kernel_rfl) (fun _ _ _ h=>h) (by rfl) (by assumption) ?_
 simp only [zC,zD,zE]
 refine zH (i:=16) (d:=60) (fuel:=2) ?_
 simp only [zC,zD,zE]
 refine wpAnyH_ready (rs:=[17]) (by kernel_rfl) (by simp) ?_
 refine AllReadyH.cons rfl (fun K hK=>?_) AllReadyH.nil
 go_simp
 refine hK.out _ _ ?_ (fun hHeld=>?_)
 ·simp [go_sem,hd2]
 clear hK K
 refine zH (i:=18) (d:=3) (fuel:=0) ?_
 simp only [zC,zD,zE]
 refine wpAnyH_done (by kernel_rfl) ?_ _
 go_wp2
 exact bodyPost_ret (v:=.tuple #[.agg #[.int .i64 2,.int .i64 0,.int .i64 0,.slice a2 t.length c2],.bool false]) (by simp [results,Tryz.results101,go_sem,r0,r1,r2,r3]) rfl (uW (by rw [zY HM,if_neg (fun h=>zY HX h.1)]) (uJ (zY F2) _ _ _ _))
theorem fB (b:ByteArray) (h0:0<b.size) (hs:b.size<=40) (w:World) (x:Nat) (t:List Nat) (hv:sD (b.extract 1 b.size)=some (x::t)) (hk:yI b 0=2) (ht:0<t.length) (hx:x=t.length):Calls Tryz.prog 101 #[.string b] w (tM b w):=by
 have hse:(b.extract 1 b.size).size=b.size-1:=by simp [ByteArray.size_extract]
 have HM:Hid (sR b=if x=t.length/\tT (-1) (zs t)=true then some (0,0,t) else none):=zZ (by unfold sR;rw [hv,hk];rfl)
 have hb0:((b[0]'h0).toNat:Int)=2:=by rw [<-xH b 0 h0,hk];rfl
 have HV:=zZ hv
 have HK:=zZ hk
 have HC:=zZ fun w=>vF (b.extract 1 b.size) (by omega) w
 clear hv
 go_enter Tryz.func101,Tryz.ntmps101
 go_wp2_with (go_at_call 122;(refine(zY HC _).mono ?_;rintro e w1 p1;obtain⟨f1,hl1,v1,rfl,o1⟩:=tS p1 (zY HV);have F1:=zZ f1;obtain⟨g,cap,cur,rfl,hg1,hg2,hg3,hg4,hg5,hg6⟩:=xJ o1 (by simp [zs]);rw [xM] at hg3 ⊢;have hg7:w.heap.size<g:=(by simp at hg1;omega);have hne:w.heap.size≠g:=(by omega);have HG6:=zZ hg6;have hl2:(x::t).length=t.length+1:=rfl;rw [hl2] at hg3 ⊢;have hl1':t.length<=100:=(by simp at hl1;omega);clear hg1 hg2 hg4 hg5 cur hl1 hk p1 f1 o1 hg6))
 have cz:w1.cell? ⟨g,0,none⟩=some (.int .i64 x):=zY HG6 0 (by simp [zs])
 have hx1:((x:Int)==(t.length:Int))=true:=beq_iff_eq.2 (by omega)
 obtain⟨r,hr⟩ : ∃r,tT (-1) (zs t)=r:=⟨_,rfl⟩
 have HR:=zZ hr
 clear hr
 have hgz:g<w1.heap.size:=by
  obtain⟨o,ho,_⟩:=cells_of_cell cz;exact(zN.1 ho).1
 have hc1:¬cap=1:=by omega
 have hi1:(1:Int)<=(t.length:Int)+1:=by omega
 have hwr:IntKind.i64.wrap (t.length:Int)=t.length:=by rw [IntKind.wrap_i64];omega
 have hw1:w.heap.size<=w1.heap.size:=by omega
 have HT:=zZ ht
 have HX:=zZ hx
 have HL:=zZ (show t.length<=100 by omega)
 clear ht hx hl2
 refine wp_region_held_drew (S:=fun w'=>w'.cell? ⟨g,0,none⟩=some (.int .i64 x)) (by kernel_rfl) ?_ (fun hHeld=>?_)
 ·simp [go_sem,cz]
 refine zH (i:=0) (d:=44) (fuel:=18) ?_
 simp only [zC,zD,zE]
 refine zH (i:=1) (d:=45) (fuel:=17) ?_
 simp only [zC,zD,zE]
 refine zH (i:=2) (d:=46) (fuel:=16) ?_
 simp only [zC,zD,zE]
 refine zH (i:=5) (d:=49) (fuel:=15) ?_
 simp only [zC,zD,zE]
 refine zH (i:=6) (d:=50) (fuel:=14) ?_
 simp only [zC,zD,zE]
 refine zH (i:=7) (d:=51) (fuel:=13) ?_
 simp only [zC,zD,zE]
 refine zH (i:=8) (d:=52) (fuel:=12) ?_
 simp only [zC,zD,zE]
 refine zH (i:=9) (d:=53) (fuel:=11) ?_
 simp only [zC,zD,zE]
 refine zH (i:=10) (d:=54) (fuel:=10) ?_
 simp only [zC,zD,zE]
 refine zH (i:=11) (d:=55) (fuel:=9) ?_
 simp only [zC,zD,zE]
 refine wpAnyH_ready (rs:=[3]) (by kernel_rfl) (by simp) ?_
 refine AllReadyH.cons rfl (fun K hK=>?_) AllReadyH.nil
 refine iI (d:=47) rfl sK (by decide) (by decide) (v:=.slice none 0 0) (n:=0) (m:=t.length) (xs:=[]) (news:=(zs t).map (Value.int .i64)) (B:=w1.heap.size) (ad:=⟨g,1,none⟩) (cap:=cap-1) rfl (.const (.slice none 0 0)) (.tmp 46) rfl rfl rfl (zX _ _ _ _) (by simp [zs]) ?_ (by simp [Value.oneCell']) (zY HT) (by omega) (Nat.le_refl _) ?_
 ·intro j u hu
  rw [List.getElem?_map] at hu
  obtain⟨z,hz,rfl⟩:=Option.map_eq_some_iff.1 hu
  have hj:=(List.getElem?_eq_some_iff.1 hz).1
  rw [sA,Nat.add_comm 1 j]
  have:=zY HG6 (j+1) (by simp [zs] at hj ⊢;omega)
  rw [show (zs (x::t)).getD (j+1) 0=z by rw [show zs (x::t)=(x:Int)::zs t from rfl,List.getD_cons_succ,List.getD_eq_getElem?_getD,hz];rfl] at this
  exact this
 intro v2 w2 o2 f2 hsl
 obtain⟨a2,c2,rfl⟩:=hsl
 have F2:=zZ ((zY F1).drew.trans f2.nil)
 obtain⟨⟨r0,r1,r2,r3⟩,rz⟩:=oT (zY F2)
 have hc2:∀j,w2.cell? ⟨g,j,none⟩=w1.cell? ⟨g,j,none⟩:=fun j=>f2.cell g j hgz (fun e=>by simp [own,Value.ownBlock] at e)
 have HC2:=zZ hc2
 have O2:=zZ o2
 have hd2:w2.cell? ⟨g,0,none⟩=some (.int .i64 x):=(hc2 0).trans cz
 clear o2 f2 hc2
 refine hK.out _ _ hd2 (fun hHeld=>?_)
 clear hK K
 simp only [zC,zD,zE]
 refine zH (i:=4) (d:=48) (fuel:=7) ?_
 simp only [zC,zD,zE]
 refine zH (i:=12) (d:=56) (fuel:=6) ?_
 simp only [zC,zD,zE]
 have h123:Calls Tryz.prog 123 #[.slice (some ⟨g,1,none⟩) t.length (cap-1)] w2 fun e w'=>e=.returned (.bool (tT (-1) (zs t)))/\w2=w':=by
  have h:=dY (w:=w2) (v:=.slice (some ⟨g,1,none⟩) (zs t).length (cap-1)) (l:=zs t) (P:=fun _=>True) ⟨_,_,rfl,.inr ⟨g,1,rfl,trivial,fun i hi=>?_⟩⟩ (by rw [xM];omega)
  ·rw [xM] at h;exact h.mono fun e w' q=>⟨q.1,q.2.symm⟩
  ·rw [zY HC2,Nat.add_comm 1 i]
   have:=zY HG6 (i+1) (by simp [zs] at hi ⊢;omega)
   rw [this]
   simp [zs]
 have H123:=zZ h123
 clear h123
 refine zH (i:=13) (d:=57) (fuel:=5) ?_
 simp only [zC,zD,zE]
 refine zH (i:=14) (d:=58) (fuel:=4) ?_
 simp only [zC,zD,zE]
 refine wpAnyH_ready (rs:=[15]) (by kernel_rfl) (by simp) ?_
 refine AllReadyH.cons rfl (fun K hK=>?_) AllReadyH.nil
 go_simp
 go_at_call 123
 refine(zY H123).mono ?_
 rintro _ _ ⟨rfl,rfl⟩
 rw [zY HR]
 refine hK.out _ _ hd2 (fun hHeld=>?_)
 clear hK K
 refine zH (i:=16) (d:=60) (fuel:=2) ?_
 simp only [zC,zD,zE]
 refine wpAnyH_ready (rs:=[17]) (by kernel_rfl) (by simp) ?_
 refine AllReadyH.cons rfl (fun K hK=>?_) AllReadyH.nil
 go_simp
 refine hK.out _ _ ?_ (fun hHeld=>?_)
 ·simp [go_sem,hd2]
 clear hK K
 refine zH (i:=18) (d:=3) (fuel:=0) ?_
 simp only [zC,zD,zE]
 refine wpAnyH_done (by kernel_rfl) ?_ _
 go_wp2
 refine bodyPost_ret (v:=.tuple #[.agg #[.int .i64 2,.int .i64 0,.int .i64 0,.slice a2 t.length c2],.bool r]) (by simp [results,Tryz.results101,go_sem,r0,r1,r2,r3]) rfl ?_
 have hm:=zY HM
 rw [zY HR] at hm
 cases r with
 | false=>exact uW (by rw [hm,if_neg (by simp)]) (uJ (zY F2) _ _ _ _)
 | true=>
  refine kA (o:=0) (n:=0) (fs:=t) (by rw [hm,if_pos ⟨zY HX,rfl⟩]) (by rw [zY HK];rfl) rfl rfl ?_ (uJ (zY F2) _ _ _ _)
  have h2:=zY O2
  rw [Nat.zero_add,List.nil_append] at h2
  refine yA (w:=w2) (tL (show yR w2 w1.heap.size (.slice a2 t.length c2) (zs t) by unfold yR;rw [xM];exact h2) hw1) (fun q hq=>?_)
  have hq':=(zS h2 q hq).1
  have hne':q≠w.heap.size:=by omega
  rw [zQ _ _ _ _ hne',zQ _ _ _ _ hne',zQ _ _ _ _ hne',zQ _ _ _ _ hne']
theorem fA (b:ByteArray) (h0:0<b.size) (hs:b.size<=40) (w:World) (x:Nat) (hv:sD (b.extract 1 b.size)=some [x]) (hk:yI b 0=2):Calls Tryz.prog 101 #[.string b] w (tM b w):=by
 have hse:(b.extract 1 b.size).size=b.size-1:=by simp [ByteArray.size_extract]
 have HM:Hid (sR b=if x=0 then some (0,0,[]) else none):=zZ (by
  unfold sR;rw [hv,hk]
  show (if x=0/\tT (-1) (zs [])=true then some (0,0,[]) else none)=_
  by_cases e:x=0
  ·rw [if_pos ⟨e,rfl⟩,if_pos e]
  ·rw [if_neg (fun h=>e h.1),if_neg e])
 have hb0:((b[0]'h0).toNat:Int)=2:=by rw [<-xH b 0 h0,hk];rfl
 have HV:=zZ hv
 have HK:=zZ hk
 have HC:=zZ fun w=>vF (b.extract 1 b.size) (by omega) w
 clear hv
 go_enter Tryz.func101,Tryz.ntmps101
 go_wp2_with (go_at_call 122;(refine(zY HC _).mono ?_;rintro e w1 p1;obtain⟨f1,hl1,v1,rfl,o1⟩:=tS p1 (zY HV);have F1:=zZ f1;obtain⟨g,cap,cur,rfl,hg1,hg2,hg3,hg4,hg5,hg6⟩:=xJ o1 (by simp [zs]);have cz:=hg6 0 (by simp [zs]);simp only [zs,List.map_cons,List.map_nil,List.getD_cons_zero,List.length_cons,List.length_nil,Int.ofNat_eq_natCast] at cz hg3 ⊢;have hg7:w.heap.size<g:=(by simp at hg1;omega);have hne:w.heap.size≠g:=(by omega);clear hg1 hg2 hg4 hg5 cur hl1 hk;obtain⟨⟨r0,r1,r2,r3⟩,rz⟩:=oT f1;clear p1 f1 o1 hg6))
 obtain⟨ad,had⟩ : ∃ad:Addr,(if cap=1 then some (⟨g,0,none⟩ : Addr) else some ⟨g,1,none⟩)=some ad:=by split<;>exact⟨_,rfl⟩
 have hw0:IntKind.i64.wrap 0=0:=rfl
 by_cases hx:x=0
 ·subst hx
  have h123:Calls Tryz.prog 123 #[.slice (some ad) 0 (cap-1)] w1.drew fun e w'=>e=.returned (.bool true)/\w1.drew=w':=
   (dY (w:=w1.drew) (v:=.slice (some ad) 0 (cap-1)) (l:=[]) (P:=fun _=>True) ⟨_,_,rfl,.inl rfl⟩ (by simp)).mono fun e w' q=>⟨q.1,q.2.symm⟩
  have H123:=zZ h123
  clear h123
  refine wp_region_held_drew (S:=fun w'=>w'.cell? ⟨g,0,none⟩=some (.int .i64 (0:Nat))) (by kernel_rfl) ?_ (fun hHeld=>?_)
  ·exact cz
  refine zH (i:=0) (d:=44) (fuel:=18) ?_
  simp only [zC,zD,zE]
  refine zH (i:=1) (d:=45) (fuel:=17) ?_
  simp only [zC,zD,zE]
  refine zH (i:=2) (d:=46) (fuel:=16) ?_
  simp only [zC,zD,zE]
  refine zH (i:=5) (d:=49) (fuel:=15) ?_
  simp only [zC,zD,zE]
  refine zH (i:=6) (d:=50) (fuel:=14) ?_
  simp only [zC,zD,zE]
  refine zH (i:=7) (d:=51) (fuel:=13) ?_
  simp only [zC,zD,zE]
  refine zH (i:=8) (d:=52) (fuel:=12) ?_
  simp only [zC,zD,zE]
  refine zH (i:=9) (d:=53) (fuel:=11) ?_
  simp only [zC,zD,zE]
  refine zH (i:=10) (d:=54) (fuel:=10) ?_
  simp only [zC,zD,zE]
  refine zH (i:=11) (d:=55) (fuel:=9) ?_
  simp only [zC,zD,zE]
  refine wpAnyH_ready (rs:=[3]) (by kernel_rfl) (by simp) ?_
  refine AllReadyH.cons rfl (fun K hK=>?_) AllReadyH.nil
  go_simp
  refine hK.out _ _ hHeld (fun hHeld=>?_)
  clear hK K
  refine zH (i:=4) (d:=48) (fuel:=7) ?_
  simp only [zC,zD,zE]
  refine zH (i:=12) (d:=56) (fuel:=6) ?_
  simp only [zC,zD,zE]
  refine zH (i:=13) (d:=57) (fuel:=5) ?_
  simp only [zC,zD,zE]
  refine zH (i:=14) (d:=58) (fuel:=4) ?_
  simp only [zC,zD,zE]
  refine wpAnyH_ready (rs:=[15]) (by kernel_rfl) (by simp) ?_
  refine AllReadyH.cons rfl (fun K hK=>?_) AllReadyH.nil
  go_simp
  go_at_call 123
  refine(zY H123).mono ?_
  rintro _ _ ⟨rfl,rfl⟩
  refine hK.out _ _ hHeld (fun hHeld=>?_)
  clear hK K
  refine zH (i:=16) (d:=60) (fuel:=2) ?_
  simp only [zC,zD,zE]
  refine wpAnyH_ready (rs:=[17]) (by kernel_rfl) (by simp) ?_
  refine AllReadyH.cons rfl (fun K hK=>?_) AllReadyH.nil
  go_simp
  refine hK.out _ _ ?_ (fun hHeld=>?_)
  ·simp [go_sem,cz]
  clear hK K
  refine zH (i:=18) (d:=3) (fuel:=0) ?_
  simp only [zC,zD,zE]
  refine wpAnyH_done (by kernel_rfl) ?_ _
  go_wp2
  exact bodyPost_ret (v:=.tuple #[.agg #[.int .i64 2,.int .i64 0,.int .i64 0,.slice none 0 0],.bool true]) (by simp [results,Tryz.results101,go_sem,r0,r1,r2,r3]) rfl (kA (o:=0) (n:=0) (fs:=[]) (by rw [zY HM];exact if_pos trivial) (by rw [zY HK];rfl) rfl rfl (zX _ _ _ _) (uJ (zY F1) _ _ _ _).drew)
 ·have hx1:((x:Int)==0)=false:=beq_eq_false_iff_ne.2 (by omega)
  have HX:=zZ hx
  refine wp_region_held_drew (S:=fun w'=>w'.cell? ⟨g,0,none⟩=some (.int .i64 x)) (by kernel_rfl) ?_ (fun hHeld=>?_)
  ·simp [go_sem,cz]
  refine zH (i:=0) (d:=44) (fuel:=18) ?_
  simp only [zC,zD,zE]
  refine zH (i:=1) (d:=45) (fuel:=17) ?_
  simp only [zC,zD,zE]
  refine zH (i:=2) (d:=46) (fuel:=16) ?_
  simp only [zC,zD,zE]
  refine zH (i:=5) (d:=49) (fuel:=15) ?_
  simp only [zC,zD,zE]
  refine zH (i:=6) (d:=50) (fuel:=14) ?_
  simp only [zC,zD,zE]
  refine zH (i:=7) (d:=51) (fuel:=13) ?_
  simp only [zC,zD,zE]
  refine zH (i:=8) (d:=52) (fuel:=12) ?_
  simp only [zC,zD,zE]
  refine zH (i:=9) (d:=53) (fuel:=11) ?_
  simp only [zC,zD,zE]
  refine zH (i:=10) (d:=54) (fuel:=10) ?_
  simp only [zC,zD,zE]
  refine zH (i:=11) (d:=55) (fuel:=9) ?_
  simp only [zC,zD,zE]
  refine wpAnyH_ready (rs:=[3]) (by kernel_rfl) (by simp) ?_
  refine AllReadyH.cons rfl (fun K hK=>?_) AllReadyH.nil
  go_simp
  refine hK.out _ _ hHeld (fun hHeld=>?_)
  clear hK K
  refine zH (i:=4) (d:=48) (fuel:=7) ?_
  simp only [zC,zD,zE]
  refine zH (i:=12) (d:=56) (fuel:=6) ?_
  simp only [zC,zD,zE]
  refine vR (i:=13) (d:=57) (fuel:=5) rfl rfl (by kernel_rfl) (by kernel_rfl) (by kernel_rfl) (fun _ _ _ h=>h) (by rfl) (by assumption) ?_
  simp only [zC,zD,zE]
  refine vR (i:=14) (d:=58) (fuel:=4) rfl rfl (by kernel_rfl) (by kernel_rfl) (by kernel_rfl) (fun _ _ _ h=>h) (by rfl) (by assumption) ?_
  simp only [zC,zD,zE]
  refine vR (i:=15) (d:=59) (fuel:=3) rfl rfl (by kernel_rfl) (by kernel_rfl) (by kernel_rfl) (fun _ _ _ h=>h) (by rfl) (by assumption) ?_
  simp only [zC,zD,zE]
  refine zH (i:=16) (d:=60) (fuel:=2) ?_
  simp only [zC,zD,zE]
  refine wpAnyH_ready (rs:=[17]) (by kernel_rfl) (by simp) ?_
  refine AllReadyH.cons rfl (fun K hK=>?_) AllReadyH.nil
  go_simp
  refine hK.out _ _ ?_ (fun hHeld=>?_)
  ·simp [go_sem,cz]
  clear hK K
  refine zH (i:=18) (d:=3) (fuel:=0) ?_
  simp only [zC,zD,zE]
  refine wpAnyH_done (by kernel_rfl) ?_ _
  go_wp2
  exact bodyPost_ret (v:=.tuple #[.agg #[.int .i64 2,.int .i64 0,.int .i64 0,.slice none 0 0],.bool false]) (by simp [results,Tryz.results101,go_sem,r0,r1,r2,r3]) rfl (uW (by rw [zY HM,if_neg (zY HX)]) (uJ (zY F1) _ _ _ _).drew)
theorem zX1 (b:ByteArray) (h0:0<b.size) (hs:b.size<=40) (w:World):Calls Tryz.prog 101 #[.string b] w (tM b w):=by
 cases hv:sD (b.extract 1 b.size) with
 | none=>exact zX2 b h0 hs w hv
 | some ns=>
  by_cases hk:yI b 0<1\/5<yI b 0
  ·exact zN1 b h0 hs w ns hv hk
  by_cases hu:bN (yI b 0) ns.length
  ·exact zG2 b h0 hs w ns hv hu (by omega)
  have hk':yI b 0=1\/yI b 0=2\/yI b 0=3\/yI b 0=4\/yI b 0=5:=by omega
  unfold bN at hu
  rcases hk' with e | e | e | e | e
  ·match ns,hv,hu with
   | [x],hv,_=>exact zG1 b h0 hs w x hv e
   | [],_,hu=>exact absurd (.inl ⟨e,by simp⟩) hu
   | _::_::_,_,hu=>exact absurd (.inl ⟨e,by simp⟩) hu
  ·match ns,hv,hu with
   | [x],hv,_=>exact fA b h0 hs w x hv e
   | x::y::r,hv,_=>
    by_cases hx:x=(y::r).length
    ·exact fB b h0 hs w x (y::r) hv e (by simp) hx
    ·exact dD b h0 hs w x (y::r) hv e (by simp) hx
   | [],_,hu=>exact absurd (.inr (.inl ⟨e,by simp⟩)) hu
  ·match ns,hv,hu with
   | [x,y],hv,_=>
    by_cases hx:2<=x/\x<=8
    ·exact bC b h0 hs w x y hv e hx
    ·exact dE b h0 hs w x y hv e hx
   | [],_,hu=>exact absurd (.inr (.inr (.inl ⟨e,by simp⟩))) hu
   | [_],_,hu=>exact absurd (.inr (.inr (.inl ⟨e,by simp⟩))) hu
   | _::_::_::_,_,hu=>exact absurd (.inr (.inr (.inl ⟨e,by simp⟩))) hu
  ·match ns,hv,hu with
   | [x,y],hv,_=>
    by_cases hx:1<=x/\x<=1000000
    ·exact zA7 b h0 hs w x y hv e hx
    ·exact bB b h0 hs w x y hv e hx
   | [],_,hu=>exact absurd (.inr (.inr (.inr (.inl ⟨e,by simp⟩)))) hu
   | [_],_,hu=>exact absurd (.inr (.inr (.inr (.inl ⟨e,by simp⟩)))) hu
   | _::_::_::_,_,hu=>exact absurd (.inr (.inr (.inr (.inl ⟨e,by simp⟩)))) hu
  ·match ns,hv,hu with
   | [x],hv,_=>exact zX3 b h0 hs w x hv e
   | [],_,hu=>exact absurd (.inr (.inr (.inr (.inr (.inl ⟨e,by simp⟩))))) hu
   | _::_::_,_,hu=>exact absurd (.inr (.inr (.inr (.inr (.inl ⟨e,by simp⟩))))) hu
