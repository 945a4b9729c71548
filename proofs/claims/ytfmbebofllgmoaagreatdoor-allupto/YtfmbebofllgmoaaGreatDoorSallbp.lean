/-
  PROVED HERE: keepInputs writes its marks and keeps the Book. 
-/
import Derived.Test.YtfmbebofllgmoaaGreatDoorSallbi
import Derived.Test.YtfmbebofllgmoaaGreatDoorSallbl
import Derived.Test.YtfmbebofllgmoaaGreatDoorSallbq
set_option maxHeartbeats 4000000
set_option maxRecDepth 20000
namespace Go.Proofs.YtfmbebofllgmoaaGreatDoor
open Go.RowKit
attribute [local go_sem ↓] Go.wp_at_zero Go.wp_at_succ
theorem jD {α:Type} {R:α->α->Prop}:∀{l:List α},l.Pairwise R->∀{i:Nat} {x y:α},l[i]?=some x->y∈l.take i->R y x
 | a::r,h,0,x,y,hx,hy=>by simp at hy
 | a::r,h,i+1,x,y,hx,hy=>by
  rw [List.take_succ_cons,List.mem_cons] at hy
  rw [List.getElem?_cons_succ] at hx
  rw [List.pairwise_cons] at h
  rcases hy with rfl | hy
  ·exact h.1 x (List.mem_of_getElem? hx)
  ·exact jD h.2 hx hy
structure oP (w wr:World) (B bb:Nat) (vI vE vN:Value) (LI LE LN:List Ent) (K:Nat->Prop) (ps:List (Inp×Value)) (j:Nat) (n':Int) (vI':Value) (LI':List Ent) (K':Nat->Prop):Prop where
 bk:vK wr B bb n' vI' vE vN LI' LE LN K'
 len:LI'.length=LI.length+j
 k:∀q,K' q->K q\/(∃p,p∈ps.take j/\own p.2 q)\/w.heap.size<=q
 v:∀q,own vI' q->own vI q\/w.heap.size<=q
 fr:Fr (fun q=>q=bb\/own vI q\/(∃p,p∈ps.take j/\own p.2 q)\/w.heap.size<=q) w wr (fun q=>q=bb\/own vI q\/(∃p,p∈ps.take j/\own p.2 q)\/w.heap.size<=q)
theorem oP.step {w wr w':World} {B bb:Nat} {vI vE vN:Value} {LI LE LN:List Ent} {K:Nat->Prop} {ps:List (Inp×Value)} {j:Nat} {n' n2:Int} {vI':Value} {LI':List Ent} {K':Nat->Prop} {x:Inp} {fv:Value} (h:oP w wr B bb vI vE vN LI LE LN K ps j n' vI' LI' K') (hp:ps[j]?=some (x,fv)) (hk:zQ4 wr w' B bb n2 vI' vE vN LI' LE LN K' fv):∃vI2 LI2 K2,oP w w' B bb vI vE vN LI LE LN K ps (j+1) n2 vI2 LI2 K2:=by
 obtain⟨vX,e,K2,hb,hk2,hv2,hf2⟩:=hk
 have ht:ps.take (j+1)=ps.take j++[(x,fv)]:=by rw [List.take_add_one,hp];rfl
 have hsz:=h.fr.size
 have up:∀{q},(∃p,p∈ps.take j/\own p.2 q)->∃p,p∈ps.take (j+1)/\own p.2 q:=fun ⟨p,hp,hq⟩=>⟨p,by rw [ht];exact List.mem_append_left _ hp,hq⟩
 have now:∀{q},own fv q->∃p,p∈ps.take (j+1)/\own p.2 q:=fun hq=>⟨(x,fv),by rw [ht];simp,hq⟩
 refine⟨vX,LI'++[e],K2,hb,by rw [List.length_append,h.len];rfl,fun q hq=>?_,fun q hq=>?_,?_⟩
 ·rcases hk2 q hq with h1 | h1 | h1
  ·rcases h.k q h1 with h3 | h3 | h3
   ·exact .inl h3
   ·exact .inr (.inl (up h3))
   ·exact .inr (.inr h3)
  ·exact .inr (.inl (now h1))
  ·exact .inr (.inr (by omega))
 ·rcases hv2 q hq with h1 | h1
  ·exact h.v q h1
  ·exact .inr (by omega)
 ·refine(h.fr.widen (fun q hq=>?_)).trans (hf2.widen (fun q hq=>?_))
  ·rcases hq with h1 | h1 | h1 | h1
   ·exact .inl h1
   ·exact .inr (.inl h1)
   ·exact .inr (.inr (.inl (up h1)))
   ·exact .inr (.inr (.inr h1))
  ·rcases hq with h1 | h1 | h1 | h1
   ·exact .inl h1
   ·rcases h.v q h1 with h3 | h3
    ·exact .inr (.inl h3)
    ·exact .inr (.inr (.inr h3))
   ·exact .inr (.inr (.inl (now h1)))
   ·exact .inr (.inr (.inr (by omega)))
def oI (w w':World) (B bb:Nat) (vE:Value) (LI LE LN:List Ent) (k:Nat):Prop:=
 ∃n' vI' vN' LI' LN' K',vK w' B bb n' vI' vE vN' LI' LE LN' K'/\LI'.length=LI.length+k/\LN'.length=LN.length+1/\Below B w w'
theorem oP.close {w w2 w':World} {B bb:Nat} {vI vE vN:Value} {LI LE LN:List Ent} {K:Nat->Prop} {ps:List (Inp×Value)} {j:Nat} {n' n2:Int} {vI' lv:Value} {LI':List Ent} {K':Nat->Prop} (hb0:vK w B bb n' vI vE vN LI LE LN K) (hbb:B<=bb) (hBw:B<=w.heap.size) (hi:uI w B lv ps) {n0:Int} (h:oP w w2 B bb vI vE vN LI LE LN K ps j n0 vI' LI' K') (hk:yC5 w2 w' B bb n2 vI' vE vN LI' LE LN K' lv):oI w w' B bb vE LI LE LN j:=by
 obtain⟨vX,e,K2,hb,_,_,hf2⟩:=hk
 have hsz:=h.fr.size
 refine⟨_,_,_,_,_,_,hb,h.len,by simp,?_⟩
 have b1:Below B w w2:=h.fr.below (fun q hq=>by
  rcases hq with h1 | h1 | ⟨p,hp,h1⟩ | h1
  ·omega
  ·exact(zS hb0.bk.rI q h1).1
  ·exact(zS (hi.fl p (List.mem_of_mem_take hp)) q h1).1
  ·omega) hBw
 exact b1.trans (hf2.below (fun q hq=>by
  rcases hq with h1 | h1 | h1 | h1
  ·omega
  ·exact(zS hb0.bk.rN q h1).1
  ·exact(zS hi.row q h1).1
  ·omega) (by omega))
theorem bE {w:World} {B bb:Nat} {n0:Int} {vI vE vN:Value} {LI LE LN:List Ent} {K:Nat->Prop} (h:vK w B bb n0 vI vE vN LI LE LN K) (hbb:B<=bb) (hBw0:B<=w.heap.size) {lv:Value} {ps:List (Inp×Value)} {nn:Nat} (hn:ps.length=nn) (hi:uI w B lv ps) (hk:∀q,inS lv ps q->¬K q) (hl:nn<=100000000) (hfl:∀p,p∈ps->p.1.2.2.2.length<=100) (hL:LI.length+nn<=900000000000) (hLN:LN.length<=900000000000) :
  Calls Tryz.prog 45 #[.pointer (some ⟨bb,0,none⟩),lv] w fun e w'=>e=.returned (.tuple #[])/\oI w w' B bb vE LI LE LN nn:=by
 have hrow:=hi.row
 rw [hn] at hrow
 obtain⟨a,c,rfl⟩:=yM hrow
 obtain⟨aX,cX,rfl⟩:=yM h.bk.rN
 have hgt:∀(wr:World) j n' vI' LI' K',oP w wr B bb vI vE (.slice aX LN.length cX) LI LE LN K ps j n' vI' LI' K'->∀q,q<w.heap.size->¬(∃cur,w.heap[q]?=some (.cells cur 65 (0,0)))->¬(∃cur,w.heap[q]?=some (.cells cur 105 (0,0)))->¬(∃p,p∈ps.take j/\own p.2 q)->wr.heap[q]?=w.heap[q]?:=fun wr j n' vI' LI' K' hfk q hq h1 h2 h3=>hfk.fr.same q hq (fun ht=>by
   rcases ht with e | e | e | e
   ·exact h1 ⟨_,by rw [e];exact h.bk.blk⟩
   ·exact h2 (tF h.bk.rI e)
   ·exact h3 e
   ·omega)
 have hrw:∀(wr:World) j n' vI' LI' K',oP w wr B bb vI vE (.slice aX LN.length cX) LI LE LN K ps j n' vI' LI' K'->∀q,own (.slice a nn c) q->wr.heap[q]?=w.heap[q]?:=fun wr j n' vI' LI' K' hfk q hq=>by
  obtain⟨cur,hcur⟩:=tF hrow hq
  refine hgt wr j n' vI' LI' K' hfk q (zS hrow q hq).2 (fun ⟨_,e⟩=>absurd (qU e hcur) (by decide)) (fun ⟨_,e⟩=>absurd (qU e hcur) (by decide)) (fun ⟨p,hp',hq'⟩=>?_)
  exact hi.sep p (List.mem_of_mem_take hp') q hq' hq
 have key:∀(wr:World) j n' vI' LI' K',j<nn->oP w wr B bb vI vE (.slice aX LN.length cX) LI LE LN K ps j n' vI' LI' K'->∃g fa fn fc x,a=some ⟨g,0,none⟩/\g<wr.heap.size/\ps[j]?=some (x,.slice fa fn fc)/\wr.cell? ⟨g,j*4+3,none⟩=some (.slice fa fn fc)/\Calls Tryz.prog 79 #[.pointer (some ⟨bb,0,none⟩),.slice fa fn fc] wr fun e w'=>e=.returned (.tuple #[])/\zQ4 wr w' B bb (wrap64 (n'+1)) vI' vE (.slice aX LN.length cX) LI' LE LN K' (.slice fa fn fc):=fun wr j n' vI' LI' K' hj hfk=>by
  obtain⟨g,cc,x,fv,hv,hgl,hp,_,_,_,h3,hof⟩:=hi.cells (i:=j) (by omega)
  obtain⟨fa,fn,fc,rfl⟩:=rA hof
  injection hv with hv hv2 hv3
  have hmem:(x,Value.slice fa fn fc)∈ps:=List.mem_of_getElem? hp
  have hown:∀q,own (.slice fa fn fc) q->wr.heap[q]?=w.heap[q]?:=fun q hq=>by
   obtain⟨cur,hcur⟩:=tF hof hq
   refine hgt wr j n' vI' LI' K' hfk q (zS hof q hq).2 (fun ⟨_,e⟩=>absurd (qU e hcur) (by decide)) (fun ⟨_,e⟩=>absurd (qU e hcur) (by decide)) (fun ⟨p,hp',hq'⟩=>?_)
   exact jD hi.dis hp hp' q hq' hq
  have hgg:wr.heap[g]?=w.heap[g]?:=hrw wr j n' vI' LI' K' hfk g (by rw [hv];rfl)
  have hofr:yR wr B (.slice fa fn fc) (zs x.2.2.2):=yA hof hown
  have hcall:=zA9 hfk.bk (Nat.le_trans hBw0 hfk.fr.size) hofr (fun q hq hkq=>by
   rcases hfk.k q hkq with e | ⟨p,hp',hq'⟩ | e
   ·exact hk q (.inr ⟨_,hmem,hq⟩) e
   ·exact jD hi.dis hp hp' q hq' hq
   ·have:=(zS hof q hq).2;omega) (by rw [xM];exact Nat.le_trans (hfl _ hmem) (by omega)) (by have:=hfk.len;omega)
  exact⟨g,fa,fn,fc,x,hv,zT hgl hfk.fr.size,hp,(yW hgg).trans h3,hcall⟩
 have start:oP w w B bb vI vE (.slice aX LN.length cX) LI LE LN K ps 0 n0 vI LI K:=⟨h,rfl,fun _ hq=>.inl hq,fun _ hq=>.inl hq,Fr.refl _ _⟩
 have KEY:=zZ key
 have ST:=zZ start
 have H0:=zZ h
 have HI:=zZ hi
 have HK0:=zZ hk
 have HRW:=zZ hrw
 have HROW:=zZ hrow
 have HN:=zZ hn
 clear key start h hi hk hfl hgt hrw hrow hn
 go_enter Tryz.func45,Tryz.ntmps45
 go_wp2
 go_loopw [4] (fun i wr=>∃j:Nat,j<=nn/\i=.int .i64 j/\∃n' vI' LI' K',oP w wr B bb vI vE (.slice aX LN.length cX) LI LE LN K ps j n' vI' LI' K') (fun i _=>nn-(intOf i).toNat)
 case atStart=>exact⟨0,Nat.zero_le _,rfl,_,_,_,_,zY ST⟩
 case round=>
  obtain⟨j,hj,rfl,nf,vIf,LIf,Kf,hfk⟩:=hrel
  by_cases hlt:j<nn
  ·obtain⟨g,fa,fn,fc,x,rfl,hgl,hp,hc3,hcall⟩:=zY KEY wr j nf vIf LIf Kf hlt hfk
   have HC:=zZ hcall
   have HFK:=zZ hfk
   have hk0:(0:Int)<=(j:Int):=by omega
   have hk1:(j:Int)<(nn:Int):=by omega
   clear hcall hfk KEY
   go_wp2_with fail
   go_at_call 79
   refine(zY HC).mono ?_
   rintro e w3 ⟨rfl,hkept⟩
   obtain⟨vI2,LI2,K2,h2⟩:=(zY HFK).step hp hkept
   clear HC hkept
   have H2:=zZ h2
   clear h2
   go_wp2
   go_roundw
   case rel=>exact⟨j+1,by omega,by go_num,_,_,_,_,zY H2⟩
   case measure=>simp [intOf];omega
  ·have hjl:j=nn:=by omega
   subst hjl
   rename Nat=>nn
   have hk1:¬(nn:Int)<(nn:Int):=by omega
   rename World=>w2
   have close:∀w',yC5 w2 w' B bb (wrap64 (nf+1)) vIf vE (.slice aX LN.length cX) LIf LE LN Kf (.slice a nn c)->oI w w' B bb vE LI LE LN nn:=fun w' h=>hfk.close (zY H0) hbb hBw0 (zY HI) h
   have HB:=zZ hfk.bk
   have ho2:w2.ownsRow B 49 4 (.slice a nn c) nn (xS ps):=yA (zY HROW) (fun q hq=>zY HRW w2 nn nf vIf LIf Kf hfk q hq)
   have HO:=zZ ho2
   have hnb:¬own (.slice a nn c) bb:=yP (zY HROW) (zY H0).bk.blk (by decide)
   have hkk:∀q,own (.slice a nn c) q->¬Kf q:=fun q hq hkq=>by
    rcases hfk.k q hkq with e | ⟨p,hp',hq'⟩ | e
    ·exact zY HK0 q (.inl hq) e
    ·exact(zY HI).sep p (List.mem_of_mem_take hp') q hq' hq
    ·have:=(zS (zY HROW) q hq).2;omega
   have HK:=zZ hkk
   have hBw:B<=w2.heap.size:=Nat.le_trans hBw0 hfk.fr.size
   have CLOSE:=zZ close
   clear hfk ho2 hkk close KEY ST H0 HI HK0 HRW HROW
   have HNB:=zZ hnb
   clear hnb
   have y0:=yD w2 bb 0 _ 65 (.int .i64 (wrap64 (nf+1))) (zY HB).bk.blk
   have cb:=fun j=>cell_of_row w2 _ j _ 65 (0,0) (zY HB).bk.blk
   have zb:=fun j=>yB (zY HB).bk.blk j
   have hbw:bb<w2.heap.size:=(zN.1 (zY HB).bk.blk).1
   have Y0:=zZ y0
   clear y0
   go_wp2
   obtain⟨m,hm⟩ : ∃m,wrap64 (1000+wrap64 (nf+1))=m:=⟨_,rfl⟩
   rw [hm]
   have z1:(w2.setCell ⟨bb,0,none⟩ (.int .i64 (wrap64 (nf+1)))).heap.size=w2.heap.size:=by simp [World.setCell]
   have hf1:Fr (fun q=>q=bb) w2 ((w2.setCell ⟨bb,0,none⟩ (.int .i64 (wrap64 (nf+1)))).alloc (.cells #[.int .i64 0,.int .i64 0,.int .i64 m,.slice none 0 0] 49)) (fun q=>q=bb):=((Fr.refl (fun q=>q=bb) w2).setCell _ _ (.inl rfl)).alloc _
   have y1:((w2.setCell ⟨bb,0,none⟩ (.int .i64 (wrap64 (nf+1)))).alloc (.cells #[.int .i64 0,.int .i64 0,.int .i64 m,.slice none 0 0] 49)).heap[bb]?=some (.cells #[.int .i64 (wrap64 (nf+1)),vIf,vE,.slice aX LN.length cX] 65):=(zR _ _ _ (by rw [z1];exact hbw)).trans (zY Y0)
   have p1:((w2.setCell ⟨bb,0,none⟩ (.int .i64 (wrap64 (nf+1)))).alloc (.cells #[.int .i64 0,.int .i64 0,.int .i64 m,.slice none 0 0] 49)).heap[w2.heap.size]?=some (.cells #[.int .i64 0,.int .i64 0,.int .i64 m,.slice none 0 0] 49):=by
    have h:=heap_alloc_new (w2.setCell ⟨bb,0,none⟩ (.int .i64 (wrap64 (nf+1)))) (.cells #[.int .i64 0,.int .i64 0,.int .i64 m,.slice none 0 0] 49)
    rwa [z1] at h
   have z2:w2.heap.size<((w2.setCell ⟨bb,0,none⟩ (.int .i64 (wrap64 (nf+1)))).alloc (.cells #[.int .i64 0,.int .i64 0,.int .i64 m,.slice none 0 0] 49)).heap.size:=(zN.1 p1).1
   have hnP:¬own (.slice a nn c) w2.heap.size:=fun hq=>by have:=(zS (zY HO) _ hq).2;omega
   have o1:((w2.setCell ⟨bb,0,none⟩ (.int .i64 (wrap64 (nf+1)))).alloc (.cells #[.int .i64 0,.int .i64 0,.int .i64 m,.slice none 0 0] 49)).ownsRow B 49 4 (.slice a nn c) nn (uC 0 [.int .i64 0,.int .i64 0,.int .i64 m,.slice none 0 0]++(xS ps).drop (0*4)):=by
    rw [Nat.zero_mul,List.drop_zero]
    exact yA (zY HO) (fun q hq=>hf1.same q (zS (zY HO) q hq).2 (fun e=>zY HNB (e▸hq)))
   generalize hw1:(w2.setCell ⟨bb,0,none⟩ (.int .i64 (wrap64 (nf+1)))).alloc (.cells #[.int .i64 0,.int .i64 0,.int .i64 m,.slice none 0 0] 49)=w1 at *
   have HNP:=zZ hnP
   have O1:=zZ o1
   have Y1:=zZ y1
   have HF1:=zZ hf1
   have P1:=zZ p1
   have Z2:=zZ z2
   clear o1 y1 hf1 p1 hw1 hm cb zb z1 z2 Y0 hnP
   go_loopw [7] (fun i wr=>∃j:Nat,j<=nn/\i=.int .i64 j/\Hid (wr.ownsRow B 49 4 (.slice a nn c) nn (uC j [.int .i64 0,.int .i64 0,.int .i64 m,.slice none 0 0]++(xS ps).drop (j*4)))/\Fr (own (.slice a nn c)) w1 wr (own (.slice a nn c))) (fun i _=>nn-(intOf i).toNat)
   case atStart=>exact⟨0,Nat.zero_le _,rfl,O1,Fr.refl _ _⟩
   case round=>
    obtain⟨j,hj,rfl,hoj,hfj⟩:=hrel
    have hpr:=(hfj.same w2.heap.size (zY Z2) (zY HNP)).trans (zY P1)
    have cP:=fun i=>cell_of_row wr _ i _ 49 (0,0) hpr
    by_cases hlt:j<nn
    ·obtain⟨g,hg,hgl,hcell,hfz⟩:=yJ6 (zY hoj) (by omega)
     subst hg
     obtain⟨c0,k0⟩:=hcell (j*4) (by omega)
     have f0:=hfz (j*4)
     obtain⟨c1,k1⟩:=hcell (j*4+1) (by omega)
     have f1:=hfz (j*4+1)
     obtain⟨c2,k2⟩:=hcell (j*4+2) (by omega)
     have f2:=hfz (j*4+2)
     obtain⟨c3,k3⟩:=hcell (j*4+3) (by omega)
     have f3:=hfz (j*4+3)
     have hon:=yB6 (zY hoj) hlt (.int .i64 0) (.int .i64 0) (.int .i64 m) (.slice none 0 0)
     have HN:=zZ hon
     have HFJ:=zZ hfj
     have hk0:(0:Int)<=(j:Int):=by omega
     have hk1:(j:Int)<(nn:Int):=by omega
     have hgP':¬w2.heap.size=g:=fun e=>zY HNP (by rw [e];rfl)
     clear hoj hon hfj hcell hfz hpr
     go_wp2
     go_roundw
     case rel=>
      refine⟨j+1,by omega,by go_num,HN,?_⟩
      refine((((zY HFJ).setCell ⟨g,j*4,none⟩ (.int .i64 0) (.inl rfl)).setCell ⟨g,j*4+1,none⟩ (.int .i64 0) (.inl rfl)).setCell ⟨g,j*4+2,none⟩ (.int .i64 m) (.inl rfl)).setCell ⟨g,j*4+3,none⟩ (.slice none 0 0) (.inl rfl)
     case measure=>simp [intOf];omega
    ·have hjl:j=nn:=by omega
     subst hjl
     have hk1:¬(j:Int)<(j:Int):=by omega
     have hoe:wr.ownsRow B 49 4 (.slice a j c) j (uC j [.int .i64 0,.int .i64 0,.int .i64 m,.slice none 0 0]):=by
      have h:=zY hoj
      rw [List.drop_eq_nil_of_le (Nat.le_of_eq (zY HO).1),List.append_nil] at h
      exact h
     have hpl:w2.heap.size<wr.heap.size:=(zN.1 hpr).1
     have hPX:w2.heap.size≠wr.heap.size:=by omega
     have hPX':¬wr.heap.size=w2.heap.size:=by omega
     have hrB:B<=wr.heap.size:=by omega
     have C0n:=heap_alloc_new wr (.cells #[.slice a j c,.slice none 0 0,.slice none 0 0,.slice none 0 0,.int .i64 m] 111)
     have v0o:((wr.alloc (.cells #[.slice a j c,.slice none 0 0,.slice none 0 0,.slice none 0 0,.int .i64 m] 111)).alloc (.cells #[.int .i64 0,.int .i64 0,.int .i64 m,.slice none 0 0] 49)).ownsRow B 49 4 (.slice a j c) j (uC j [.int .i64 0,.int .i64 0,.int .i64 m,.slice none 0 0]):=World.ownsRow.alloc (World.ownsRow.alloc hoe _) _
     have v0x:((wr.alloc (.cells #[.slice a j c,.slice none 0 0,.slice none 0 0,.slice none 0 0,.int .i64 m] 111)).alloc (.cells #[.int .i64 0,.int .i64 0,.int .i64 m,.slice none 0 0] 49)).heap[wr.heap.size]?=some (.cells #[.slice a j c,.slice none 0 0,.slice none 0 0,.slice none 0 0,.int .i64 m] 111):=(zR _ _ _ (by simp)).trans C0n
     have v0p:((wr.alloc (.cells #[.slice a j c,.slice none 0 0,.slice none 0 0,.slice none 0 0,.int .i64 m] 111)).alloc (.cells #[.int .i64 0,.int .i64 0,.int .i64 m,.slice none 0 0] 49)).heap[w2.heap.size]?=some (.cells #[.int .i64 0,.int .i64 0,.int .i64 m,.slice none 0 0] 49):=(zR _ _ _ (by simp;omega)).trans ((zR _ _ _ hpl).trans hpr)
     have v0n:((wr.alloc (.cells #[.slice a j c,.slice none 0 0,.slice none 0 0,.slice none 0 0,.int .i64 m] 111)).alloc (.cells #[.int .i64 0,.int .i64 0,.int .i64 m,.slice none 0 0] 49)).heap[wr.heap.size+1]?=some (.cells #[.int .i64 0,.int .i64 0,.int .i64 m,.slice none 0 0] 49):=by
      have h:=heap_alloc_new (wr.alloc (.cells #[.slice a j c,.slice none 0 0,.slice none 0 0,.slice none 0 0,.int .i64 m] 111)) (.cells #[.int .i64 0,.int .i64 0,.int .i64 m,.slice none 0 0] 49)
      rwa [show (wr.alloc (.cells #[.slice a j c,.slice none 0 0,.slice none 0 0,.slice none 0 0,.int .i64 m] 111)).heap.size=wr.heap.size+1 by simp] at h
     have hB0:B<=((wr.alloc (.cells #[.slice a j c,.slice none 0 0,.slice none 0 0,.slice none 0 0,.int .i64 m] 111)).alloc (.cells #[.int .i64 0,.int .i64 0,.int .i64 m,.slice none 0 0] 49)).heap.size:=by simp;omega
     have V0O:=zZ v0o
     have V0X:=zZ v0x
     have V0P:=zZ v0p
     have V0N:=zZ v0n
     have HFJ:=zZ hfj
     clear hoj hoe hfj C0n v0o v0x v0n v0p hpr
     go_wp2_with (at_builtin;first | (refine uS rL (by omega) (by omega) (B:=B) (n:=j) (m:=1) (xs:=uC j [.int .i64 0,.int .i64 0,.int .i64 m,.slice none 0 0]) (news:=[.int .i64 0,.int .i64 0,.int .i64 m,.slice none 0 0]) rfl (.tmp 49) (.tmp 51) rfl (ad:=⟨wr.heap.size+1,0,none⟩) (cap:=1) rfl rfl (zY V0O) rfl (World.news_of_block (zY V0N)) (by simp [Value.oneCell']) (by omega) (by omega) hB0 ?_;intro va wa sha ra da;obtain⟨aa,ca,rfl⟩:=sha;have ra':wa.ownsRow B 49 4 (.slice aa (j+1) ca) (j+1) (uC (j+1) [.int .i64 0,.int .i64 0,.int .i64 m,.slice none 0 0]):=(by rw [<-uR];exact ra);have xa:=(uK (zY V0O) da wr.heap.size (zN.1 (zY V0X)).1 (yP (zY V0O) (zY V0X) (by decide))).trans (zY V0X);have kca:=fun i=>cell_of_row wa _ i _ 111 (0,0) xa;have kza:=fun i=>yB xa i;have pa:=(uK (zY V0O) da w2.heap.size (zN.1 (zY V0P)).1 (zY HNP)).trans (zY V0P);have kpa:=fun i=>cell_of_row wa _ i _ 49 (0,0) pa;have K1:=zZ (pH (k:=1) (us:=[.int .i64 0,.int .i64 0,.int .i64 m,.slice none 0 0]) (by simp) (by decide) (by omega) (zY V0O) (zY V0X) ra' da);have PP:=zZ pa;clear ra ra' da xa pa V0N;have V1O:=zZ (show ((wa.setCell ⟨wr.heap.size,1,none⟩ (.slice aa (j+1) ca)).alloc (.cells #[.int .i64 0,.int .i64 0,.int .i64 m,.slice none 0 0,.int .i64 0,.int .i64 0,.int .i64 m,.slice none 0 0] 49)).ownsRow B 49 4 (.slice a j c) j (uC j [.int .i64 0,.int .i64 0,.int .i64 m,.slice none 0 0]) from World.ownsRow.alloc (zY K1).1 _);have V1X:=zZ (show ((wa.setCell ⟨wr.heap.size,1,none⟩ (.slice aa (j+1) ca)).alloc (.cells #[.int .i64 0,.int .i64 0,.int .i64 m,.slice none 0 0,.int .i64 0,.int .i64 0,.int .i64 m,.slice none 0 0] 49)).heap[wr.heap.size]?=some (.cells #[.slice a j c,.slice aa (j+1) ca,.slice none 0 0,.slice none 0 0,.int .i64 m] 111) from (zR _ _ _ (zN.1 (zY K1).2.1).1).trans (zY K1).2.1);have V1P:=zZ (show ((wa.setCell ⟨wr.heap.size,1,none⟩ (.slice aa (j+1) ca)).alloc (.cells #[.int .i64 0,.int .i64 0,.int .i64 m,.slice none 0 0,.int .i64 0,.int .i64 0,.int .i64 m,.slice none 0 0] 49)).heap[w2.heap.size]?=some (.cells #[.int .i64 0,.int .i64 0,.int .i64 m,.slice none 0 0] 49) from (zR _ _ _ (by simp [World.setCell];exact(zN.1 (zY PP)).1)).trans ((zQ _ _ _ _ hPX).trans (zY PP)));have V1N:=zZ (show ((wa.setCell ⟨wr.heap.size,1,none⟩ (.slice aa (j+1) ca)).alloc (.cells #[.int .i64 0,.int .i64 0,.int .i64 m,.slice none 0 0,.int .i64 0,.int .i64 0,.int .i64 m,.slice none 0 0] 49)).heap[wa.heap.size]?=some (.cells #[.int .i64 0,.int .i64 0,.int .i64 m,.slice none 0 0,.int .i64 0,.int .i64 0,.int .i64 m,.slice none 0 0] 49) from (by have h:=heap_alloc_new (wa.setCell ⟨wr.heap.size,1,none⟩ (.slice aa (j+1) ca)) (.cells #[.int .i64 0,.int .i64 0,.int .i64 m,.slice none 0 0,.int .i64 0,.int .i64 0,.int .i64 m,.slice none 0 0] 49);rwa [show (wa.setCell ⟨wr.heap.size,1,none⟩ (.slice aa (j+1) ca)).heap.size=wa.heap.size by simp [World.setCell]] at h));have hB1:B<=((wa.setCell ⟨wr.heap.size,1,none⟩ (.slice aa (j+1) ca)).alloc (.cells #[.int .i64 0,.int .i64 0,.int .i64 m,.slice none 0 0,.int .i64 0,.int .i64 0,.int .i64 m,.slice none 0 0] 49)).heap.size:=(by have h:=(zY K1).2.2.2.2.1.size;have h0:=hB0;simp at h h0 ⊢;omega);clear PP) | (refine uS rL (by omega) (by omega) (B:=B) (n:=j) (m:=2) (xs:=uC j [.int .i64 0,.int .i64 0,.int .i64 m,.slice none 0 0]) (news:=[.int .i64 0,.int .i64 0,.int .i64 m,.slice none 0 0,.int .i64 0,.int .i64 0,.int .i64 m,.slice none 0 0]) rfl (.tmp 54) (.tmp 57) rfl (ad:=⟨wa.heap.size,0,none⟩) (cap:=2) rfl rfl (zY V1O) rfl (World.news_of_block (zY V1N)) (by simp [Value.oneCell']) (by omega) (by omega) hB1 ?_;intro va wb sha ra da;obtain⟨ab,cb,rfl⟩:=sha;have ra':wb.ownsRow B 49 4 (.slice ab (j+2) cb) (j+2) (uC (j+2) [.int .i64 0,.int .i64 0,.int .i64 m,.slice none 0 0]):=(by rw [<-uR];exact ra);have xa:=(uK (zY V1O) da wr.heap.size (zN.1 (zY V1X)).1 (yP (zY V1O) (zY V1X) (by decide))).trans (zY V1X);have kcb:=fun i=>cell_of_row wb _ i _ 111 (0,0) xa;have kzb:=fun i=>yB xa i;have pa:=(uK (zY V1O) da w2.heap.size (zN.1 (zY V1P)).1 (zY HNP)).trans (zY V1P);have kpb:=fun i=>cell_of_row wb _ i _ 49 (0,0) pa;have K2:=zZ (pH (k:=2) (us:=[.int .i64 0,.int .i64 0,.int .i64 m,.slice none 0 0]) (by simp) (by decide) (by omega) (zY V1O) (zY V1X) ra' da);have PP:=zZ pa;clear ra ra' da xa pa V1N;have V2O:=zZ (show ((wb.setCell ⟨wr.heap.size,2,none⟩ (.slice ab (j+2) cb)).alloc (.cells #[.int .i64 0,.int .i64 0,.int .i64 m,.slice none 0 0,.int .i64 0,.int .i64 0,.int .i64 m,.slice none 0 0,.int .i64 0,.int .i64 0,.int .i64 m,.slice none 0 0] 49)).ownsRow B 49 4 (.slice a j c) j (uC j [.int .i64 0,.int .i64 0,.int .i64 m,.slice none 0 0]) from World.ownsRow.alloc (zY K2).1 _);have V2X:=zZ (show ((wb.setCell ⟨wr.heap.size,2,none⟩ (.slice ab (j+2) cb)).alloc (.cells #[.int .i64 0,.int .i64 0,.int .i64 m,.slice none 0 0,.int .i64 0,.int .i64 0,.int .i64 m,.slice none 0 0,.int .i64 0,.int .i64 0,.int .i64 m,.slice none 0 0] 49)).heap[wr.heap.size]?=some (.cells #[.slice a j c,.slice aa (j+1) ca,.slice ab (j+2) cb,.slice none 0 0,.int .i64 m] 111) from (zR _ _ _ (zN.1 (zY K2).2.1).1).trans (zY K2).2.1);have V2P:=zZ (show ((wb.setCell ⟨wr.heap.size,2,none⟩ (.slice ab (j+2) cb)).alloc (.cells #[.int .i64 0,.int .i64 0,.int .i64 m,.slice none 0 0,.int .i64 0,.int .i64 0,.int .i64 m,.slice none 0 0,.int .i64 0,.int .i64 0,.int .i64 m,.slice none 0 0] 49)).heap[w2.heap.size]?=some (.cells #[.int .i64 0,.int .i64 0,.int .i64 m,.slice none 0 0] 49) from (zR _ _ _ (by simp [World.setCell];exact(zN.1 (zY PP)).1)).trans ((zQ _ _ _ _ hPX).trans (zY PP)));have V2N:=zZ (show ((wb.setCell ⟨wr.heap.size,2,none⟩ (.slice ab (j+2) cb)).alloc (.cells #[.int .i64 0,.int .i64 0,.int .i64 m,.slice none 0 0,.int .i64 0,.int .i64 0,.int .i64 m,.slice none 0 0,.int .i64 0,.int .i64 0,.int .i64 m,.slice none 0 0] 49)).heap[wb.heap.size]?=some (.cells #[.int .i64 0,.int .i64 0,.int .i64 m,.slice none 0 0,.int .i64 0,.int .i64 0,.int .i64 m,.slice none 0 0,.int .i64 0,.int .i64 0,.int .i64 m,.slice none 0 0] 49) from (by have h:=heap_alloc_new (wb.setCell ⟨wr.heap.size,2,none⟩ (.slice ab (j+2) cb)) (.cells #[.int .i64 0,.int .i64 0,.int .i64 m,.slice none 0 0,.int .i64 0,.int .i64 0,.int .i64 m,.slice none 0 0,.int .i64 0,.int .i64 0,.int .i64 m,.slice none 0 0] 49);rwa [show (wb.setCell ⟨wr.heap.size,2,none⟩ (.slice ab (j+2) cb)).heap.size=wb.heap.size by simp [World.setCell]] at h));have hB2:B<=((wb.setCell ⟨wr.heap.size,2,none⟩ (.slice ab (j+2) cb)).alloc (.cells #[.int .i64 0,.int .i64 0,.int .i64 m,.slice none 0 0,.int .i64 0,.int .i64 0,.int .i64 m,.slice none 0 0,.int .i64 0,.int .i64 0,.int .i64 m,.slice none 0 0] 49)).heap.size:=(by have h:=(zY K2).2.2.2.2.1.size;have h0:=hB1;simp at h h0 ⊢;omega);clear PP) | (refine uS rL (by omega) (by omega) (B:=B) (n:=j) (m:=3) (xs:=uC j [.int .i64 0,.int .i64 0,.int .i64 m,.slice none 0 0]) (news:=[.int .i64 0,.int .i64 0,.int .i64 m,.slice none 0 0,.int .i64 0,.int .i64 0,.int .i64 m,.slice none 0 0,.int .i64 0,.int .i64 0,.int .i64 m,.slice none 0 0]) rfl (.tmp 60) (.tmp 64) rfl (ad:=⟨wb.heap.size,0,none⟩) (cap:=3) rfl rfl (zY V2O) rfl (World.news_of_block (zY V2N)) (by simp [Value.oneCell']) (by omega) (by omega) hB2 ?_;intro va wc sha ra da;obtain⟨ac,cc,rfl⟩:=sha;have ra':wc.ownsRow B 49 4 (.slice ac (j+3) cc) (j+3) (uC (j+3) [.int .i64 0,.int .i64 0,.int .i64 m,.slice none 0 0]):=(by rw [<-uR];exact ra);have xa:=(uK (zY V2O) da wr.heap.size (zN.1 (zY V2X)).1 (yP (zY V2O) (zY V2X) (by decide))).trans (zY V2X);have kcc:=fun i=>cell_of_row wc _ i _ 111 (0,0) xa;have kzc:=fun i=>yB xa i;have pa:=(uK (zY V2O) da w2.heap.size (zN.1 (zY V2P)).1 (zY HNP)).trans (zY V2P);have kpc:=fun i=>cell_of_row wc _ i _ 49 (0,0) pa;have K3:=zZ (pH (k:=3) (us:=[.int .i64 0,.int .i64 0,.int .i64 m,.slice none 0 0]) (by simp) (by decide) (by omega) (zY V2O) (zY V2X) ra' da);have PP:=zZ pa;clear ra ra' da xa pa V2N;clear PP))
     have hXB:w2.heap.size<=wr.heap.size:=by omega
     have f1:Fr (fun q=>own (.slice a j c) q\/q=wr.heap.size) w1 (wc.setCell ⟨wr.heap.size,3,none⟩ (.slice ac (j+3) cc)) (fun q=>own (.slice a j c) q\/q=wr.heap.size):=
      ((zY HFJ).widen (fun _ h=>.inl h)).trans ((((Fr.refl _ wr).alloc _).alloc _).trans ((zY K1).2.2.2.2.1.trans (((Fr.refl _ _).alloc _).trans ((zY K2).2.2.2.2.1.trans (((Fr.refl _ _).alloc _).trans (zY K3).2.2.2.2.1)))))
     have hbl:bb<w1.heap.size:=(zN.1 (zY Y1)).1
     have hbd:(wc.setCell ⟨wr.heap.size,3,none⟩ (.slice ac (j+3) cc)).heap[bb]?=some (.cells #[.int .i64 (wrap64 (nf+1)),vIf,vE,.slice aX LN.length cX] 65):=(f1.same bb hbl (fun h=>by
      rcases h with h | h
      ·exact zY HNB h
      ·omega)).trans (zY Y1)
     have fT:Fr (fun q=>q=bb\/own (.slice a j c) q\/w2.heap.size<=q) w2 (wc.setCell ⟨wr.heap.size,3,none⟩ (.slice ac (j+3) cc)) (fun q=>q=bb\/own (.slice a j c) q\/w2.heap.size<=q):=
      ((
        zY HF1).widen (fun _ h=>.inl h)).trans (f1.widen (fun q h=>by
        rcases h with h | h
        ·exact .inr (.inl h)
        ·exact .inr (.inr (by omega))))
     have bk:=(zY HB).mid fT (fun q hq h=>by
      rcases h with h | h | h
      ·exact .inl h
      ·obtain⟨cur,hcur⟩:=tF (zY HO) h
       exact .inr ⟨zY HK q h,yP (zY HB).bk.rI hcur (by decide),yP (zY HB).bk.rE hcur (by decide),yP (zY HB).bk.rN hcur (by decide)⟩
      ·omega) hbd
     have m1:=(zY K3).2.2.2.1 _ 1 (by omega) (((zY K2).2.2.2.1 _ 1 (by omega) ((zY K1).2.2.1.fr ((Fr.refl _ _).alloc _))).fr ((Fr.refl _ _).alloc _))
     have m2:=(zY K3).2.2.2.1 _ 2 (by omega) ((zY K2).2.2.1.fr ((Fr.refl _ _).alloc _))
     have m3:=(zY K3).2.2.1
     have od:=(zY K3).1
     have xd:=(zY K3).2.1
     have g1:=(zY K1).2.2.2.2.2
     have g2:=(zY K2).2.2.2.2.2
     have g3:=(zY K3).2.2.2.2.2
     have s1:w2.heap.size<=((wr.alloc (.cells #[.slice a j c,.slice none 0 0,.slice none 0 0,.slice none 0 0,.int .i64 m] 111)).alloc (.cells #[.int .i64 0,.int .i64 0,.int .i64 m,.slice none 0 0] 49)).heap.size:=by simp;omega
     have s2:=Nat.le_trans (Nat.le_trans s1 (zY K1).2.2.2.2.1.size) (Fr.size ((Fr.refl (fun _=>False) _).alloc (.cells #[.int .i64 0,.int .i64 0,.int .i64 m,.slice none 0 0,.int .i64 0,.int .i64 0,.int .i64 m,.slice none 0 0] 49)))
     have s3:=Nat.le_trans (Nat.le_trans s2 (zY K2).2.2.2.2.1.size) (Fr.size ((Fr.refl (fun _=>False) _).alloc (.cells #[.int .i64 0,.int .i64 0,.int .i64 m,.slice none 0 0,.int .i64 0,.int .i64 0,.int .i64 m,.slice none 0 0,.int .i64 0,.int .i64 0,.int .i64 m,.slice none 0 0] 49)))
     have fresh:∀q,(own (.slice a j c) q\/own (.slice aa (j+1) ca) q\/own (.slice ab (j+2) cb) q\/own (.slice ac (j+3) cc) q)->own (.slice a j c) q\/w2.heap.size<=q:=fun q hq=>by
      rcases hq with h | h | h | h
      ·exact .inl h
      ·exact(g1 q h).imp id (fun h=>Nat.le_trans s1 h)
      ·exact(g2 q h).imp id (fun h=>Nat.le_trans s2 h)
      ·exact(g3 q h).imp id (fun h=>Nat.le_trans s3 h)
     have hXI:¬own (.slice aX LN.length cX) wr.heap.size:=fun hq=>by have:=(zS (zY HB).bk.rN _ hq).2;omega
     have hwd:B<=(wc.setCell ⟨wr.heap.size,3,none⟩ (.slice ac (j+3) cc)).heap.size:=Nat.le_trans hBw fT.size
     clear g1 g2 g3 s1 s2 s3 f1 hbd hbl K1 K2 K3 V0O V0X V0P V1O V1X V1P V2O V2X V2P HB HO HK HF1 HFJ Y1 O1 hB0 hB1 hB2 kca kza kpa kcb kzb kpb kcc kzc kpc P1 Z2 cP hpl hPX hPX'
     generalize (wc.setCell ⟨wr.heap.size,3,none⟩ (.slice ac (j+3) cc))=wd at *
     have ty:∀q,(own (.slice a j c) q\/own (.slice aa (j+1) ca) q\/own (.slice ab (j+2) cb) q\/own (.slice ac (j+3) cc) q)->∃cur,wd.heap[q]?=some (.cells cur 49 (0,0)):=fun q hq=>by
      rcases hq with h | h | h | h
      ·exact tF od h
      ·exact m1.ty od h
      ·exact m2.ty od h
      ·exact m3.ty od h
     have full:uN wd (.slice a j c) m/\uN wd (.slice aa (j+1) ca) m/\uN wd (.slice ab (j+2) cb) m/\uN wd (.slice ac (j+3) cc) m:=⟨(oY.row (by simp) od (by omega)).toN,m1.1.toN,m2.1.toN,m3.1.toN⟩
     have cbb:=fun i=>cell_of_row wd bb i _ 65 (0,0) bk.bk.blk
     have FT:=zZ fT
     have BK:=zZ bk
     have TY:=zZ ty
     have FULL:=zZ full
     have FRESH:=zZ fresh
     have XD:=zZ xd
     clear fT bk ty full fresh m1 m2 m3 od
     have hE5:∀o,(wd.alloc o).drew.heap[wr.heap.size]?=some (.cells #[.slice a j c,.slice aa (j+1) ca,.slice ab (j+2) cb,.slice ac (j+3) cc,.int .i64 m] 111 (0,0)):=fun o=>(zR wd o _ (zN.1 (zY XD)).1).trans (zY XD)
     have cbq:∀o,(wd.alloc o).drew.cell? ⟨bb,3,none⟩=some (.slice aX LN.length cX):=fun o=>by
      have h:(wd.alloc o).drew.heap[bb]?=_:=(zR wd o _ (zN.1 (zY BK).bk.blk).1).trans (zY BK).bk.blk
      exact cell_of_row _ _ 3 _ 65 (0,0) h
     clear xd
     have hXb:wr.heap.size≠bb:=fun e=>by have h:=zY XD;rw [e] at h;exact absurd (qU h (zY BK).bk.blk) (by decide)
     have fin:∀v' w3,w3.ownsRow B 111 5 v' (LN.length+1) (uE LN++[.slice a j c,.slice aa (j+1) ca,.slice ab (j+2) cb,.slice ac (j+3) cc,.int .i64 m])->Fr (own (.slice aX LN.length cX)) (wd.alloc (.cells #[.slice a j c,.slice aa (j+1) ca,.slice ab (j+2) cb,.slice ac (j+3) cc,.int .i64 m] 111)).drew w3 (own v')->yC5 w2 (w3.setCell ⟨bb,3,none⟩ v') B bb (wrap64 (nf+1)) (vIf) (vE) (.slice aX LN.length cX) LIf LE LN Kf (.slice a j c):=fun v' w3 o3 f3=>by
      have fa:Fr (fun _=>False) wd (wd.alloc (.cells #[.slice a j c,.slice aa (j+1) ca,.slice ab (j+2) cb,.slice ac (j+3) cc,.int .i64 m] 111)).drew (fun _=>False):=((Fr.refl _ _).alloc _).drew
      have hall:∀q,q<wd.heap.size->(wd.alloc (.cells #[.slice a j c,.slice aa (j+1) ca,.slice ab (j+2) cb,.slice ac (j+3) cc,.int .i64 m] 111)).drew.heap[q]?=wd.heap[q]?:=fun q hq=>fa.same q hq (fun h=>h)
      have full:=zY FULL
      have hb:=((zY BK).fr fa).addN (e:=⟨.slice a j c,.slice aa (j+1) ca,.slice ab (j+2) cb,.slice ac (j+3) cc,m⟩) (K2:=fun q=>(own (.slice a j c) q\/own (.slice aa (j+1) ca) q\/own (.slice ab (j+2) cb) q\/own (.slice ac (j+3) cc) q)) ⟨full.1.fr fa,full.2.1.fr fa,full.2.2.1.fr fa,full.2.2.2.fr fa⟩ ⟨vV.mono (fun _ h=>.inl h),vV.mono (fun _ h=>.inr (.inl h)),vV.mono (fun _ h=>.inr (.inr (.inl h))),vV.mono (fun _ h=>.inr (.inr (.inr h)))⟩ (fun q hq=>by
       obtain⟨cur,hcur⟩:=zY TY q hq
       exact⟨cur,(hall q (zN.1 hcur).1).trans hcur⟩) o3 f3
      refine⟨v',_,_,hb,fun q hq=>?_,fun q hq=>?_,?_⟩
      ·rcases hq with h | h
       ·exact .inl h
       ·exact .inr (zY FRESH q h)
      ·by_cases hlt:q<w2.heap.size
       ·exact .inl (f3.old q (zT hlt (Nat.le_trans (zY FT).size fa.size)) hq)
       ·exact .inr (by omega)
      ·refine Fr.setCell ?_ _ _ (.inl (.inl rfl))
       refine((zY FT).widen (fun q h=>?_)).trans ((fa.widen (fun q h=>h.elim)).trans (f3.widen (fun q h=>.inr (.inl h))))
       rcases h with h | h | h
       ·exact .inl h
       ·exact .inr (.inr (.inl h))
       ·exact .inr (.inr (.inr h))
     refine wp_region_held_drew (S:=fun w'=>w'.heap[wr.heap.size]?=some (.cells #[.slice a j c,.slice aa (j+1) ca,.slice ab (j+2) cb,.slice ac (j+3) cc,.int .i64 m] 111 (0,0))) (by kernel_rfl) ?_ (fun hHeld=>?_)
     ·exact zY XD
     refine zA (i:=0) (oi:={dst:=some 67,op:=.move (.tmp 0),type:=60,pos:= "law.go:132",after:=#[],guard:=none}) ?_
     simp only [Act.put,zC,zD,zE]
     refine zA (i:=1) (oi:={dst:=some 68,op:=.move (.tmp 0),type:=60,pos:= "law.go:132",after:=#[],guard:=none}) ?_
     simp only [Act.put,zC,zD,zE]
     refine zA (i:=2) (oi:={dst:=some 69,op:=.nilCheck (.tmp 68),type:=0,pos:= "law.go:132",after:=#[zG 1],guard:=none}) ?_
     simp only [Act.put,zC,zD,zE]
     refine zA (i:=3) (oi:={dst:=some 70,op:=.fieldAddr 65 (.tmp 69) 3,type:=0,pos:= "law.go:132",after:=#[zG 2],guard:=none}) ?_
     simp only [Act.put,zC,zD,zE]
     refine zB (i:=5) (oi:={dst:=some 72,op:=.load 111 (.tmp 8),type:=111,pos:= "law.go:132",after:=#[],guard:=none}) ?_
     simp only [Act.put,zC,zD,zE]
     refine wpAnyH_ready (rs:=[4,6]) (by kernel_rfl) (by simp) ?_
     refine AllReadyH.cons (o:={dst:=some 71,op:=.load 63 (.tmp 70),type:=63,pos:= "law.go:132",after:=#[zG 3],guard:=none}) rfl (fun K' hK'=>?_) (AllReadyH.cons (o:={dst:=some 73,op:=.buildSlice 63 1 #[(0,.tmp 72)],type:=63,pos:= "law.go:132",after:=#[zG 5],guard:=none}) rfl (fun K' hK'=>?_) AllReadyH.nil)
     focus
      go_simp
      refine hK'.out _ _ ?_ (fun hHeld=>?_)
      ·exact zY XD
      clear hK' K'
      try simp only [Act.put,zC,zD,zE]
      refine zL (i:=6) (o:={dst:=some 73,op:=.buildSlice 63 1 #[(0,.tmp 72)],type:=63,pos:= "law.go:132",after:=#[zG 5],guard:=none}) (fun K' hK'=>?_)
     rotate_left
     focus
      go_simp
      refine hK'.out _ _ ?_ (fun hHeld=>?_)
      ·exact hE5 _
      clear hK' K'
      try simp only [Act.put,zC,zD,zE]
      refine zL (i:=4) (o:={dst:=some 71,op:=.load 63 (.tmp 70),type:=63,pos:= "law.go:132",after:=#[zG 3],guard:=none}) (fun K' hK'=>?_)
     rotate_left
     all_goals
      go_simp
      refine hK'.out _ _ ?_ (fun hHeld=>?_)
      ·exact hE5 _
      clear hK' K'
      try simp only [Act.put,zC,zD,zE]
      refine zL (i:=7) (o:={dst:=some 74,op:=.call {callee:=.builtin .append,args:=#[.tmp 71,.tmp 73],argTypes:=#[63,63]},type:=63,pos:= "law.go:132",after:=#[zG 4,zG 6],guard:=none}) (fun K' hK'=>?_)
      refine xK (d:=74) rfl zR6 (by decide) (by decide) (v:=(.slice aX LN.length cX)) (n:=LN.length) (m:=1) (xs:=uE LN) (news:=[.slice a j c,.slice aa (j+1) ca,.slice ab (j+2) cb,.slice ac (j+3) cc,.int .i64 m]) (B:=B) (ad:=⟨wd.heap.size,0,none⟩) (cap:=1) rfl (.tmp 71) (.tmp 73) rfl rfl rfl ((zY BK).fr ((Fr.refl _ _).alloc (.cells #[.slice a j c,.slice aa (j+1) ca,.slice ab (j+2) cb,.slice ac (j+3) cc,.int .i64 m] 111)).drew).bk.rN rfl (World.news_of_block (heap_alloc_new wd _)) (by simp [Value.oneCell']) (by omega) (by omega) (by simp;omega) ?_
      intro v3 w3 o3 f3 sh3
      obtain⟨av,cv,rfl⟩:=sh3
      have pr:w3.heap[bb]?=some (.cells #[.int .i64 (wrap64 (nf+1)),vIf,vE,.slice aX LN.length cX] 65):=by
       have hb2:=((zY BK).fr ((Fr.refl _ _).alloc (.cells #[.slice a j c,.slice aa (j+1) ca,.slice ab (j+2) cb,.slice ac (j+3) cc,.int .i64 m] 111)).drew)
       exact(f3.same bb (zN.1 hb2.bk.blk).1 (yP hb2.bk.rN hb2.bk.blk (by decide))).trans hb2.bk.blk
      have pc:=fun j=>cell_of_row w3 bb j _ 65 (0,0) pr
      have pz:=fun j=>yB pr j
      have gg:w3.heap[wr.heap.size]?=some (.cells #[.slice a j c,.slice aa (j+1) ca,.slice ab (j+2) cb,.slice ac (j+3) cc,.int .i64 m] 111 (0,0)):=(f3.same _ (zN.1 (hE5 _)).1 hXI).trans (hE5 (.cells #[.slice a j c,.slice aa (j+1) ca,.slice ab (j+2) cb,.slice ac (j+3) cc,.int .i64 m] 111))
      have O3:=zZ o3
      have F3:=zZ f3
      clear o3 f3 pr
      refine hK'.out _ _ gg (fun hHeld=>?_)
      clear hK' K'
      simp only [zC,zD,zE]
      refine zA (i:=8) (oi:={dst:=some 75,op:=.nilCheck (.tmp 67),type:=0,pos:= "law.go:132",after:=#[zG 0,zF 0,zF 1,zF 2,zF 3,zF 4,zF 5,zF 6,zF 7],guard:=none}) ?_
      simp only [Act.put,zC,zD,zE]
      refine zA (i:=9) (oi:={dst:=some 76,op:=.fieldAddr 65 (.tmp 75) 3,type:=0,pos:= "law.go:132",after:=#[zG 8,zF 0,zF 1,zF 2,zF 3,zF 4,zF 5,zF 6,zF 7],guard:=none}) ?_
      simp only [Act.put,zC,zD,zE]
      refine zL (i:=10) (o:={dst:=none,op:=.store 63 (.tmp 76) (.tmp 74),type:=0,pos:= "law.go:132",after:=#[zG 9,zG 7,zM 7,zF 0,zF 1,zF 2,zF 3,zF 4,zF 5,zF 6,zF 7],guard:=none}) (fun K' hK'=>?_)
      go_simp
      refine hK'.out _ _ ?_ (fun hHeld=>?_)
      ·exact(zQ _ _ _ _ hXb).trans gg
      clear hK' K'
      try simp only [Act.put,zC,zD,zE]
      refine wpAnyH_done (by kernel_rfl) ?_ _
      go_wp2
      go_end0
      exact⟨rfl,zY CLOSE _ (fin _ w3 (zY O3) (zY F3))⟩
theorem dF {w:World} {B bb:Nat} {n0:Int} {vI vE vN:Value} {LI LE LN:List Ent} {K:Nat->Prop} (h:vK w B bb n0 vI vE vN LI LE LN K) (hbb:B<=bb) (hBw0:B<=w.heap.size) {lv:Value} {ps:List (Inp×Value)} (hi:uI w B lv ps) (hk:∀q,inS lv ps q->¬K q) (hl:ps.length<=100000000) (hfl:∀p,p∈ps->p.1.2.2.2.length<=100) (hL:LI.length+ps.length<=900000000000) (hLN:LN.length<=900000000000) :
  Calls Tryz.prog 45 #[.pointer (some ⟨bb,0,none⟩),lv] w fun e w'=>e=.returned (.tuple #[])/\oI w w' B bb vE LI LE LN ps.length:=bE h hbb hBw0 rfl hi hk hl hfl hL hLN
theorem yP8 (l:List Nat) (x:Inp) (k:Nat) (h:rcL l=.inr (x,k)):2<=k:=by
 cases l with
 | nil=>simp [rcL] at h
 | cons n t=>
  simp only [rcL] at h
  split at h
  ·cases h
  split at h
  ·cases h
  split at h
  ·cases h
  split at h
  ·cases h
  split at h
  ·cases h
  ·injection h with h
   injection h with _ h
   omega
theorem zH6:∀(f:Nat) (l:List Nat) (a:Nat),2*(rdL f l a).1.length<=l.length
 | 0,l,a=>by simp [rdL]
 | f+1,l,a=>by
  simp only [rdL]
  cases h:rcL l with
  | inl w=>simp
  | inr q=>
   obtain⟨x,k⟩:=q
   have h1:=yP8 l x k h
   have h2:=iC l x k h
   simp only
   split
   ·simp;omega
   ·have ih:=zH6 f (l.drop k) (a+k)
    rw [List.length_drop] at ih
    simp only [List.length_cons]
    omega
theorem jH (l:List Nat):2*(yS l).1.length<=l.length:=by
 unfold yS
 split
 ·have h:=zH6 (l.length+1) (l.drop 3) 3
  rw [List.length_drop] at h
  omega
 ·split<;>simp
theorem oI.below {w w0 w':World} {B bb:Nat} {vE:Value} {LI LE LN:List Ent} {k:Nat} (h:oI w w' B bb vE LI LE LN k) (hb:Below B w0 w):oI w0 w' B bb vE LI LE LN k:=by
 obtain⟨n',vI',vN',LI',LN',K',h1,h2,h3,h4⟩:=h
 exact⟨n',vI',vN',LI',LN',K',h1,h2,h3,hb.trans h4⟩
theorem zO1 {w:World} {B bb:Nat} {n0:Int} {vI vE vN:Value} {LI LE LN:List Ent} {K:Nat->Prop} (h:vK w B bb n0 vI vE vN LI LE LN K) (hbb:B<=bb) (hBw:B<=w.heap.size) (y1 y2 y3 y4 y5 y6 y7 y9:Value) (lg:ByteArray) (hlg:lg.size<=1100000) (hL:LI.length+600000<=900000000000) (hLN:LN.length<=900000000000) :
  Calls Tryz.prog 23 #[.pointer (some ⟨bb,0,none⟩),.agg #[.int .i64 3,y1,y2,y3,y4,y5,y6,y7,.string lg,y9]] w fun e w'=>e=.returned (.bool true)/\∃k,2*k<=lg.size/\oI w w' B bb vE LI LE LN k:=by
 have hlen:=jH (bs lg)
 rw [vA] at hlen
 have HLEN:=zZ hlen
 clear hlen
 obtain⟨W0,hW⟩ : ∃W0,W0=w.alloc (.cells #[.int .i64 3,y1,y2,y3,y4,y5,y6,y7,.string lg,y9] 67):=⟨_,rfl⟩
 have f0:Fr (fun _=>False) w W0 (fun _=>False):=by subst hW;exact(Fr.refl _ _).alloc _
 have b0:W0.heap[w.heap.size]?=some (.cells #[.int .i64 3,y1,y2,y3,y4,y5,y6,y7,.string lg,y9] 67):=by subst hW;exact heap_alloc_new _ _
 have l0:=(zN.1 b0).1
 have H16:=zZ (yQ1 lg (by omega) W0)
 have H43:=zZ (iD dQ lg (by omega))
 have HH:=zZ h
 have F0:=zZ f0
 have B0:=zZ b0
 have HW:=zZ hW
 clear h f0 b0 hW
 go_enter Tryz.func23,Tryz.ntmps23
 go_wp2_with fail
 rw [<-zY HW]
 go_at_call 16
 refine(zY H16).mono ?_
 rintro e w1 ⟨a1,c1,ps1,rfl,hi,hp,f1⟩
 have x1:=(f1.same _ l0 (fun h=>h)).trans (zY B0)
 have k1:=fun j=>cell_of_row w1 w.heap.size j _ 67 (0,0) x1
 have X1:=zZ x1
 have HI:=zZ hi
 have HP:=zZ hp
 have F1:=zZ f1
 clear hi hp f1 H16 HW x1
 go_wp2_with fail
 go_at_call 43
 refine(zY H43 w1).mono ?_
 rintro e w2 ⟨a2,c2,ps2,rfl,hd,hp2,f2⟩
 have HI2:=(zY HI).fr f2
 have hpe:2*ps1.length<=lg.size:=by
  have h:=zY HLEN
  rw [<-zY HP,List.length_map] at h
  exact h
 have hfl:∀p,p∈ps1->p.1.2.2.2.length<=100:=fun p hp=>by
  refine zV7 ((rdV lg).2 p.1 ?_)
  show p.1∈(yS (bs lg)).1
  rw [<-zY HP]
  exact List.mem_map_of_mem hp
 have H44:=zZ (cC HI2 hd ((zY HP).trans hp2.symm) (by omega) hfl)
 have HI2:=zZ HI2
 have HFL:=zZ hfl
 have F2:=zZ f2
 clear hd hp2 f2 H43 HI k1 hfl
 go_wp2_with fail
 go_at_call 44
 refine(zY H44).mono ?_
 rintro e w3 ⟨rfl,f3⟩
 have f03:Fr (fun _=>False) w w3 (fun _=>False):=(zY F0).trans ((zY F1).trans ((zY F2).trans f3))
 have hi3:=(zY HI2).fr f3
 have H45:=zZ (dF ((zY HH).fr f03) hbb (Nat.le_trans hBw f03.size) (hi3.low (Nat.le_trans hBw (zY F0).size)) (fun q hq hk=>by
  have h1:=(hi3.lt hq).1
  have h2:=((zY HH).apart q hk).1
  have h3:=(zY F0).size
  omega) (by omega) (zY HFL) (by omega) hLN)
 have hbl:Below B w w3:=f03.below (fun k hk=>hk.elim) hBw
 have HBL:=zZ hbl
 clear f03 hi3 H44 hbl HI2 f3
 go_wp2_with fail
 go_at_call 45
 refine(zY H45).mono ?_
 rintro e w4 ⟨rfl,hk⟩
 have HKK:=zZ (hk.below (zY HBL))
 clear hk H45
 go_wp2
 go_ret
 exact⟨by simp,ps1.length,by omega,zY HKK⟩
structure oZ (w:World) (v:Value) (ps:List (Inp×Value)) (P:Nat->Prop):Prop where
 at_:∃a c,v=.slice a ps.length c/\ps.length<=c/\(ps=[]\/∃q off,a=some ⟨q,off,none⟩/\P q/\∀i y,ps[i]?=some y->
  w.cell? ⟨q,off+i*4,none⟩=some (.int .i64 (y.1.1:Nat))/\w.cell? ⟨q,off+i*4+1,none⟩=some (.int .i64 (y.1.2.1:Nat))/\w.cell? ⟨q,off+i*4+2,none⟩=some (.int .i64 (y.1.2.2.1:Nat))/\w.cell? ⟨q,off+i*4+3,none⟩=some y.2)
 fl:∀y,y∈ps->yJ w y.2 (zs y.1.2.2.2) P
theorem oZ.keep {w w':World} {v:Value} {ps:List (Inp×Value)} {P:Nat->Prop} (h:oZ w v ps P) (hk:∀q,P q->w'.heap[q]?=w.heap[q]?):oZ w' v ps P:=by
 obtain⟨⟨a,c,hv,hc,hl⟩,hf⟩:=h
 refine⟨⟨a,c,hv,hc,hl.imp id ?_⟩,fun y hy=>yQ (hf y hy) hk (fun _ h=>h)⟩
 rintro ⟨q,off,ha,hq,hcc⟩
 exact⟨q,off,ha,hq,fun i y hy=>⟨(zO (w:=w) (a:=⟨q,_,none⟩) (hk q hq)).trans (hcc i y hy).1,(zO (w:=w) (a:=⟨q,_,none⟩) (hk q hq)).trans (hcc i y hy).2.1,
  (zO (w:=w) (a:=⟨q,_,none⟩) (hk q hq)).trans (hcc i y hy).2.2.1,(zO (w:=w) (a:=⟨q,_,none⟩) (hk q hq)).trans (hcc i y hy).2.2.2⟩⟩
theorem oZ.cons {w:World} {v:Value} {y:Inp×Value} {r:List (Inp×Value)} {P:Nat->Prop} (h:oZ w v (y::r) P):∃q off c,v=.slice (some ⟨q,off,none⟩) (r.length+1) c/\r.length+1<=c/\P q/\
  (w.cell? ⟨q,off,none⟩=some (.int .i64 (y.1.1:Nat))/\w.cell? ⟨q,off+1,none⟩=some (.int .i64 (y.1.2.1:Nat))/\w.cell? ⟨q,off+2,none⟩=some (.int .i64 (y.1.2.2.1:Nat))/\w.cell? ⟨q,off+3,none⟩=some y.2)/\yJ w y.2 (zs y.1.2.2.2) P/\
  oZ w (.slice (if c=1 then some ⟨q,off,none⟩ else some ⟨q,off+4,none⟩) r.length (c-1)) r P:=by
 obtain⟨⟨a,c,hv,hc,hl⟩,hf⟩:=h
 rcases hl with h0 | ⟨q,off,rfl,hq,hcc⟩
 ·cases h0
 simp only [List.length_cons] at hv hc
 have h0:=hcc 0 y rfl
 rw [Nat.zero_mul,Nat.add_zero] at h0
 refine⟨q,off,c,hv,hc,hq,h0,hf y (by simp),⟨_,c-1,rfl,by omega,?_⟩,fun z hz=>hf z (List.mem_cons_of_mem _ hz)⟩
 by_cases h1:c=1
 ·left
  exact List.eq_nil_of_length_eq_zero (by omega)
 ·right
  refine⟨q,off+4,by rw [if_neg h1],hq,fun i z hz=>?_⟩
  have:=hcc (i+1) z hz
  rw [show off+(i+1)*4=off+4+i*4 by omega] at this
  exact this
theorem oX.inps {w:World} {B:Nat} {v:Value} {ps:List (Inp×Value)} (h:oX w B v ps):oZ w v ps (fun q=>q<w.heap.size):=by
 refine⟨?_,fun y hy=>yQ (h.fl y hy) (fun _ _=>rfl) (fun _ hq=>hq.2.1)⟩
 rcases h.row.2 with ⟨hv,h0⟩ | ⟨g,cap,cur,hv,hB,hg,h1,h2,h3,h4⟩
 ·exact⟨none,0,by rw [hv,h0],by omega,.inl (List.eq_nil_of_length_eq_zero h0)⟩
 ·refine⟨_,cap,hv,h1,?_⟩
  by_cases h0:ps.length=0
  ·exact .inl (List.eq_nil_of_length_eq_zero h0)
  right
  refine⟨g,0,rfl,(zN.1 hg).1,fun i y hy=>?_⟩
  have hi:i<ps.length:=(List.getElem?_eq_some_iff.1 hy).1
  obtain⟨g',c',x,fv,e1,_,e2,k0,k1,k2,k3,_⟩:=h.cells hi
  rw [hy] at e2
  obtain rfl:y=(x,fv):=Option.some.inj e2
  rw [hv] at e1
  injection e1 with e1
  injection e1 with e1
  injection e1 with e1
  subst e1
  rw [Nat.zero_add]
  exact⟨k0,k1,k2,k3⟩
def xW (y:VL) (k o:Int):Rep×VL:=(uB y.1 k o,if (uB y.1 k o).e=0 then y.tail else y)
theorem dV:uP xW (fun y=>y.1.length):=by
 have h:=iX
 refine⟨fun y k o=>?_,fun y he=>?_,h.clock,h.pick,h.files,h.most⟩
 ·show (if (uB y.1 k o).e=0 then y.tail else y).1.length<=y.1.length
  split
  ·exact h.le y k o
  ·exact Nat.le_refl _
 ·show (if (uB y.1 1 0).e=0 then y.tail else y).1.length<y.1.length
  have he':(uB y.1 1 0).e=0:=he
  rw [if_pos he']
  exact h.lt y he
theorem zO9 (may:Int->Int->Prop):oH xW lL may (fun _=>True) (fun _ x y=>x=y) (fun e _ _ _=>e=5\/e=6) (fun _ _=>False):=by
 refine⟨fun _ _ _ _=>trivial,fun h x y k o _ hxy _=>?_,fun _ _ _ hp _ _=>hp.elim⟩
 subst hxy
 refine .inl ⟨rfl,fun he=>?_,fun he=>?_⟩
 ·have he':(uB x.1 k o).e=0:=he
  show (if (uB x.1 k o).e=0 then x.tail else x)=x.tail
  rw [if_pos he']
 ·rcases iF x.1 k o with h0 | h0 | h0
  ·exact absurd h0 he
  ·left;show (uB x.1 k o).e=5;rw [h0];rfl
  ·right;show (uB x.1 k o).e=6;rw [h0];rfl
theorem yJ4 {p:Pg} (ok:sM p) (f:Int) (y:VL):(tG xW p (y.1.length+1) f y).1=(iE p f y).1/\oR (iE p f y).1.fin (tG xW p (y.1.length+1) f y).2.1=oR (iE p f y).1.fin (iE p f y).2.1:=by
 have h:=zI2 (zO9 zB1) kC dV.most ok (y.1.length+1) f (x:=y) (y:=y) rfl trivial
 rcases h with ⟨e,q⟩ | ⟨_,h⟩
 ·refine⟨e,?_⟩
  rcases q with q | ⟨_,q⟩
  ·show oR _ (tG xW p (y.1.length+1) f y).2.1=oR _ (tG lL p (y.1.length+1) f y).2.1
   rw [q]
  ·rw [e] at q
   change (iE p f y).1.fin=5\/(iE p f y).1.fin=6 at q
   unfold oR
   rw [if_pos q,if_pos q]
 ·exact h.elim
structure SQP (B:Nat) (pv:Nat->Value) (T:Nat->Prop) (w:World) (y:VL):Prop where
 rep:pv 7=.bool true
 ins:∃ps,oZ w (pv 8) ps (fun q=>q<B)/\ps.map (·.1)=y.1
 hd:∃H:List (Inp×Value),w.ownsRow B 49 4 (pv 9) H.length (xS H)/\(∀q,own (pv 9) q->T q)/\H.length+y.1.length<=20000000
theorem SQP.law (B:Nat):rK (SQP B) B:=⟨fun h hk hb _=>
 ⟨h.rep,by obtain⟨ps,h1,h2⟩:=h.ins;exact⟨ps,h1.keep hb,h2⟩,by
  obtain⟨H,h1,h2,h3⟩:=h.hd
  exact⟨H,yA h1 (fun q hq=>hk q (h2 q hq)),h2,h3⟩⟩⟩
section
variable {B:Nat} {S T:Nat->Prop} {w:World} {b:Nat} {pv:Nat->Value} {vt va:Value} {s:PS} {A:List AT} {tn sq:Int} {y:VL}
theorem zW6 (h:LQ (SQP B) B S w b pv vt va T s A tn sq y) (k o:Int) (he:y.1=[]\/∃x r,y.1=x::r/\x.1=5/\x.2.2.1=5) :
  Calls Tryz.prog 141 #[.pointer (some ⟨b,0,none⟩),.int .i64 k,.int .i64 o] w fun e w'=>e=.returned (.agg #[.int .i64 0,.int .i64 0,.int .i64 0,.slice none 0 0])/\rX (SQP B) B S w b pv vt va A tn sq {s with fin:=5} y w':=by
 have hb:=h.blt
 have k7:=(h.cell 7 (by omega)).trans (by rw [xB _ _ _ _ _ _ (by omega),h.src.rep])
 have k8:=(h.cell 8 (by omega)).trans (by rw [xB _ _ _ _ _ _ (by omega)])
 have c27:=h.cell 27 (by omega)
 have z27:=h.free 27 (by omega)
 generalize xU pv vt va s tn 27=o27 at c27
 obtain⟨ps,hin,hps⟩:=h.src.ins
 have hB6:=h.below
 have hfin:rX (SQP B) B S w b pv vt va A tn sq {s with fin:=5} y (((w.setCell ⟨b,27,none⟩ (.int .i64 5)).alloc (.cells #[.int .i64 0,.int .i64 0,.int .i64 0,.slice none 0 0] 49)).alloc (.cells #[.int .i64 0,.int .i64 0,.int .i64 0,.slice none 0 0] 49)):=by
  refine⟨S,pv,T,?_,fun _ _=>rfl,?_⟩
  ·exact((h.set (SQP.law B) 27 (.int .i64 5) {s with fin:=5} (by omega) (qM 5) rfl (h.rel.of rfl rfl) rfl).alloc (SQP.law B) _).alloc (SQP.law B) _
  ·exact(((Fr.refl S w).setCell ⟨b,27,none⟩ _ (.inl h.inB)).alloc _).alloc _
 have HFIN:=zZ hfin
 clear hfin h
 rcases he with he | ⟨x,r,he,h5,hn5⟩
 ·obtain rfl:ps=[]:=by rw [he] at hps;exact List.map_eq_nil_iff.1 hps
  obtain⟨⟨a,c,hv,_⟩,_⟩:=hin
  rw [hv] at k8
  clear hv he hps
  go_enter Tryz.func141,Tryz.ntmps141
  go_wp2
  exact bodyPost_ret (v:=.agg #[.int .i64 0,.int .i64 0,.int .i64 0,.slice none 0 0]) (by simp [results,Tryz.results141,go_sem]) rfl ⟨rfl,zY HFIN⟩
 ·obtain⟨⟨i,fv⟩,rs,rfl⟩ : ∃y rs,ps=y::rs:=by
   cases ps with
   | nil=>rw [he] at hps;cases hps
   | cons y rs=>exact⟨y,rs,rfl⟩
  rw [he] at hps
  obtain rfl:i=x:=(List.cons.inj hps).1
  obtain⟨q,off,c,hv,hc,hq,⟨q0,_,q2,_⟩,_,_⟩:=hin.cons
  rw [hv] at k8
  have g0:w.cell? ⟨q,off,none⟩=some (.int .i64 5):=by rw [q0,h5];rfl
  have g2:w.cell? ⟨q,off+2,none⟩=some (.int .i64 5):=by rw [q2,hn5];rfl
  have hqw:q<w.heap.size:=by omega
  obtain⟨m,hm⟩ : ∃m,m=rs.length:=⟨_,rfl⟩
  rw [<-hm] at k8
  clear hv he hps hin q0 q2 hm hc h5 hn5
  go_enter Tryz.func141,Tryz.ntmps141
  go_wp2
  exact bodyPost_ret (v:=.agg #[.int .i64 0,.int .i64 0,.int .i64 0,.slice none 0 0]) (by simp [results,Tryz.results141,go_sem]) rfl ⟨rfl,zY HFIN⟩
end
section
variable {B:Nat} {S T:Nat->Prop} {w:World} {b:Nat} {pv:Nat->Value} {vt va:Value} {s:PS} {A:List AT} {tn sq:Int} {y:VL}
theorem zW5 (h:LQ (SQP B) B S w b pv vt va T s A tn sq y) (k o:Int) {x:Inp} {r:List Inp} (he:y.1=x::r) (h5:¬(x.1=5/\x.2.2.1=5)) (hk5:k≠5) (hd:(x.1:Int)≠k\/(x.2.1:Int)≠o) :
  Calls Tryz.prog 141 #[.pointer (some ⟨b,0,none⟩),.int .i64 k,.int .i64 o] w fun e w'=>e=.returned (.agg #[.int .i64 0,.int .i64 0,.int .i64 0,.slice none 0 0])/\rX (SQP B) B S w b pv vt va A tn sq {s with fin:=6} y w':=by
 have hb:=h.blt
 have k7:=(h.cell 7 (by omega)).trans (by rw [xB _ _ _ _ _ _ (by omega),h.src.rep])
 have k8:=(h.cell 8 (by omega)).trans (by rw [xB _ _ _ _ _ _ (by omega)])
 have c27:=h.cell 27 (by omega)
 have z27:=h.free 27 (by omega)
 generalize xU pv vt va s tn 27=o27 at c27
 obtain⟨ps,hin,hps⟩:=h.src.ins
 obtain⟨⟨i,fv⟩,rs,rfl⟩ : ∃y rs,ps=y::rs:=by
  cases ps with
  | nil=>rw [he] at hps;cases hps
  | cons y rs=>exact⟨y,rs,rfl⟩
 rw [he] at hps
 obtain rfl:i=x:=(List.cons.inj hps).1
 obtain⟨q,off,c,hv,hc,hq,⟨g0,g1,g2,g3⟩,hfi,_⟩:=hin.cons
 rw [hv] at k8
 obtain⟨fa,fc,hfe,_⟩:=hfi
 dsimp only at g0 g1 g2 g3 hfe
 rw [hfe] at g3
 obtain⟨kx,hkx⟩ : ∃kx:Int,kx=(i.1:Nat):=⟨_,rfl⟩
 obtain⟨ox,hox⟩ : ∃ox:Int,ox=(i.2.1:Nat):=⟨_,rfl⟩
 obtain⟨nx,hnx⟩ : ∃nx:Int,nx=(i.2.2.1:Nat):=⟨_,rfl⟩
 obtain⟨fn,hfn⟩ : ∃fn:Nat,fn=(zs i.2.2.2).length:=⟨_,rfl⟩
 obtain⟨m,hm⟩ : ∃m,m=rs.length:=⟨_,rfl⟩
 rw [<-hm] at k8
 rw [<-hkx] at g0 hd
 rw [<-hox] at g1 hd
 rw [<-hnx] at g2
 rw [<-hfn] at g3
 have hc5:(kx=5/\¬nx=5)\/¬kx=5:=by omega
 have hB6:=h.below
 have hqw:q<w.heap.size:=by omega
 have hqb:¬q=b:=by have:=(h.bound b h.inB).1;omega
 have hfin:rX (SQP B) B S w b pv vt va A tn sq {s with fin:=6} y (((w.setCell ⟨b,27,none⟩ (.int .i64 6)).alloc (.cells #[.int .i64 0,.int .i64 0,.int .i64 0,.slice none 0 0] 49)).alloc (.cells #[.int .i64 kx,.int .i64 ox,.int .i64 nx,.slice fa fn fc] 49)):=by
  refine⟨S,pv,T,?_,fun _ _=>rfl,?_⟩
  ·exact((h.set (SQP.law B) 27 (.int .i64 6) {s with fin:=6} (by omega) (qM 6) rfl (h.rel.of rfl rfl) rfl).alloc (SQP.law B) _).alloc (SQP.law B) _
  ·exact(((Fr.refl S w).setCell ⟨b,27,none⟩ _ (.inl h.inB)).alloc _).alloc _
 have HFIN:=zZ hfin
 clear hfin h hv he hps hin h5 hkx hox hnx hfn hfe hm hc
 rcases hc5 with ⟨rfl,hn5⟩ | h5
 ·have hdk:¬(5:Int)=k:=fun e=>hk5 e.symm
  have hnb:(nx==5)=false:=by simpa using hn5
  clear hd hk5
  go_enter Tryz.func141,Tryz.ntmps141
  go_wp2
  exact bodyPost_ret (v:=.agg #[.int .i64 0,.int .i64 0,.int .i64 0,.slice none 0 0]) (by simp [results,Tryz.results141,go_sem]) rfl ⟨rfl,zY HFIN⟩
 ·by_cases hdk:kx=k
  ·have hdo:¬ox=o:=by omega
   clear hd
   subst hdk
   go_enter Tryz.func141,Tryz.ntmps141
   go_wp2
   exact bodyPost_ret (v:=.agg #[.int .i64 0,.int .i64 0,.int .i64 0,.slice none 0 0]) (by simp [results,Tryz.results141,go_sem]) rfl ⟨rfl,zY HFIN⟩
  ·clear hd
   go_enter Tryz.func141,Tryz.ntmps141
   go_wp2
   exact bodyPost_ret (v:=.agg #[.int .i64 0,.int .i64 0,.int .i64 0,.slice none 0 0]) (by simp [results,Tryz.results141,go_sem]) rfl ⟨rfl,zY HFIN⟩
end
section
variable {B:Nat} {S T:Nat->Prop} {w:World} {b:Nat} {pv:Nat->Value} {vt va:Value} {s:PS} {A:List AT} {tn sq:Int} {y:VL}
theorem lY {W4 w5:World} {ob:Obj} {v8 v9 fv vh:Value} {H:List (Inp×Value)} {i:Inp} {ps:List (Inp×Value)} {y':VL} (h:LQ (SQP B) B S w b pv vt va T s A tn sq y) (hin:oZ w v8 ps (fun q=>q<B)) (hps:ps.map (·.1)=y'.1) (hleft:y'.1.length+1=y.1.length)
  (hrow:w.ownsRow B 49 4 vh H.length (xS H)) (hown:∀q,own vh q->T q) (hcnt:H.length+y.1.length<=20000000) (hnh:(H.length:Int)=s.heard) (hfl:yJ w fv (zs i.2.2.2) (fun q=>q<B))
  (c4:LAt W4 b (yV (xU pv vt va s tn) 8 v8)) (f04:Fr (fun q=>q=b) w W4 (fun q=>q=b)) (hz4:w.heap.size+2<=W4.heap.size) (o5:w5.ownsRow B 49 4 v9 (H.length+1) (xS H++[.int .i64 (i.1:Nat),.int .i64 (i.2.1:Nat),.int .i64 (i.2.2.1:Nat),fv])) (hv9:∃a c,v9=.slice a (H.length+1) c) (f5:Fr (own vh) (W4.alloc ob).drew w5 (own v9)) (u0 u1 u2 u3:Value) :
  rX (SQP B) B S w b pv vt va A tn sq {s with heard:=wrap64 (s.heard+1)} y' (((((w5.setCell ⟨b,9,none⟩ v9).setCell ⟨w.heap.size,0,none⟩ u0).setCell ⟨w.heap.size,1,none⟩ u1).setCell ⟨w.heap.size,2,none⟩ u2).setCell ⟨w.heap.size,3,none⟩ u3)/\yJ (((((w5.setCell ⟨b,9,none⟩ v9).setCell ⟨w.heap.size,0,none⟩ u0).setCell ⟨w.heap.size,1,none⟩ u1).setCell ⟨w.heap.size,2,none⟩ u2).setCell ⟨w.heap.size,3,none⟩ u3) fv (zs i.2.2.2) (fun q=>q<(((((w5.setCell ⟨b,9,none⟩ v9).setCell ⟨w.heap.size,0,none⟩ u0).setCell ⟨w.heap.size,1,none⟩ u1).setCell ⟨w.heap.size,2,none⟩ u2).setCell ⟨w.heap.size,3,none⟩ u3).heap.size):=by
 have hb:=h.blt
 have hBw:=h.below
 have hbB:=(h.bound b h.inB).1
 have hbT:¬T b:=fun e=>(h.inT b e).2 rfl
 have hTl:∀q,T q->B<=q/\q<w.heap.size:=fun q hq=>h.bound q (h.inT q hq).1
 generalize hW:(((((w5.setCell ⟨b,9,none⟩ v9).setCell ⟨w.heap.size,0,none⟩ u0).setCell ⟨w.heap.size,1,none⟩ u1).setCell ⟨w.heap.size,2,none⟩ u2).setCell ⟨w.heap.size,3,none⟩ u3)=W
 have hWz:W.heap.size=w5.heap.size:=by subst hW;simp [World.setCell]
 have hz4a:(W4.alloc ob).drew.heap.size=W4.heap.size+1:=by show (W4.alloc ob).heap.size=_;simp
 have hz5:W4.heap.size+1<=w5.heap.size:=by have h1:=f5.size;omega
 have keep5:∀q,q≠b->q≠w.heap.size->W.heap[q]?=w5.heap[q]?:=fun q h1 h2=>by
  subst hW
  exact(zQ _ _ _ _ h2).trans ((zQ _ _ _ _ h2).trans ((zQ _ _ _ _ h2).trans ((zQ _ _ _ _ h2).trans (zQ _ _ _ _ h1))))
 have keep45:∀q,q<W4.heap.size->¬own vh q->w5.heap[q]?=W4.heap[q]?:=fun q h1 h2=>(f5.same q (by show q<(W4.alloc ob).heap.size;simp;omega) h2).trans (zR W4 ob q h1)
 have keepw:∀q,q<w.heap.size->q≠b->¬own vh q->W.heap[q]?=w.heap[q]?:=fun q h1 h2 h3=>(keep5 q h2 (by omega)).trans ((keep45 q (by omega) h3).trans (f04.same q h1 h2))
 have hvb:¬own vh b:=fun e=>hbT (hown b e)
 have hvl:∀q,own vh q->q<w.heap.size:=fun q e=>(zS hrow q e).2
 have hv9o:∀q,own v9 q->own vh q\/W4.heap.size<=q:=fun q hq=>by
  by_cases hl:q<W4.heap.size
  ·exact .inl (f5.old q (by show q<(W4.alloc ob).heap.size;simp;omega) hq)
  ·exact .inr (by omega)
 have hcells:LAt W b (xU (yV (yV pv 8 v8) 9 v9) vt va {s with heard:=wrap64 (s.heard+1)} tn):=by
  have e5:LAt w5 b (yV (xU pv vt va s tn) 8 v8):=c4.block (keep45 b (by omega) hvb)
  have e6:=e5.set 9 v9 (by omega)
  have e7:LAt W b (yV (yV (xU pv vt va s tn) 8 v8) 9 v9):=by
   subst hW
   exact(((e6.other (show ¬b=w.heap.size by omega)).other (show ¬b=w.heap.size by omega)).other (show ¬b=w.heap.size by omega)).other (show ¬b=w.heap.size by omega)
  refine e7.congr (fun k _=>?_)
  rw [mH (by omega)]
  unfold yV
  by_cases e9:k=9
  ·rw [if_pos e9,if_pos e9]
  ·rw [if_neg e9,if_neg e9]
   have:=mH (pv:=pv) (vt:=vt) (va:=va) (s:={s with heard:=wrap64 (s.heard+1)}) (tn:=tn) (j:=8) (v:=v8) (by omega) k
   unfold yV at this
   rw [this]
   rfl
 have hrow':W.ownsRow B 49 4 v9 (H++[(i,fv)]).length (xS (H++[(i,fv)])):=by
  rw [List.length_append,qZ]
  refine yA o5 (fun q hq=>keep5 q (fun e=>?_) (fun e=>?_))
  ·rcases hv9o q hq with h1 | h1
   ·exact hvb (e▸h1)
   ·omega
  ·rcases hv9o q hq with h1 | h1
   ·have:=hvl q h1;omega
   ·omega
 have hT':∀q,(own v9 q\/(T q/\¬own vh q))->q<W.heap.size/\q≠b:=fun q hq=>by
  rw [hWz]
  rcases hq with h1 | ⟨h1,_⟩
  ·refine⟨(zS o5 q h1).2,fun e=>?_⟩
   rcases hv9o q h1 with h2 | h2
   ·exact hvb (e▸h2)
   ·omega
  ·have:=hTl q h1
   exact⟨by omega,fun e=>hbT (e▸h1)⟩
 have hf:Fr (fun q=>q=b\/T q) w W (fun q=>q=b\/(own v9 q\/(T q/\¬own vh q))):=by
  have g1:W.os=w.os/\W.tape=w.tape/\W.output=w.output:=by
   have g0:=(((((Fr.refl (fun _=>True) w5).setCell ⟨b,9,none⟩ v9 (.inl trivial)).setCell ⟨w.heap.size,0,none⟩ u0 (.inl trivial)).setCell ⟨w.heap.size,1,none⟩ u1 (.inl trivial)).setCell ⟨w.heap.size,2,none⟩ u2 (.inl trivial)).setCell ⟨w.heap.size,3,none⟩ u3 (.inl trivial)
   rw [hW] at g0
   exact⟨g0.os.trans (f5.os.trans f04.os),g0.tape.trans (f5.tape.trans f04.tape),g0.output.trans (f5.output.trans f04.output)⟩
  refine⟨g1.1,g1.2.1,g1.2.2,by rw [hWz];omega,fun k hk hn=>keepw k hk (fun e=>hn (.inl e)) (fun e=>hn (.inr (hown k e))),fun k hk hq=>?_⟩
  rcases hq with h1 | h1 | ⟨h1,_⟩
  ·exact .inl h1
  ·rcases hv9o k h1 with h2 | h2
   ·exact .inr (hown k h2)
   ·omega
  ·exact .inr h1
 have hbelow:∀q,q<B->W.heap[q]?=w.heap[q]?:=fun q hq=>keepw q (by omega) (by omega) (fun e=>by have:=(zS hrow q e).1;omega)
 have hpv:∀k,k≠9->yV (yV pv 8 v8) 9 v9 k=yV pv 8 v8 k:=fun k hk=>by show (if k=9 then v9 else yV pv 8 v8 k)=_;rw [if_neg hk]
 have h9:yV (yV pv 8 v8) 9 v9 9=v9:=by show (if 9=9 then v9 else yV pv 8 v8 9)=v9;rw [if_pos rfl]
 have h8:yV (yV pv 8 v8) 9 v9 8=v8:=by rw [hpv 8 (by omega)];show (if 8=8 then v8 else pv 8)=v8;rw [if_pos rfl]
 have hsrc:SQP B (yV (yV pv 8 v8) 9 v9) (fun q=>own v9 q\/(T q/\¬own vh q)) W y':=by
  refine⟨?_,⟨ps,by rw [h8];exact hin.keep hbelow,hps⟩,H++[(i,fv)],?_,?_,?_⟩
  ·rw [hpv 7 (by omega)]
   show (if 7=8 then v8 else pv 7)=_
   rw [if_neg (by omega)]
   exact h.src.rep
  ·rw [h9];exact hrow'
  ·rw [h9];exact fun q hq=>.inl hq
  ·rw [List.length_append];simp only [List.length_cons,List.length_nil];omega
 obtain⟨a9,c9,e9⟩:=hv9
 have hreb:=h.rebuild (s':={s with heard:=wrap64 (s.heard+1)}) hf hcells hsrc hT' rfl (h.rel.of rfl rfl) ⟨a9,H.length+1,c9,by rw [h9];exact e9,by show _=wrap64 (s.heard+1);rw [<-hnh];unfold wrap64;omega⟩
 refine⟨⟨_,_,_,hreb.1,fun k hk=>?_,hreb.2⟩,?_⟩
 ·rw [hpv k (by omega)]
  show (if k=8 then v8 else pv k)=_
  rw [if_neg (by omega)]
 ·exact yQ hfl hbelow (fun q hq=>by rw [hWz];omega)
end
