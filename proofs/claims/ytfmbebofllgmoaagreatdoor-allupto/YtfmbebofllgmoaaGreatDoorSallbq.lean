/-
  PROVED HERE: the document's reader: bodies of batches. the do
-/
import Derived.Test.YtfmbebofllgmoaaGreatDoorSallaz
set_option maxHeartbeats 4000000
set_option maxRecDepth 20000
namespace Go.Proofs.YtfmbebofllgmoaaGreatDoor
open Go.RowKit
attribute [local go_sem ↓] Go.wp_at_zero Go.wp_at_succ
theorem zY4 (s:ByteArray) (hs:s.size<=100) (w:World) (h0:0<s.size) (hkk:yI s 0=2):Calls Tryz.prog 77 #[.string s] w (qQ s w):=by
 obtain⟨t0,t1⟩:=rJ w.heap (.cells #[.int .i64 0,.int .i64 0,.int .i64 0,.slice none 0 0] 49) (.cells #[.int .i64 0,.int .i64 0,.int .i64 0,.slice none 0 0] 49)
 change ((w.alloc _).alloc _).heap[_]?=_ at t0 t1
 have hfw:Fr (fun _=>False) w ((w.alloc (.cells #[.int .i64 0,.int .i64 0,.int .i64 0,.slice none 0 0] 49)).alloc (.cells #[.int .i64 0,.int .i64 0,.int .i64 0,.slice none 0 0] 49)) (fun _=>False):=((Fr.refl _ _).alloc _).alloc _
 have HFW:=zZ hfw
 ·obtain⟨r,hbs,hrl⟩:=qW h0
  obtain⟨W,hW⟩ : ∃W,((w.alloc (.cells #[.int .i64 0,.int .i64 0,.int .i64 0,.slice none 0 0] 49)).alloc (.cells #[.int .i64 0,.int .i64 0,.int .i64 0,.slice none 0 0] 49))=W:=⟨_,rfl⟩
  have hb1:bs (s.extract 1 s.size)=r:=by rw [uT,hbs];rfl
  have hsz1:(s.extract 1 s.size).size=r.length:=by rw [<-vA,hb1]
  have hnd:rW (s.extract 1 s.size)=pC r.length r:=by unfold rW;rw [hb1,hsz1]
  have h111:=rH (s.extract 1 s.size) (by omega) W
  have hbyte:=xH s 0 h0
  have hblt:=tV s 0
  obtain⟨k,hk⟩ : ∃k,yI s 0=k:=⟨_,rfl⟩
  rw [hk] at hbs hbyte hblt hkk
  have HKK:=zZ hkk
  clear hkk
  rw [hW] at t0 t1 HFW
  have H111:=zZ h111
  have HW:=zZ hW
  have T0:=zZ t0
  have T1:=zZ t1
  have HBS:=zZ hbs
  have HND:=zZ hnd
  have hi1:(1:Int)<=(s.size:Int):=by omega
  have hne:=qI h0
  clear h111 hW t0 t1 hbs hnd hb1 hsz1 hrl
  go_enter Tryz.func77,Tryz.ntmps77
  go_wp2_with fail
  rw [zY HW]
  go_at_call 111
  refine(zY H111).mono ?_
  rintro e w1 ⟨f1,hm⟩
  rw [zY HND] at hm
  have hf1:=(zY HFW).trans f1
  have x0:=(f1.same _ (zN.1 (zY T0)).1 (fun h=>h)).trans (zY T0)
  have x1:=(f1.same _ (zN.1 (zY T1)).1 (fun h=>h)).trans (zY T1)
  have hz1:w.heap.size+1<w1.heap.size:=(zN.1 x1).1
  have c0:=fun j=>cell_of_row w1 _ j _ 49 (0,0) x0
  have c1:=fun j=>cell_of_row w1 _ j _ 49 (0,0) x1
  have z0:=fun j=>yB x0 j
  have z1:=fun j=>yB x1 j
  have HF1:=zZ hf1
  have X0:=zZ x0
  have X1:=zZ x1
  have HWW:=zZ f1.size
  have HWZ:=zZ (show W.heap.size=w.heap.size+2 by rw [<-zY HW];simp)
  clear f1 hf1 x0 x1 HFW T0 T1 H111
  cases hns:pC r.length r with
  | none=>
   rw [hns] at hm
   have hm':e=.returned (.tuple #[.slice none 0 0,.bool false]):=hm
   subst hm'
   have hip:=zZ (qC (zY HBS) hns)
   clear hm hns
   go_wp2
   refine bodyPost_ret (v:=.tuple #[.agg #[.int .i64 0,.int .i64 0,.int .i64 0,.slice none 0 0],.bool false]) (by simp [results,Tryz.results77,go_sem,c0]) rfl ?_
   refine yZ (zY hip) ?_
   repeat (first | exact zY HF1 | refine Fr.setCell ?_ _ _ (.inr (Nat.le_refl _)))
  | some ns=>
   rw [hns] at hm
   obtain⟨hnl,v,he,ho⟩:=hm
   have hnl:ns.length<=200:=by
     have h:(s.extract 1 s.size).size<=s.size:=by simp [ByteArray.size_extract]
     omega
   subst he
   obtain⟨va,vc,rfl⟩:=xP ho
   rw [xM]
   rw [xM] at ho
   cases ns with
   | nil=>
    have hip:=zZ (xN (zY HBS) hns rfl)
    clear hns ho hnl
    go_wp2
    refine bodyPost_ret (v:=.tuple #[.agg #[.int .i64 0,.int .i64 0,.int .i64 0,.slice none 0 0],.bool false]) (by simp [results,Tryz.results77,go_sem,c0]) rfl ?_
    refine yZ (zY hip) ?_
    repeat (first | exact zY HF1 | refine Fr.setCell ?_ _ _ (.inr (Nat.le_refl _)))
   | cons a t=>
    obtain⟨g,cap,cur,hv,hg1,hg2,hg3,hg4,hg5,hg6⟩:=xJ ho (by simp [zs])
    injection hv with hv1 hv2 hv3
    subst hv1 hv3
    have hgz:g<w1.heap.size:=(zN.1 hg2).1
    have hg1':w.heap.size+1<g:=by have:=zY HWZ;omega
    have l0:w1.cell? ⟨g,0,none⟩=some (.int .i64 (a:Nat)):=by have:=hg6 0 (by simp [zs]);simpa [zs] using this
    have HG6:=zZ hg6
    have HNS:=zZ hns
    have hlen:(a::t).length=t.length+1:=rfl
    rw [hlen]
    have htl:t.length<=200:=by
      have:(a::t).length<=200:=by omega
      simpa using Nat.le_of_succ_le this
    have ht0:(0:Int)<(t.length:Int)+1:=by omega
    have hkc:((s[0]'h0).toNat:Int)=(k:Int):=by rw [hbyte]
    clear hg6 hg5 hg4 hg2 hns ho hv2 hlen hbyte
    have y1:=yD w1 (w.heap.size+1) 0 _ 49 (.int .i64 (k:Int)) (zY X1)
    have y0:(w1.setCell ⟨w.heap.size+1,0,none⟩ (.int .i64 (k:Int))).heap[w.heap.size]?=_:=(zQ w1 ⟨w.heap.size+1,0,none⟩ (.int .i64 (k:Int)) w.heap.size (by simp)).trans (zY X0)
    have yl:(w1.setCell ⟨w.heap.size+1,0,none⟩ (.int .i64 (k:Int))).heap[g]?=w1.heap[g]?:=zQ w1 ⟨w.heap.size+1,0,none⟩ (.int .i64 (k:Int)) g (by simp;omega)
    have hfy:=(zY HF1).setCell ⟨w.heap.size+1,0,none⟩ (.int .i64 (k:Int)) (.inr (by simp))
    have hyz:(w1.setCell ⟨w.heap.size+1,0,none⟩ (.int .i64 (k:Int))).heap.size=w1.heap.size:=by simp [World.setCell]
    go_upto_region 9 with fail
    generalize hw2:w1.setCell ⟨w.heap.size+1,0,none⟩ (.int .i64 (k:Int))=w2 at *
    have lc:∀j,j<t.length+1->w2.cell? ⟨g,j,none⟩=some (.int .i64 ((a::t).getD j 0:Nat)):=fun j hj=>by
     rw [yW yl]
     have h:=zY HG6 j (by rw [xM];exact hj)
     rw [h,mM]
    have c0:=fun j=>cell_of_row w2 _ j _ 49 (0,0) y0
    have c1:=fun j=>cell_of_row w2 _ j _ 49 (0,0) y1
    have z1:=fun j=>yB y1 j
    have z0:=fun j=>yB y0 j
    have l0:=lc 0 (by omega)
    have LC:=zZ lc
    have Y0:=zZ y0
    have Y1:=zZ y1
    have HFY:=zZ hfy
    have hz2:w.heap.size+1<w2.heap.size:=by omega
    have hg2:g<w2.heap.size:=by omega
    clear y0 y1 yl hfy hyz hw2 lc X0 X1 HF1 HG6 hz1 hgz hg1 HWW
    have hkk:=zY HKK
    subst hkk
    have hcap:t.length+1<=vc:=by rw [xM] at hg3;exact hg3
    by_cases hv1:vc=1
    ·have ht:t=[]:=List.eq_nil_of_length_eq_zero (by omega)
     subst hv1 ht
     have q1:=yD w2 (w.heap.size+1) 3 _ 49 (.slice (some ⟨g,0,none⟩) 0 0) (zY Y1)
     have q0:(w2.setCell ⟨w.heap.size+1,3,none⟩ (.slice (some ⟨g,0,none⟩) 0 0)).heap[w.heap.size]?=_:=(zQ w2 ⟨w.heap.size+1,3,none⟩ (.slice (some ⟨g,0,none⟩) 0 0) w.heap.size (by simp)).trans (zY Y0)
     have qf:=(zY HFY).setCell ⟨w.heap.size+1,3,none⟩ (.slice (some ⟨g,0,none⟩) 0 0) (.inr (by simp))
     go_wp2
     generalize hw5:w2.setCell ⟨w.heap.size+1,3,none⟩ (.slice (some ⟨g,0,none⟩) 0 0)=w5 at *
     have c5:=fun j=>cell_of_row w5 _ j _ 49 (0,0) q1
     have Q0:=zZ q0
     have Q1:=zZ q1
     have QF:=zZ qf
     clear q0 q1 qf hw5 c0 c1 z0 z1 l0 LC Y0 Y1 HFY hz2 hg2
     go_loopw [7,8] (fun u7 u8 wr=>u7=.bool true/\u8=.int .i64 0/\wr=w5) (fun _ _ _=>0)
     case atStart=>exact⟨rfl,rfl,rfl⟩
     case round=>
      obtain⟨rfl,rfl,rfl⟩:=hrel
      have hcd:xV 2 [a]=some (2,0,0,[]):=by simp only [xV];rw [if_neg (by decide),if_pos trivial];rfl
      have c0:=True.intro
      have c1:=c5
      have z1:=True.intro
      have z0:=True.intro
      clear c5
      have hbd:=fun W=>kX 0 0 (.slice (some ⟨g,0,none⟩) 0 0) [] (P:=fun _=>False) W (fun _ h=>h.elim) ⟨_,_,rfl,.inl rfl⟩ (by simp) (fun z hz=>absurd hz (by simp))
      go_upto_region 32 with fail
      have q1:=zY Q1
      have q0:=zY Q0
      have qf:=zY QF
      obtain⟨w3,hw3⟩ : ∃w3,wr=w3:=⟨_,rfl⟩
      rw [hw3] at q0 q1 qf ⊢
      have d0:=fun j=>cell_of_row w3 _ j _ 49 (0,0) q0
      have d1:=fun j=>cell_of_row w3 _ j _ 49 (0,0) q1
      have u0:=fun j=>yB q0 j
      have HFQ:=zZ qf
      have hz3:w.heap.size+1<w3.heap.size:=(zN.1 q1).1
      clear c0 c1 z1 z0 q0 q1 qf hw3
      obtain⟨B,hB⟩ : ∃B,tP []=B:=⟨_,rfl⟩
      have hpc:=qB (zY HBS) (zY HNS) hcd (b:=B) (by rw [<-hB];exact jP [] 0 0)
      rw [hB] at hbd
      have HBD:=zZ hbd
      clear hbd hB
      by_cases hBs:B=s
      ·have hip:=zZ (hpc.1 hBs)
       clear hpc
       subst hBs
       go_region_held3 (fun w'=>w'.cell? ⟨w.heap.size+1,0,none⟩=some (.int .i64 (2))/\w'.cell? ⟨w.heap.size+1,1,none⟩=some (.int .i64 (0))/\w'.cell? ⟨w.heap.size+1,2,none⟩=some (.int .i64 (0))/\w'.cell? ⟨w.heap.size+1,3,none⟩=some (.slice (some ⟨g,0,none⟩) 0 0)) (first | (simp [go_sem,d1];done) | (simp [go_sem,g1];done)) (first | (go_at_call 112;refine(zY HBD _).mono ?_;rintro e w4 ⟨rfl,f4⟩;have g0:=fun j=>(f4.cell w.heap.size j (by simp;omega) (fun h=>h)).trans (d0 j);have g1:=fun j=>(f4.cell (w.heap.size+1) j (by simp;omega) (fun h=>h)).trans (d1 j);have v0:=fun j=>(f4.frozen w.heap.size j (by simp;omega) (fun h=>h)).trans (u0 j);have HF4:=zZ ((zY HFQ).trans (show Fr (fun _=>False) w3 w4 (fun _=>False) from ⟨f4.os,f4.tape,f4.output,f4.size,f4.same,f4.old⟩));clear f4))
       all_goals
        go_wp2_with fail
        refine bodyPost_ret (v:=.tuple #[.agg #[.int .i64 (2),.int .i64 (0),.int .i64 (0),.slice (some ⟨g,0,none⟩) 0 0],.bool true]) (by simp [results,Tryz.results77,go_sem,g0]) rfl ?_
        refine kF (x:=(2,0,0,[])) (zY hip) ?_ ?_
        ·repeat (first | exact zY HF4 | refine Fr.drew ?_ | refine Fr.setCell ?_ _ _ (.inr (Nat.le_refl _)))
        ·exact⟨_,_,rfl,.inl rfl⟩
      ·have hip:=zZ (hpc.2 hBs)
       have hbq:=oV hBs
       clear hpc hBs
       go_region_held3 (fun w'=>w'.cell? ⟨w.heap.size+1,0,none⟩=some (.int .i64 (2))/\w'.cell? ⟨w.heap.size+1,1,none⟩=some (.int .i64 (0))/\w'.cell? ⟨w.heap.size+1,2,none⟩=some (.int .i64 (0))/\w'.cell? ⟨w.heap.size+1,3,none⟩=some (.slice (some ⟨g,0,none⟩) 0 0)) (first | (simp [go_sem,d1];done) | (simp [go_sem,g1];done)) (first | (go_at_call 112;refine(zY HBD _).mono ?_;rintro e w4 ⟨rfl,f4⟩;have g0:=fun j=>(f4.cell w.heap.size j (by simp;omega) (fun h=>h)).trans (d0 j);have g1:=fun j=>(f4.cell (w.heap.size+1) j (by simp;omega) (fun h=>h)).trans (d1 j);have v0:=fun j=>(f4.frozen w.heap.size j (by simp;omega) (fun h=>h)).trans (u0 j);have HF4:=zZ ((zY HFQ).trans (show Fr (fun _=>False) w3 w4 (fun _=>False) from ⟨f4.os,f4.tape,f4.output,f4.size,f4.same,f4.old⟩));clear f4))
       all_goals
        go_wp2_with fail
        refine bodyPost_ret (v:=.tuple #[.agg #[.int .i64 (2),.int .i64 (0),.int .i64 (0),.slice (some ⟨g,0,none⟩) 0 0],.bool false]) (by simp [results,Tryz.results77,go_sem,g0,hbq]) rfl ?_
        refine yZ (zY hip) ?_
        repeat (first | exact zY HF4 | refine Fr.drew ?_ | refine Fr.setCell ?_ _ _ (.inr (Nat.le_refl _)))
    have hcap1:(1:Int)<=(t.length:Int)+1:=by omega
    have hcap2:(t.length:Int)+1<=(vc:Int):=by omega
    have q1:=yD w2 (w.heap.size+1) 3 _ 49 (.slice (some ⟨g,1,none⟩) t.length (vc-1)) (zY Y1)
    have q0:(w2.setCell ⟨w.heap.size+1,3,none⟩ (.slice (some ⟨g,1,none⟩) t.length (vc-1))).heap[w.heap.size]?=_:=(zQ w2 ⟨w.heap.size+1,3,none⟩ (.slice (some ⟨g,1,none⟩) t.length (vc-1)) w.heap.size (by simp)).trans (zY Y0)
    have qg:(w2.setCell ⟨w.heap.size+1,3,none⟩ (.slice (some ⟨g,1,none⟩) t.length (vc-1))).heap[g]?=w2.heap[g]?:=zQ w2 ⟨w.heap.size+1,3,none⟩ (.slice (some ⟨g,1,none⟩) t.length (vc-1)) g (by simp;omega)
    have qf:=(zY HFY).setCell ⟨w.heap.size+1,3,none⟩ (.slice (some ⟨g,1,none⟩) t.length (vc-1)) (.inr (by simp))
    go_wp2
    generalize hw5:w2.setCell ⟨w.heap.size+1,3,none⟩ (.slice (some ⟨g,1,none⟩) t.length (vc-1))=w5 at *
    have lc5:∀j,j<t.length->w5.cell? ⟨g,1+j,none⟩=some (.int .i64 (t.getD j 0:Nat)):=fun j hj=>by
     rw [yW qg,zY LC (1+j) (by omega),Nat.add_comm 1 j,List.getD_cons_succ]
    have LC5:=zZ lc5
    have Q0:=zZ q0
    have Q1:=zZ q1
    have QF:=zZ qf
    have hg5:g<w5.heap.size:=by
     have h1:=(zN.1 (zY Q1)).1
     have h2:(w2.heap[g]?).isSome=true:=by rw [Array.getElem?_eq_getElem hg2];rfl
     rw [<-qg] at h2
     obtain⟨x,hx⟩:=Option.isSome_iff_exists.1 h2
     exact(zN.1 hx).1
    clear q0 q1 qf qg hw5 lc5 c0 c1 z0 z1 l0 LC Y0 Y1 HFY hz2 hg2
    go_loopw [7,8] (fun u7 u8 wr=>∃i:Nat,i<=t.length/\u8=.int .i64 i/\u7=.bool (tT (-1) (zs (t.take i)))/\Dr w5 wr) (fun _ u8 _=>t.length-(intOf u8).toNat)
    case atStart=>exact⟨0,Nat.zero_le _,rfl,rfl,Dr.refl _⟩
    case round=>
     obtain⟨i,hi,rfl,rfl,hd⟩:=hrel
     have c1:=fun j=>(hd.cell ⟨w.heap.size+1,j,none⟩).trans (cell_of_row w5 _ j _ 49 (0,0) (zY Q1))
     by_cases hlt:i<t.length
     ·have e1:=(hd.cell ⟨g,1+i,none⟩).trans (zY LC5 i hlt)
      have hsn:tT (-1) (zs (t.take (i+1)))=(tT (-1) (zs (t.take i)) && decide (((t.getD i 0:Nat):Int)<8) && decide ((((zs (t.take i)).getLast?).getD (-1))<((t.getD i 0:Nat):Int))):=by
       have e:t.take (i+1)=t.take i++[t.getD i 0]:=by rw [List.take_add_one,List.getD_eq_getElem?_getD,List.getElem?_eq_getElem hlt];rfl
       rw [e,show zs (t.take i++[t.getD i 0])=zs (t.take i)++[((t.getD i 0:Nat):Int)] by simp [zs],aD]
      have hgl:∀m,i=m+1->((zs (t.take i)).getLast?).getD (-1)=((t.getD m 0:Nat):Int):=fun m hm=>by
       subst hm
       have e:t.take (m+1)=t.take m++[t.getD m 0]:=by rw [List.take_add_one,List.getD_eq_getElem?_getD,List.getElem?_eq_getElem (show m<t.length by omega)];rfl
       rw [e,show zs (t.take m++[t.getD m 0])=zs (t.take m)++[((t.getD m 0:Nat):Int)] by simp [zs]]
       simp
      have hk0:(0:Int)<=(i:Int):=by omega
      have hk1:(i:Int)<(t.length:Int):=by omega
      have HSN:=zZ hsn
      have HGL:=zZ hgl
      have HD:=zZ hd
      clear hsn hgl hd
      cases hR:tT (-1) (zs (t.take i)) with
      | false=>
       have hsn:tT (-1) (zs (t.take (i+1)))=false:=by rw [zY HSN,hR];rfl
       have HS2:=zZ hsn
       clear hsn hR
       go_wp2_with fail
       go_quiet (fail)
       go_wp2
       go_roundw
       case rel=>exact⟨i+1,by omega,by go_num,by rw [zY HS2],(zY HD).more _⟩
       case measure=>simp [intOf];omega
      | true=>
       generalize hF:t.getD i 0=F at *
       by_cases h8:(F:Int)<8
       ·have h8d:decide ((F:Int)<8)=true:=by simpa using h8
        by_cases hi0:i=0
        ·subst hi0
         have hsn:tT (-1) (zs (t.take (0+1)))=true:=by
          rw [zY HSN,hR,h8d]
          have:decide ((((zs (t.take 0)).getLast?).getD (-1))<(F:Int))=true:=by simp [zs];omega
          rw [this];rfl
         have HS2:=zZ hsn
         clear hsn hR h8
         go_wp2_with fail
         go_quiet (fail)
         go_wp2
         go_roundw
         case rel=>exact⟨0+1,by omega,by go_num,by rw [zY HS2],(zY HD).more _⟩
         case measure=>simp [intOf];omega
        ·obtain⟨p,hp⟩ : ∃p,i=p+1:=⟨i-1,by omega⟩
         have e2:=((zY HD).cell ⟨g,1+p,none⟩).trans (zY LC5 p (by omega))
         have hgl:=zY HGL p hp
         generalize hG:t.getD p 0=G at *
         have hz0:((i:Int)==0)=false:=by simpa using hi0
         have hw1:IntKind.i64.wrap ((i:Int)-1)=(p:Int):=by rw [IntKind.wrap_i64];omega
         have hm0:(0:Int)<=(p:Int):=Int.natCast_nonneg p
         have hm1:(p:Int)<(t.length:Int):=Int.ofNat_lt.2 (by omega)
         have HPI:=zZ hp
         have HI0:=zZ hi0
         by_cases hgt:(G:Int)<(F:Int)
         ·have hgd:decide ((G:Int)<(F:Int))=true:=by simpa using hgt
          have hsn:tT (-1) (zs (t.take (i+1)))=true:=by rw [zY HSN,hR,h8d,hgl,hgd];rfl
          have HS2:=zZ hsn
          have HGN:=zZ (show decide (G<F)=true by simpa using hgt)
          clear hsn hR h8 hgt hgl hp hi0 hG hF
          go_wp2_with fail
          go_quiet (fail)
          go_wp2
          go_roundw
          case rel=>exact⟨i+1,by omega,by go_num,by rw [zY HS2];first | rfl | exact congrArg Value.bool (zY HGN),(zY HD).more _⟩
          case measure=>simp [intOf];omega
         ·have hgd:decide ((G:Int)<(F:Int))=false:=by simpa using hgt
          have hsn:tT (-1) (zs (t.take (i+1)))=false:=by rw [zY HSN,hR,h8d,hgl,hgd];rfl
          have HS2:=zZ hsn
          have HGN:=zZ (show decide (G<F)=false by simpa using hgt)
          clear hsn hR h8 hgt hgl hp hi0 hG hF
          go_wp2_with fail
          go_quiet (fail)
          go_wp2
          go_roundw
          case rel=>exact⟨i+1,by omega,by go_num,by rw [zY HS2];first | rfl | exact congrArg Value.bool (zY HGN),(zY HD).more _⟩
          case measure=>simp [intOf];omega
       ·have h8d:decide ((F:Int)<8)=false:=by simpa using h8
        have hsn:tT (-1) (zs (t.take (i+1)))=false:=by rw [zY HSN,hR,h8d];rfl
        have HS2:=zZ hsn
        clear hsn hR h8
        go_wp2_with fail
        go_quiet (fail)
        go_wp2
        go_roundw
        case rel=>exact⟨i+1,by omega,by go_num,by rw [zY HS2],(zY HD).more _⟩
        case measure=>simp [intOf];omega
     ·have hii:i=t.length:=by omega
      subst hii
      have hk1:¬(t.length:Int)<(t.length:Int):=by omega
      rw [List.take_length]
      have c0:=fun j=>(hd.cell ⟨w.heap.size,j,none⟩).trans (cell_of_row w5 _ j _ 49 (0,0) (zY Q0))
      have z1:=True.intro
      have z0:=True.intro
      cases hR:tT (-1) (zs t) with
      | true=>
       have hcd:xV 2 (a::t)=some (2,0,0,t):=by simp only [xV];rw [if_neg (by decide),if_pos trivial,if_pos hR]
       go_upto_region 32 with fail
       have q1:wr.heap[w.heap.size+1]?=_:=(by obtain⟨m,rfl⟩:=hd;exact zY Q1)
       have q0:wr.heap[w.heap.size]?=_:=(by obtain⟨m,rfl⟩:=hd;exact zY Q0)
       have qg:∀j,j<t.length->wr.cell? ⟨g,1+j,none⟩=some (.int .i64 (t.getD j 0:Nat)):=fun j hj=>(hd.cell _).trans (zY LC5 j hj)
       have qz:g<wr.heap.size:=(by obtain⟨m,rfl⟩:=hd;exact hg5)
       have qf:Fr (fun _=>False) w wr (fun _=>False):=(by obtain⟨m,rfl⟩:=hd;exact(zY QF).drewN m)
       obtain⟨w3,hw3⟩ : ∃w3,wr=w3:=⟨_,rfl⟩
       rw [hw3] at q0 q1 qf qg qz ⊢
       have QG:=zZ qg
       have QZ:=zZ qz
       clear qg qz
       have d0:=fun j=>cell_of_row w3 _ j _ 49 (0,0) q0
       have d1:=fun j=>cell_of_row w3 _ j _ 49 (0,0) q1
       have u0:=fun j=>yB q0 j
       have HFQ:=zZ qf
       have hz3:w.heap.size+1<w3.heap.size:=(zN.1 q1).1
       clear c0 c1 z1 z0 q0 q1 qf hw3
       have hi3:yJ w3 (.slice (some ⟨g,1,none⟩) t.length (vc-1)) (zs t) (fun q=>q=g):=⟨_,_,by rw [xM],.inr ⟨g,1,rfl,rfl,fun j hj=>by rw [xM] at hj;rw [zY QG j hj,mM]⟩⟩
       have hbd:∀W,Fr (fun _=>False) w3 W (fun _=>False)->_:=fun W hW=>kX 0 0 (.slice (some ⟨g,1,none⟩) t.length (vc-1)) (zs t) (P:=fun q=>q=g) W (fun q hq=>by subst hq;exact zT (zY QZ) hW.size) (hi3.block (fun q hq=>by subst hq;exact hW.same _ (zY QZ) (fun h=>h))) (by have:=(pX t (-1) (by omega) (by omega) hR).1;rw [xM];omega) (fun z hz=>by
        obtain⟨f,hf,rfl⟩:=List.mem_map.1 hz
        have:=(pX t (-1) (by omega) (by omega) hR).2 f hf
        exact⟨Int.natCast_nonneg _,by show (f:Int)<8;omega⟩)
       have HI3:=zZ hi3
       clear hi3
       obtain⟨B,hB⟩ : ∃B,tP (zs t)=B:=⟨_,rfl⟩
       have hpc:=qB (zY HBS) (zY HNS) hcd (b:=B) (by rw [<-hB];exact(by rw [jP (zs t) 0 0,zU5]))
       simp only [hB] at hbd
       have HBD:=zZ hbd
       clear hbd hB
       by_cases hBs:B=s
       ·have hip:=zZ (hpc.1 hBs)
        clear hpc
        subst hBs
        go_region_held3 (fun w'=>w'.cell? ⟨w.heap.size+1,0,none⟩=some (.int .i64 (2))/\w'.cell? ⟨w.heap.size+1,1,none⟩=some (.int .i64 (0))/\w'.cell? ⟨w.heap.size+1,2,none⟩=some (.int .i64 (0))/\w'.cell? ⟨w.heap.size+1,3,none⟩=some (.slice (some ⟨g,1,none⟩) t.length (vc-1))) (first | (simp [go_sem,d1];done) | (simp [go_sem,g1];done)) (first | (go_at_call 112;refine(zY HBD _ (by first | exact Fr.refl _ _ | exact(Fr.refl _ _).drew)).mono ?_;rintro e w4 ⟨rfl,f4⟩;have g0:=fun j=>(f4.cell w.heap.size j (by simp;omega) (fun h=>h)).trans (d0 j);have g1:=fun j=>(f4.cell (w.heap.size+1) j (by simp;omega) (fun h=>h)).trans (d1 j);have v0:=fun j=>(f4.frozen w.heap.size j (by simp;omega) (fun h=>h)).trans (u0 j);have I4:=zZ ((zY HI3).block (fun q hq=>(by subst hq;exact f4.same _ (by have:=zY QZ;simp;omega) (fun h=>h):w4.heap[q]?=w3.heap[q]?)));have I5:=zZ (show g<w4.heap.size from zT (zY QZ) f4.size);have HF4:=zZ ((zY HFQ).trans (show Fr (fun _=>False) w3 w4 (fun _=>False) from ⟨f4.os,f4.tape,f4.output,f4.size,f4.same,f4.old⟩));clear f4))
        all_goals
         go_wp2_with fail
         refine bodyPost_ret (v:=.tuple #[.agg #[.int .i64 (2),.int .i64 (0),.int .i64 (0),.slice (some ⟨g,1,none⟩) t.length (vc-1)],.bool true]) (by simp [results,Tryz.results77,go_sem,g0]) rfl ?_
         refine kF (x:=(2,0,0,t)) (zY hip) ?_ ?_
         ·repeat (first | exact zY HF4 | refine Fr.drew ?_ | refine Fr.setCell ?_ _ _ (.inr (Nat.le_refl _)))
         ·exact yQ (zY I4) (fun q hq=>by rw [show q=g from hq];iterate 4 rw [zQ _ _ _ _ (by show g≠w.heap.size;omega)]) (fun q hq=>⟨by have h:q=g:=hq;omega,by have h5:=zY I5;rw [show q=g from hq];simpa [World.setCell] using h5⟩)
       ·have hip:=zZ (hpc.2 hBs)
        have hbq:=oV hBs
        clear hpc hBs
        go_region_held3 (fun w'=>w'.cell? ⟨w.heap.size+1,0,none⟩=some (.int .i64 (2))/\w'.cell? ⟨w.heap.size+1,1,none⟩=some (.int .i64 (0))/\w'.cell? ⟨w.heap.size+1,2,none⟩=some (.int .i64 (0))/\w'.cell? ⟨w.heap.size+1,3,none⟩=some (.slice (some ⟨g,1,none⟩) t.length (vc-1))) (first | (simp [go_sem,d1];done) | (simp [go_sem,g1];done)) (first | (go_at_call 112;refine(zY HBD _ (by first | exact Fr.refl _ _ | exact(Fr.refl _ _).drew)).mono ?_;rintro e w4 ⟨rfl,f4⟩;have g0:=fun j=>(f4.cell w.heap.size j (by simp;omega) (fun h=>h)).trans (d0 j);have g1:=fun j=>(f4.cell (w.heap.size+1) j (by simp;omega) (fun h=>h)).trans (d1 j);have v0:=fun j=>(f4.frozen w.heap.size j (by simp;omega) (fun h=>h)).trans (u0 j);have I4:=zZ ((zY HI3).block (fun q hq=>(by subst hq;exact f4.same _ (by have:=zY QZ;simp;omega) (fun h=>h):w4.heap[q]?=w3.heap[q]?)));have I5:=zZ (show g<w4.heap.size from zT (zY QZ) f4.size);have HF4:=zZ ((zY HFQ).trans (show Fr (fun _=>False) w3 w4 (fun _=>False) from ⟨f4.os,f4.tape,f4.output,f4.size,f4.same,f4.old⟩));clear f4))
        all_goals
         go_wp2_with fail
         refine bodyPost_ret (v:=.tuple #[.agg #[.int .i64 (2),.int .i64 (0),.int .i64 (0),.slice (some ⟨g,1,none⟩) t.length (vc-1)],.bool false]) (by simp [results,Tryz.results77,go_sem,g0,hbq]) rfl ?_
         refine yZ (zY hip) ?_
         repeat (first | exact zY HF4 | refine Fr.drew ?_ | refine Fr.setCell ?_ _ _ (.inr (Nat.le_refl _)))
      | false=>
       have HIP:=zZ (xN (zY HBS) (zY HNS) (by simp only [xV];rw [if_neg (by decide),if_pos trivial,if_neg (by rw [hR];decide)]))
       go_upto_region 32 with fail
       have q1:wr.heap[w.heap.size+1]?=_:=(by obtain⟨m,rfl⟩:=hd;exact zY Q1)
       have q0:wr.heap[w.heap.size]?=_:=(by obtain⟨m,rfl⟩:=hd;exact zY Q0)
       have qg:∀j,j<t.length->wr.cell? ⟨g,1+j,none⟩=some (.int .i64 (t.getD j 0:Nat)):=fun j hj=>(hd.cell _).trans (zY LC5 j hj)
       have qz:g<wr.heap.size:=(by obtain⟨m,rfl⟩:=hd;exact hg5)
       have qf:Fr (fun _=>False) w wr (fun _=>False):=(by obtain⟨m,rfl⟩:=hd;exact(zY QF).drewN m)
       obtain⟨w3,hw3⟩ : ∃w3,wr=w3:=⟨_,rfl⟩
       rw [hw3] at q0 q1 qf qg qz ⊢
       have QG:=zZ qg
       have QZ:=zZ qz
       clear qg qz
       have d0:=fun j=>cell_of_row w3 _ j _ 49 (0,0) q0
       have d1:=fun j=>cell_of_row w3 _ j _ 49 (0,0) q1
       have u0:=fun j=>yB q0 j
       have HFQ:=zZ qf
       have hz3:w.heap.size+1<w3.heap.size:=(zN.1 q1).1
       clear c0 c1 z1 z0 q0 q1 qf hw3
       go_region
       all_goals
        go_wp2_with fail
        refine bodyPost_ret (v:=.tuple #[.agg #[.int .i64 (2),.int .i64 (0),.int .i64 (0),.slice (some ⟨g,1,none⟩) t.length (vc-1)],.bool false]) (by simp [results,Tryz.results77,go_sem,d0]) rfl ?_
        refine yZ (zY HIP) ?_
        repeat (first | exact zY HFQ | refine Fr.drew ?_ | refine Fr.setCell ?_ _ _ (.inr (Nat.le_refl _)))
theorem zY5 (s:ByteArray) (hs:s.size<=100) (w:World) (h0:0<s.size) (hkk:yI s 0=3):Calls Tryz.prog 77 #[.string s] w (qQ s w):=by
 obtain⟨t0,t1⟩:=rJ w.heap (.cells #[.int .i64 0,.int .i64 0,.int .i64 0,.slice none 0 0] 49) (.cells #[.int .i64 0,.int .i64 0,.int .i64 0,.slice none 0 0] 49)
 change ((w.alloc _).alloc _).heap[_]?=_ at t0 t1
 have hfw:Fr (fun _=>False) w ((w.alloc (.cells #[.int .i64 0,.int .i64 0,.int .i64 0,.slice none 0 0] 49)).alloc (.cells #[.int .i64 0,.int .i64 0,.int .i64 0,.slice none 0 0] 49)) (fun _=>False):=((Fr.refl _ _).alloc _).alloc _
 have HFW:=zZ hfw
 ·obtain⟨r,hbs,hrl⟩:=qW h0
  obtain⟨W,hW⟩ : ∃W,((w.alloc (.cells #[.int .i64 0,.int .i64 0,.int .i64 0,.slice none 0 0] 49)).alloc (.cells #[.int .i64 0,.int .i64 0,.int .i64 0,.slice none 0 0] 49))=W:=⟨_,rfl⟩
  have hb1:bs (s.extract 1 s.size)=r:=by rw [uT,hbs];rfl
  have hsz1:(s.extract 1 s.size).size=r.length:=by rw [<-vA,hb1]
  have hnd:rW (s.extract 1 s.size)=pC r.length r:=by unfold rW;rw [hb1,hsz1]
  have h111:=rH (s.extract 1 s.size) (by omega) W
  have hbyte:=xH s 0 h0
  have hblt:=tV s 0
  obtain⟨k,hk⟩ : ∃k,yI s 0=k:=⟨_,rfl⟩
  rw [hk] at hbs hbyte hblt hkk
  have HKK:=zZ hkk
  clear hkk
  rw [hW] at t0 t1 HFW
  have H111:=zZ h111
  have HW:=zZ hW
  have T0:=zZ t0
  have T1:=zZ t1
  have HBS:=zZ hbs
  have HND:=zZ hnd
  have hi1:(1:Int)<=(s.size:Int):=by omega
  have hne:=qI h0
  clear h111 hW t0 t1 hbs hnd hb1 hsz1 hrl
  go_enter Tryz.func77,Tryz.ntmps77
  go_wp2_with fail
  rw [zY HW]
  go_at_call 111
  refine(zY H111).mono ?_
  rintro e w1 ⟨f1,hm⟩
  rw [zY HND] at hm
  have hf1:=(zY HFW).trans f1
  have x0:=(f1.same _ (zN.1 (zY T0)).1 (fun h=>h)).trans (zY T0)
  have x1:=(f1.same _ (zN.1 (zY T1)).1 (fun h=>h)).trans (zY T1)
  have hz1:w.heap.size+1<w1.heap.size:=(zN.1 x1).1
  have c0:=fun j=>cell_of_row w1 _ j _ 49 (0,0) x0
  have c1:=fun j=>cell_of_row w1 _ j _ 49 (0,0) x1
  have z0:=fun j=>yB x0 j
  have z1:=fun j=>yB x1 j
  have HF1:=zZ hf1
  have X0:=zZ x0
  have X1:=zZ x1
  have HWW:=zZ f1.size
  have HWZ:=zZ (show W.heap.size=w.heap.size+2 by rw [<-zY HW];simp)
  clear f1 hf1 x0 x1 HFW T0 T1 H111
  cases hns:pC r.length r with
  | none=>
   rw [hns] at hm
   have hm':e=.returned (.tuple #[.slice none 0 0,.bool false]):=hm
   subst hm'
   have hip:=zZ (qC (zY HBS) hns)
   clear hm hns
   go_wp2
   refine bodyPost_ret (v:=.tuple #[.agg #[.int .i64 0,.int .i64 0,.int .i64 0,.slice none 0 0],.bool false]) (by simp [results,Tryz.results77,go_sem,c0]) rfl ?_
   refine yZ (zY hip) ?_
   repeat (first | exact zY HF1 | refine Fr.setCell ?_ _ _ (.inr (Nat.le_refl _)))
  | some ns=>
   rw [hns] at hm
   obtain⟨hnl,v,he,ho⟩:=hm
   have hnl:ns.length<=200:=by
     have h:(s.extract 1 s.size).size<=s.size:=by simp [ByteArray.size_extract]
     omega
   subst he
   obtain⟨va,vc,rfl⟩:=xP ho
   rw [xM]
   rw [xM] at ho
   cases ns with
   | nil=>
    have hip:=zZ (xN (zY HBS) hns rfl)
    clear hns ho hnl
    go_wp2
    refine bodyPost_ret (v:=.tuple #[.agg #[.int .i64 0,.int .i64 0,.int .i64 0,.slice none 0 0],.bool false]) (by simp [results,Tryz.results77,go_sem,c0]) rfl ?_
    refine yZ (zY hip) ?_
    repeat (first | exact zY HF1 | refine Fr.setCell ?_ _ _ (.inr (Nat.le_refl _)))
   | cons a t=>
    obtain⟨g,cap,cur,hv,hg1,hg2,hg3,hg4,hg5,hg6⟩:=xJ ho (by simp [zs])
    injection hv with hv1 hv2 hv3
    subst hv1 hv3
    have hgz:g<w1.heap.size:=(zN.1 hg2).1
    have hg1':w.heap.size+1<g:=by have:=zY HWZ;omega
    have l0:w1.cell? ⟨g,0,none⟩=some (.int .i64 (a:Nat)):=by have:=hg6 0 (by simp [zs]);simpa [zs] using this
    have HG6:=zZ hg6
    have HNS:=zZ hns
    have hlen:(a::t).length=t.length+1:=rfl
    rw [hlen]
    have htl:t.length<=200:=by
      have:(a::t).length<=200:=by omega
      simpa using Nat.le_of_succ_le this
    have ht0:(0:Int)<(t.length:Int)+1:=by omega
    have hkc:((s[0]'h0).toNat:Int)=(k:Int):=by rw [hbyte]
    clear hg6 hg5 hg4 hg2 hns ho hv2 hlen hbyte
    have y1:=yD w1 (w.heap.size+1) 0 _ 49 (.int .i64 (k:Int)) (zY X1)
    have y0:(w1.setCell ⟨w.heap.size+1,0,none⟩ (.int .i64 (k:Int))).heap[w.heap.size]?=_:=(zQ w1 ⟨w.heap.size+1,0,none⟩ (.int .i64 (k:Int)) w.heap.size (by simp)).trans (zY X0)
    have yl:(w1.setCell ⟨w.heap.size+1,0,none⟩ (.int .i64 (k:Int))).heap[g]?=w1.heap[g]?:=zQ w1 ⟨w.heap.size+1,0,none⟩ (.int .i64 (k:Int)) g (by simp;omega)
    have hfy:=(zY HF1).setCell ⟨w.heap.size+1,0,none⟩ (.int .i64 (k:Int)) (.inr (by simp))
    have hyz:(w1.setCell ⟨w.heap.size+1,0,none⟩ (.int .i64 (k:Int))).heap.size=w1.heap.size:=by simp [World.setCell]
    go_upto_region 9 with fail
    generalize hw2:w1.setCell ⟨w.heap.size+1,0,none⟩ (.int .i64 (k:Int))=w2 at *
    have lc:∀j,j<t.length+1->w2.cell? ⟨g,j,none⟩=some (.int .i64 ((a::t).getD j 0:Nat)):=fun j hj=>by
     rw [yW yl]
     have h:=zY HG6 j (by rw [xM];exact hj)
     rw [h,mM]
    have c0:=fun j=>cell_of_row w2 _ j _ 49 (0,0) y0
    have c1:=fun j=>cell_of_row w2 _ j _ 49 (0,0) y1
    have z1:=fun j=>yB y1 j
    have z0:=fun j=>yB y0 j
    have l0:=lc 0 (by omega)
    have LC:=zZ lc
    have Y0:=zZ y0
    have Y1:=zZ y1
    have HFY:=zZ hfy
    have hz2:w.heap.size+1<w2.heap.size:=by omega
    have hg2:g<w2.heap.size:=by omega
    clear y0 y1 yl hfy hyz hw2 lc X0 X1 HF1 HG6 hz1 hgz hg1 HWW
    have hkk:=zY HKK
    subst hkk
    rcases t with _ | ⟨b,_ | ⟨b2,t⟩⟩
    ·have HIP:=zZ (xN (zY HBS) (zY HNS) (by simp only [xV];rw [if_neg (by decide),if_neg (by decide),if_pos trivial]))
     go_wp2
     refine bodyPost_ret (v:=.tuple #[.agg #[.int .i64 3,.int .i64 0,.int .i64 0,.slice none 0 0],.bool false]) (by simp [results,Tryz.results77,go_sem,c0]) rfl ?_
     refine yZ (zY HIP) ?_
     repeat (first | exact zY HFY | refine Fr.setCell ?_ _ _ (.inr (Nat.le_refl _)))
    ·have l1:w2.cell? ⟨g,1,none⟩=some (.int .i64 (b:Nat)):=zY LC 1 (by simp)
     by_cases hba:b<a
     ·have hbi:(b:Int)<(a:Int):=by omega
      by_cases h2:2<=a
      ·have h2i:(2:Int)<=(a:Int):=by omega
       by_cases h8:a<=8
       ·have h8i:(a:Int)<=8:=by omega
        have hcd:xV 3 [a,b]=some (3,a,b,[]):=by simp only [xV];rw [if_neg (by decide),if_neg (by decide),if_pos trivial,if_pos ⟨hba,h2,h8⟩]
        have hbd:=fun W=>jN 3 a b (.slice none 0 0) none 0 0 rfl (.inl rfl) (by omega) (by omega) W
        go_upto_region 32 with fail
        have p1:=yD w2 (w.heap.size+1) 1 _ 49 (.int .i64 (a:Int)) (zY Y1)
        have q1:=yD _ (w.heap.size+1) 2 _ 49 (.int .i64 (b:Int)) p1
        have q0:((w2.setCell ⟨w.heap.size+1,1,none⟩ (.int .i64 (a:Int))).setCell ⟨w.heap.size+1,2,none⟩ (.int .i64 (b:Int))).heap[w.heap.size]?=_:=(zQ (w2.setCell ⟨w.heap.size+1,1,none⟩ (.int .i64 (a:Int))) ⟨w.heap.size+1,2,none⟩ (.int .i64 (b:Int)) w.heap.size (by simp)).trans ((zQ w2 ⟨w.heap.size+1,1,none⟩ (.int .i64 (a:Int)) w.heap.size (by simp)).trans (zY Y0))
        have qf:=((zY HFY).setCell ⟨w.heap.size+1,1,none⟩ (.int .i64 (a:Int)) (.inr (by simp))).setCell ⟨w.heap.size+1,2,none⟩ (.int .i64 (b:Int)) (.inr (by simp))
        clear p1
        generalize hw3:(w2.setCell ⟨w.heap.size+1,1,none⟩ (.int .i64 (a:Int))).setCell ⟨w.heap.size+1,2,none⟩ (.int .i64 (b:Int))=w3 at *
        have d0:=fun j=>cell_of_row w3 _ j _ 49 (0,0) q0
        have d1:=fun j=>cell_of_row w3 _ j _ 49 (0,0) q1
        have u0:=fun j=>yB q0 j
        have HFQ:=zZ qf
        have hz3:w.heap.size+1<w3.heap.size:=(zN.1 q1).1
        clear c0 c1 z1 z0 q0 q1 qf hw3
        obtain⟨B,hB⟩ : ∃B,yY 3 a b=B:=⟨_,rfl⟩
        have hpc:=qB (zY HBS) (zY HNS) hcd (b:=B) (by rw [<-hB];exact nD 3 a b [] (.inl rfl))
        rw [hB] at hbd
        have HBD:=zZ hbd
        clear hbd hB
        by_cases hBs:B=s
        ·have hip:=zZ (hpc.1 hBs)
         clear hpc
         subst hBs
         go_region_held3 (fun w'=>w'.cell? ⟨w.heap.size+1,0,none⟩=some (.int .i64 (3))/\w'.cell? ⟨w.heap.size+1,1,none⟩=some (.int .i64 (a:Nat))/\w'.cell? ⟨w.heap.size+1,2,none⟩=some (.int .i64 (b:Nat))/\w'.cell? ⟨w.heap.size+1,3,none⟩=some (.slice none 0 0)) (first | (simp [go_sem,d1];done) | (simp [go_sem,g1];done)) (first | (go_at_call 112;refine(zY HBD _).mono ?_;rintro e w4 ⟨rfl,f4⟩;have g0:=fun j=>(f4.cell w.heap.size j (by simp;omega) (fun h=>h)).trans (d0 j);have g1:=fun j=>(f4.cell (w.heap.size+1) j (by simp;omega) (fun h=>h)).trans (d1 j);have v0:=fun j=>(f4.frozen w.heap.size j (by simp;omega) (fun h=>h)).trans (u0 j);have HF4:=zZ ((zY HFQ).trans (show Fr (fun _=>False) w3 w4 (fun _=>False) from ⟨f4.os,f4.tape,f4.output,f4.size,f4.same,f4.old⟩));clear f4))
         all_goals
          go_wp2_with fail
          refine bodyPost_ret (v:=.tuple #[.agg #[.int .i64 (3),.int .i64 (a:Nat),.int .i64 (b:Nat),.slice none 0 0],.bool true]) (by simp [results,Tryz.results77,go_sem,g0]) rfl ?_
          refine kF (x:=(3,a,b,[])) (zY hip) ?_ ?_
          ·repeat (first | exact zY HF4 | refine Fr.drew ?_ | refine Fr.setCell ?_ _ _ (.inr (Nat.le_refl _)))
          ·exact⟨none,0,rfl,.inl rfl⟩
        ·have hip:=zZ (hpc.2 hBs)
         have hbq:=oV hBs
         clear hpc hBs
         go_region_held3 (fun w'=>w'.cell? ⟨w.heap.size+1,0,none⟩=some (.int .i64 (3))/\w'.cell? ⟨w.heap.size+1,1,none⟩=some (.int .i64 (a:Nat))/\w'.cell? ⟨w.heap.size+1,2,none⟩=some (.int .i64 (b:Nat))/\w'.cell? ⟨w.heap.size+1,3,none⟩=some (.slice none 0 0)) (first | (simp [go_sem,d1];done) | (simp [go_sem,g1];done)) (first | (go_at_call 112;refine(zY HBD _).mono ?_;rintro e w4 ⟨rfl,f4⟩;have g0:=fun j=>(f4.cell w.heap.size j (by simp;omega) (fun h=>h)).trans (d0 j);have g1:=fun j=>(f4.cell (w.heap.size+1) j (by simp;omega) (fun h=>h)).trans (d1 j);have v0:=fun j=>(f4.frozen w.heap.size j (by simp;omega) (fun h=>h)).trans (u0 j);have HF4:=zZ ((zY HFQ).trans (show Fr (fun _=>False) w3 w4 (fun _=>False) from ⟨f4.os,f4.tape,f4.output,f4.size,f4.same,f4.old⟩));clear f4))
         all_goals
          go_wp2_with fail
          refine bodyPost_ret (v:=.tuple #[.agg #[.int .i64 (3),.int .i64 (a:Nat),.int .i64 (b:Nat),.slice none 0 0],.bool false]) (by simp [results,Tryz.results77,go_sem,g0,hbq]) rfl ?_
          refine yZ (zY hip) ?_
          repeat (first | exact zY HF4 | refine Fr.drew ?_ | refine Fr.setCell ?_ _ _ (.inr (Nat.le_refl _)))
       ·have h8i:¬(a:Int)<=8:=by omega
        have HIP:=zZ (xN (zY HBS) (zY HNS) (by simp only [xV];rw [if_neg (by decide),if_neg (by decide),if_pos trivial,if_neg (fun h=>h8 h.2.2)]))
        go_upto_region 32 with fail
        have p1:=yD w2 (w.heap.size+1) 1 _ 49 (.int .i64 (a:Int)) (zY Y1)
        have q1:=yD _ (w.heap.size+1) 2 _ 49 (.int .i64 (b:Int)) p1
        have q0:((w2.setCell ⟨w.heap.size+1,1,none⟩ (.int .i64 (a:Int))).setCell ⟨w.heap.size+1,2,none⟩ (.int .i64 (b:Int))).heap[w.heap.size]?=_:=(zQ (w2.setCell ⟨w.heap.size+1,1,none⟩ (.int .i64 (a:Int))) ⟨w.heap.size+1,2,none⟩ (.int .i64 (b:Int)) w.heap.size (by simp)).trans ((zQ w2 ⟨w.heap.size+1,1,none⟩ (.int .i64 (a:Int)) w.heap.size (by simp)).trans (zY Y0))
        have qf:=((zY HFY).setCell ⟨w.heap.size+1,1,none⟩ (.int .i64 (a:Int)) (.inr (by simp))).setCell ⟨w.heap.size+1,2,none⟩ (.int .i64 (b:Int)) (.inr (by simp))
        clear p1
        generalize hw3:(w2.setCell ⟨w.heap.size+1,1,none⟩ (.int .i64 (a:Int))).setCell ⟨w.heap.size+1,2,none⟩ (.int .i64 (b:Int))=w3 at *
        have d0:=fun j=>cell_of_row w3 _ j _ 49 (0,0) q0
        have d1:=fun j=>cell_of_row w3 _ j _ 49 (0,0) q1
        have u0:=fun j=>yB q0 j
        have HFQ:=zZ qf
        have hz3:w.heap.size+1<w3.heap.size:=(zN.1 q1).1
        clear c0 c1 z1 z0 q0 q1 qf hw3
        go_region
        all_goals
         go_wp2_with fail
         refine bodyPost_ret (v:=.tuple #[.agg #[.int .i64 (3),.int .i64 (a:Nat),.int .i64 (b:Nat),.slice none 0 0],.bool false]) (by simp [results,Tryz.results77,go_sem,d0]) rfl ?_
         refine yZ (zY HIP) ?_
         repeat (first | exact zY HFQ | refine Fr.drew ?_ | refine Fr.setCell ?_ _ _ (.inr (Nat.le_refl _)))
      ·have h2i:¬(2:Int)<=(a:Int):=by omega
       have HIP:=zZ (xN (zY HBS) (zY HNS) (by simp only [xV];rw [if_neg (by decide),if_neg (by decide),if_pos trivial,if_neg (fun h=>h2 h.2.1)]))
       go_upto_region 32 with fail
       have p1:=yD w2 (w.heap.size+1) 1 _ 49 (.int .i64 (a:Int)) (zY Y1)
       have q1:=yD _ (w.heap.size+1) 2 _ 49 (.int .i64 (b:Int)) p1
       have q0:((w2.setCell ⟨w.heap.size+1,1,none⟩ (.int .i64 (a:Int))).setCell ⟨w.heap.size+1,2,none⟩ (.int .i64 (b:Int))).heap[w.heap.size]?=_:=(zQ (w2.setCell ⟨w.heap.size+1,1,none⟩ (.int .i64 (a:Int))) ⟨w.heap.size+1,2,none⟩ (.int .i64 (b:Int)) w.heap.size (by simp)).trans ((zQ w2 ⟨w.heap.size+1,1,none⟩ (.int .i64 (a:Int)) w.heap.size (by simp)).trans (zY Y0))
       have qf:=((zY HFY).setCell ⟨w.heap.size+1,1,none⟩ (.int .i64 (a:Int)) (.inr (by simp))).setCell ⟨w.heap.size+1,2,none⟩ (.int .i64 (b:Int)) (.inr (by simp))
       clear p1
       generalize hw3:(w2.setCell ⟨w.heap.size+1,1,none⟩ (.int .i64 (a:Int))).setCell ⟨w.heap.size+1,2,none⟩ (.int .i64 (b:Int))=w3 at *
       have d0:=fun j=>cell_of_row w3 _ j _ 49 (0,0) q0
       have d1:=fun j=>cell_of_row w3 _ j _ 49 (0,0) q1
       have u0:=fun j=>yB q0 j
       have HFQ:=zZ qf
       have hz3:w.heap.size+1<w3.heap.size:=(zN.1 q1).1
       clear c0 c1 z1 z0 q0 q1 qf hw3
       go_region
       all_goals
        go_wp2_with fail
        refine bodyPost_ret (v:=.tuple #[.agg #[.int .i64 (3),.int .i64 (a:Nat),.int .i64 (b:Nat),.slice none 0 0],.bool false]) (by simp [results,Tryz.results77,go_sem,d0]) rfl ?_
        refine yZ (zY HIP) ?_
        repeat (first | exact zY HFQ | refine Fr.drew ?_ | refine Fr.setCell ?_ _ _ (.inr (Nat.le_refl _)))
     ·have hbi:¬(b:Int)<(a:Int):=by omega
      have HIP:=zZ (xN (zY HBS) (zY HNS) (by simp only [xV];rw [if_neg (by decide),if_neg (by decide),if_pos trivial,if_neg (fun h=>hba h.1)]))
      go_upto_region 32 with fail
      have p1:=yD w2 (w.heap.size+1) 1 _ 49 (.int .i64 (a:Int)) (zY Y1)
      have q1:=yD _ (w.heap.size+1) 2 _ 49 (.int .i64 (b:Int)) p1
      have q0:((w2.setCell ⟨w.heap.size+1,1,none⟩ (.int .i64 (a:Int))).setCell ⟨w.heap.size+1,2,none⟩ (.int .i64 (b:Int))).heap[w.heap.size]?=_:=(zQ (w2.setCell ⟨w.heap.size+1,1,none⟩ (.int .i64 (a:Int))) ⟨w.heap.size+1,2,none⟩ (.int .i64 (b:Int)) w.heap.size (by simp)).trans ((zQ w2 ⟨w.heap.size+1,1,none⟩ (.int .i64 (a:Int)) w.heap.size (by simp)).trans (zY Y0))
      have qf:=((zY HFY).setCell ⟨w.heap.size+1,1,none⟩ (.int .i64 (a:Int)) (.inr (by simp))).setCell ⟨w.heap.size+1,2,none⟩ (.int .i64 (b:Int)) (.inr (by simp))
      clear p1
      generalize hw3:(w2.setCell ⟨w.heap.size+1,1,none⟩ (.int .i64 (a:Int))).setCell ⟨w.heap.size+1,2,none⟩ (.int .i64 (b:Int))=w3 at *
      have d0:=fun j=>cell_of_row w3 _ j _ 49 (0,0) q0
      have d1:=fun j=>cell_of_row w3 _ j _ 49 (0,0) q1
      have u0:=fun j=>yB q0 j
      have HFQ:=zZ qf
      have hz3:w.heap.size+1<w3.heap.size:=(zN.1 q1).1
      clear c0 c1 z1 z0 q0 q1 qf hw3
      go_region
      all_goals
       go_wp2_with fail
       refine bodyPost_ret (v:=.tuple #[.agg #[.int .i64 (3),.int .i64 (a:Nat),.int .i64 (b:Nat),.slice none 0 0],.bool false]) (by simp [results,Tryz.results77,go_sem,d0]) rfl ?_
       refine yZ (zY HIP) ?_
       repeat (first | exact zY HFQ | refine Fr.drew ?_ | refine Fr.setCell ?_ _ _ (.inr (Nat.le_refl _)))
    ·have hq2:¬(t.length:Int)+1+1+1=2:=by omega
     have HIP:=zZ (xN (zY HBS) (zY HNS) (by simp only [xV];rw [if_neg (by decide),if_neg (by decide),if_pos trivial]))
     go_wp2
     refine bodyPost_ret (v:=.tuple #[.agg #[.int .i64 3,.int .i64 0,.int .i64 0,.slice none 0 0],.bool false]) (by simp [results,Tryz.results77,go_sem,c0]) rfl ?_
     refine yZ (zY HIP) ?_
     repeat (first | exact zY HFY | refine Fr.setCell ?_ _ _ (.inr (Nat.le_refl _)))
theorem zY6 (s:ByteArray) (hs:s.size<=100) (w:World) (h0:0<s.size) (hkk:yI s 0=4):Calls Tryz.prog 77 #[.string s] w (qQ s w):=by
 obtain⟨t0,t1⟩:=rJ w.heap (.cells #[.int .i64 0,.int .i64 0,.int .i64 0,.slice none 0 0] 49) (.cells #[.int .i64 0,.int .i64 0,.int .i64 0,.slice none 0 0] 49)
 change ((w.alloc _).alloc _).heap[_]?=_ at t0 t1
 have hfw:Fr (fun _=>False) w ((w.alloc (.cells #[.int .i64 0,.int .i64 0,.int .i64 0,.slice none 0 0] 49)).alloc (.cells #[.int .i64 0,.int .i64 0,.int .i64 0,.slice none 0 0] 49)) (fun _=>False):=((Fr.refl _ _).alloc _).alloc _
 have HFW:=zZ hfw
 ·obtain⟨r,hbs,hrl⟩:=qW h0
  obtain⟨W,hW⟩ : ∃W,((w.alloc (.cells #[.int .i64 0,.int .i64 0,.int .i64 0,.slice none 0 0] 49)).alloc (.cells #[.int .i64 0,.int .i64 0,.int .i64 0,.slice none 0 0] 49))=W:=⟨_,rfl⟩
  have hb1:bs (s.extract 1 s.size)=r:=by rw [uT,hbs];rfl
  have hsz1:(s.extract 1 s.size).size=r.length:=by rw [<-vA,hb1]
  have hnd:rW (s.extract 1 s.size)=pC r.length r:=by unfold rW;rw [hb1,hsz1]
  have h111:=rH (s.extract 1 s.size) (by omega) W
  have hbyte:=xH s 0 h0
  have hblt:=tV s 0
  obtain⟨k,hk⟩ : ∃k,yI s 0=k:=⟨_,rfl⟩
  rw [hk] at hbs hbyte hblt hkk
  have HKK:=zZ hkk
  clear hkk
  rw [hW] at t0 t1 HFW
  have H111:=zZ h111
  have HW:=zZ hW
  have T0:=zZ t0
  have T1:=zZ t1
  have HBS:=zZ hbs
  have HND:=zZ hnd
  have hi1:(1:Int)<=(s.size:Int):=by omega
  have hne:=qI h0
  clear h111 hW t0 t1 hbs hnd hb1 hsz1 hrl
  go_enter Tryz.func77,Tryz.ntmps77
  go_wp2_with fail
  rw [zY HW]
  go_at_call 111
  refine(zY H111).mono ?_
  rintro e w1 ⟨f1,hm⟩
  rw [zY HND] at hm
  have hf1:=(zY HFW).trans f1
  have x0:=(f1.same _ (zN.1 (zY T0)).1 (fun h=>h)).trans (zY T0)
  have x1:=(f1.same _ (zN.1 (zY T1)).1 (fun h=>h)).trans (zY T1)
  have hz1:w.heap.size+1<w1.heap.size:=(zN.1 x1).1
  have c0:=fun j=>cell_of_row w1 _ j _ 49 (0,0) x0
  have c1:=fun j=>cell_of_row w1 _ j _ 49 (0,0) x1
  have z0:=fun j=>yB x0 j
  have z1:=fun j=>yB x1 j
  have HF1:=zZ hf1
  have X0:=zZ x0
  have X1:=zZ x1
  have HWW:=zZ f1.size
  have HWZ:=zZ (show W.heap.size=w.heap.size+2 by rw [<-zY HW];simp)
  clear f1 hf1 x0 x1 HFW T0 T1 H111
  cases hns:pC r.length r with
  | none=>
   rw [hns] at hm
   have hm':e=.returned (.tuple #[.slice none 0 0,.bool false]):=hm
   subst hm'
   have hip:=zZ (qC (zY HBS) hns)
   clear hm hns
   go_wp2
   refine bodyPost_ret (v:=.tuple #[.agg #[.int .i64 0,.int .i64 0,.int .i64 0,.slice none 0 0],.bool false]) (by simp [results,Tryz.results77,go_sem,c0]) rfl ?_
   refine yZ (zY hip) ?_
   repeat (first | exact zY HF1 | refine Fr.setCell ?_ _ _ (.inr (Nat.le_refl _)))
  | some ns=>
   rw [hns] at hm
   obtain⟨hnl,v,he,ho⟩:=hm
   have hnl:ns.length<=200:=by
     have h:(s.extract 1 s.size).size<=s.size:=by simp [ByteArray.size_extract]
     omega
   subst he
   obtain⟨va,vc,rfl⟩:=xP ho
   rw [xM]
   rw [xM] at ho
   cases ns with
   | nil=>
    have hip:=zZ (xN (zY HBS) hns rfl)
    clear hns ho hnl
    go_wp2
    refine bodyPost_ret (v:=.tuple #[.agg #[.int .i64 0,.int .i64 0,.int .i64 0,.slice none 0 0],.bool false]) (by simp [results,Tryz.results77,go_sem,c0]) rfl ?_
    refine yZ (zY hip) ?_
    repeat (first | exact zY HF1 | refine Fr.setCell ?_ _ _ (.inr (Nat.le_refl _)))
   | cons a t=>
    obtain⟨g,cap,cur,hv,hg1,hg2,hg3,hg4,hg5,hg6⟩:=xJ ho (by simp [zs])
    injection hv with hv1 hv2 hv3
    subst hv1 hv3
    have hgz:g<w1.heap.size:=(zN.1 hg2).1
    have hg1':w.heap.size+1<g:=by have:=zY HWZ;omega
    have l0:w1.cell? ⟨g,0,none⟩=some (.int .i64 (a:Nat)):=by have:=hg6 0 (by simp [zs]);simpa [zs] using this
    have HG6:=zZ hg6
    have HNS:=zZ hns
    have hlen:(a::t).length=t.length+1:=rfl
    rw [hlen]
    have htl:t.length<=200:=by
      have:(a::t).length<=200:=by omega
      simpa using Nat.le_of_succ_le this
    have ht0:(0:Int)<(t.length:Int)+1:=by omega
    have hkc:((s[0]'h0).toNat:Int)=(k:Int):=by rw [hbyte]
    clear hg6 hg5 hg4 hg2 hns ho hv2 hlen hbyte
    have y1:=yD w1 (w.heap.size+1) 0 _ 49 (.int .i64 (k:Int)) (zY X1)
    have y0:(w1.setCell ⟨w.heap.size+1,0,none⟩ (.int .i64 (k:Int))).heap[w.heap.size]?=_:=(zQ w1 ⟨w.heap.size+1,0,none⟩ (.int .i64 (k:Int)) w.heap.size (by simp)).trans (zY X0)
    have yl:(w1.setCell ⟨w.heap.size+1,0,none⟩ (.int .i64 (k:Int))).heap[g]?=w1.heap[g]?:=zQ w1 ⟨w.heap.size+1,0,none⟩ (.int .i64 (k:Int)) g (by simp;omega)
    have hfy:=(zY HF1).setCell ⟨w.heap.size+1,0,none⟩ (.int .i64 (k:Int)) (.inr (by simp))
    have hyz:(w1.setCell ⟨w.heap.size+1,0,none⟩ (.int .i64 (k:Int))).heap.size=w1.heap.size:=by simp [World.setCell]
    go_upto_region 9 with fail
    generalize hw2:w1.setCell ⟨w.heap.size+1,0,none⟩ (.int .i64 (k:Int))=w2 at *
    have lc:∀j,j<t.length+1->w2.cell? ⟨g,j,none⟩=some (.int .i64 ((a::t).getD j 0:Nat)):=fun j hj=>by
     rw [yW yl]
     have h:=zY HG6 j (by rw [xM];exact hj)
     rw [h,mM]
    have c0:=fun j=>cell_of_row w2 _ j _ 49 (0,0) y0
    have c1:=fun j=>cell_of_row w2 _ j _ 49 (0,0) y1
    have z1:=fun j=>yB y1 j
    have z0:=fun j=>yB y0 j
    have l0:=lc 0 (by omega)
    have LC:=zZ lc
    have Y0:=zZ y0
    have Y1:=zZ y1
    have HFY:=zZ hfy
    have hz2:w.heap.size+1<w2.heap.size:=by omega
    have hg2:g<w2.heap.size:=by omega
    clear y0 y1 yl hfy hyz hw2 lc X0 X1 HF1 HG6 hz1 hgz hg1 HWW
    have hkk:=zY HKK
    subst hkk
    rcases t with _ | ⟨b,_ | ⟨b2,t⟩⟩
    ·have HIP:=zZ (xN (zY HBS) (zY HNS) (by simp only [xV];rw [if_neg (by decide),if_neg (by decide),if_neg (by decide),if_pos trivial]))
     go_wp2
     refine bodyPost_ret (v:=.tuple #[.agg #[.int .i64 4,.int .i64 0,.int .i64 0,.slice none 0 0],.bool false]) (by simp [results,Tryz.results77,go_sem,c0]) rfl ?_
     refine yZ (zY HIP) ?_
     repeat (first | exact zY HFY | refine Fr.setCell ?_ _ _ (.inr (Nat.le_refl _)))
    ·have l1:w2.cell? ⟨g,1,none⟩=some (.int .i64 (b:Nat)):=zY LC 1 (by simp)
     by_cases hba:b<a
     ·have hbi:(b:Int)<(a:Int):=by omega
      by_cases h8:a<=1000000
      ·have h8i:(a:Int)<=1000000:=by omega
       have hcd:xV 4 [a,b]=some (4,a,b,[]):=by simp only [xV];rw [if_neg (by decide),if_neg (by decide),if_neg (by decide),if_pos trivial,if_pos ⟨hba,h8⟩]
       have hbd:=fun W=>jN 4 a b (.slice none 0 0) none 0 0 rfl (.inr rfl) (by omega) (by omega) W
       go_upto_region 32 with fail
       have p1:=yD w2 (w.heap.size+1) 1 _ 49 (.int .i64 (a:Int)) (zY Y1)
       have q1:=yD _ (w.heap.size+1) 2 _ 49 (.int .i64 (b:Int)) p1
       have q0:((w2.setCell ⟨w.heap.size+1,1,none⟩ (.int .i64 (a:Int))).setCell ⟨w.heap.size+1,2,none⟩ (.int .i64 (b:Int))).heap[w.heap.size]?=_:=(zQ (w2.setCell ⟨w.heap.size+1,1,none⟩ (.int .i64 (a:Int))) ⟨w.heap.size+1,2,none⟩ (.int .i64 (b:Int)) w.heap.size (by simp)).trans ((zQ w2 ⟨w.heap.size+1,1,none⟩ (.int .i64 (a:Int)) w.heap.size (by simp)).trans (zY Y0))
       have qf:=((zY HFY).setCell ⟨w.heap.size+1,1,none⟩ (.int .i64 (a:Int)) (.inr (by simp))).setCell ⟨w.heap.size+1,2,none⟩ (.int .i64 (b:Int)) (.inr (by simp))
       clear p1
       generalize hw3:(w2.setCell ⟨w.heap.size+1,1,none⟩ (.int .i64 (a:Int))).setCell ⟨w.heap.size+1,2,none⟩ (.int .i64 (b:Int))=w3 at *
       have d0:=fun j=>cell_of_row w3 _ j _ 49 (0,0) q0
       have d1:=fun j=>cell_of_row w3 _ j _ 49 (0,0) q1
       have u0:=fun j=>yB q0 j
       have HFQ:=zZ qf
       have hz3:w.heap.size+1<w3.heap.size:=(zN.1 q1).1
       clear c0 c1 z1 z0 q0 q1 qf hw3
       obtain⟨B,hB⟩ : ∃B,yY 4 a b=B:=⟨_,rfl⟩
       have hpc:=qB (zY HBS) (zY HNS) hcd (b:=B) (by rw [<-hB];exact nD 4 a b [] (.inr rfl))
       rw [hB] at hbd
       have HBD:=zZ hbd
       clear hbd hB
       by_cases hBs:B=s
       ·have hip:=zZ (hpc.1 hBs)
        clear hpc
        subst hBs
        go_region_held3 (fun w'=>w'.cell? ⟨w.heap.size+1,0,none⟩=some (.int .i64 (4))/\w'.cell? ⟨w.heap.size+1,1,none⟩=some (.int .i64 (a:Nat))/\w'.cell? ⟨w.heap.size+1,2,none⟩=some (.int .i64 (b:Nat))/\w'.cell? ⟨w.heap.size+1,3,none⟩=some (.slice none 0 0)) (first | (simp [go_sem,d1];done) | (simp [go_sem,g1];done)) (first | (go_at_call 112;refine(zY HBD _).mono ?_;rintro e w4 ⟨rfl,f4⟩;have g0:=fun j=>(f4.cell w.heap.size j (by simp;omega) (fun h=>h)).trans (d0 j);have g1:=fun j=>(f4.cell (w.heap.size+1) j (by simp;omega) (fun h=>h)).trans (d1 j);have v0:=fun j=>(f4.frozen w.heap.size j (by simp;omega) (fun h=>h)).trans (u0 j);have HF4:=zZ ((zY HFQ).trans (show Fr (fun _=>False) w3 w4 (fun _=>False) from ⟨f4.os,f4.tape,f4.output,f4.size,f4.same,f4.old⟩));clear f4))
        all_goals
         go_wp2_with fail
         refine bodyPost_ret (v:=.tuple #[.agg #[.int .i64 (4),.int .i64 (a:Nat),.int .i64 (b:Nat),.slice none 0 0],.bool true]) (by simp [results,Tryz.results77,go_sem,g0]) rfl ?_
         refine kF (x:=(4,a,b,[])) (zY hip) ?_ ?_
         ·repeat (first | exact zY HF4 | refine Fr.drew ?_ | refine Fr.setCell ?_ _ _ (.inr (Nat.le_refl _)))
         ·exact⟨none,0,rfl,.inl rfl⟩
       ·have hip:=zZ (hpc.2 hBs)
        have hbq:=oV hBs
        clear hpc hBs
        go_region_held3 (fun w'=>w'.cell? ⟨w.heap.size+1,0,none⟩=some (.int .i64 (4))/\w'.cell? ⟨w.heap.size+1,1,none⟩=some (.int .i64 (a:Nat))/\w'.cell? ⟨w.heap.size+1,2,none⟩=some (.int .i64 (b:Nat))/\w'.cell? ⟨w.heap.size+1,3,none⟩=some (.slice none 0 0)) (first | (simp [go_sem,d1];done) | (simp [go_sem,g1];done)) (first | (go_at_call 112;refine(zY HBD _).mono ?_;rintro e w4 ⟨rfl,f4⟩;have g0:=fun j=>(f4.cell w.heap.size j (by simp;omega) (fun h=>h)).trans (d0 j);have g1:=fun j=>(f4.cell (w.heap.size+1) j (by simp;omega) (fun h=>h)).trans (d1 j);have v0:=fun j=>(f4.frozen w.heap.size j (by simp;omega) (fun h=>h)).trans (u0 j);have HF4:=zZ ((zY HFQ).trans (show Fr (fun _=>False) w3 w4 (fun _=>False) from ⟨f4.os,f4.tape,f4.output,f4.size,f4.same,f4.old⟩));clear f4))
        all_goals
         go_wp2_with fail
         refine bodyPost_ret (v:=.tuple #[.agg #[.int .i64 (4),.int .i64 (a:Nat),.int .i64 (b:Nat),.slice none 0 0],.bool false]) (by simp [results,Tryz.results77,go_sem,g0,hbq]) rfl ?_
         refine yZ (zY hip) ?_
         repeat (first | exact zY HF4 | refine Fr.drew ?_ | refine Fr.setCell ?_ _ _ (.inr (Nat.le_refl _)))
      ·have h8i:¬(a:Int)<=1000000:=by omega
       have HIP:=zZ (xN (zY HBS) (zY HNS) (by simp only [xV];rw [if_neg (by decide),if_neg (by decide),if_neg (by decide),if_pos trivial,if_neg (fun h=>h8 h.2)]))
       go_upto_region 32 with fail
       have p1:=yD w2 (w.heap.size+1) 1 _ 49 (.int .i64 (a:Int)) (zY Y1)
       have q1:=yD _ (w.heap.size+1) 2 _ 49 (.int .i64 (b:Int)) p1
       have q0:((w2.setCell ⟨w.heap.size+1,1,none⟩ (.int .i64 (a:Int))).setCell ⟨w.heap.size+1,2,none⟩ (.int .i64 (b:Int))).heap[w.heap.size]?=_:=(zQ (w2.setCell ⟨w.heap.size+1,1,none⟩ (.int .i64 (a:Int))) ⟨w.heap.size+1,2,none⟩ (.int .i64 (b:Int)) w.heap.size (by simp)).trans ((zQ w2 ⟨w.heap.size+1,1,none⟩ (.int .i64 (a:Int)) w.heap.size (by simp)).trans (zY Y0))
       have qf:=((zY HFY).setCell ⟨w.heap.size+1,1,none⟩ (.int .i64 (a:Int)) (.inr (by simp))).setCell ⟨w.heap.size+1,2,none⟩ (.int .i64 (b:Int)) (.inr (by simp))
       clear p1
       generalize hw3:(w2.setCell ⟨w.heap.size+1,1,none⟩ (.int .i64 (a:Int))).setCell ⟨w.heap.size+1,2,none⟩ (.int .i64 (b:Int))=w3 at *
       have d0:=fun j=>cell_of_row w3 _ j _ 49 (0,0) q0
       have d1:=fun j=>cell_of_row w3 _ j _ 49 (0,0) q1
       have u0:=fun j=>yB q0 j
       have HFQ:=zZ qf
       have hz3:w.heap.size+1<w3.heap.size:=(zN.1 q1).1
       clear c0 c1 z1 z0 q0 q1 qf hw3
       go_region
       all_goals
        go_wp2_with fail
        refine bodyPost_ret (v:=.tuple #[.agg #[.int .i64 (4),.int .i64 (a:Nat),.int .i64 (b:Nat),.slice none 0 0],.bool false]) (by simp [results,Tryz.results77,go_sem,d0]) rfl ?_
        refine yZ (zY HIP) ?_
        repeat (first | exact zY HFQ | refine Fr.drew ?_ | refine Fr.setCell ?_ _ _ (.inr (Nat.le_refl _)))
     ·have hbi:¬(b:Int)<(a:Int):=by omega
      have HIP:=zZ (xN (zY HBS) (zY HNS) (by simp only [xV];rw [if_neg (by decide),if_neg (by decide),if_neg (by decide),if_pos trivial,if_neg (fun h=>hba h.1)]))
      go_upto_region 32 with fail
      have p1:=yD w2 (w.heap.size+1) 1 _ 49 (.int .i64 (a:Int)) (zY Y1)
      have q1:=yD _ (w.heap.size+1) 2 _ 49 (.int .i64 (b:Int)) p1
      have q0:((w2.setCell ⟨w.heap.size+1,1,none⟩ (.int .i64 (a:Int))).setCell ⟨w.heap.size+1,2,none⟩ (.int .i64 (b:Int))).heap[w.heap.size]?=_:=(zQ (w2.setCell ⟨w.heap.size+1,1,none⟩ (.int .i64 (a:Int))) ⟨w.heap.size+1,2,none⟩ (.int .i64 (b:Int)) w.heap.size (by simp)).trans ((zQ w2 ⟨w.heap.size+1,1,none⟩ (.int .i64 (a:Int)) w.heap.size (by simp)).trans (zY Y0))
      have qf:=((zY HFY).setCell ⟨w.heap.size+1,1,none⟩ (.int .i64 (a:Int)) (.inr (by simp))).setCell ⟨w.heap.size+1,2,none⟩ (.int .i64 (b:Int)) (.inr (by simp))
      clear p1
      generalize hw3:(w2.setCell ⟨w.heap.size+1,1,none⟩ (.int .i64 (a:Int))).setCell ⟨w.heap.size+1,2,none⟩ (.int .i64 (b:Int))=w3 at *
      have d0:=fun j=>cell_of_row w3 _ j _ 49 (0,0) q0
      have d1:=fun j=>cell_of_row w3 _ j _ 49 (0,0) q1
      have u0:=fun j=>yB q0 j
      have HFQ:=zZ qf
      have hz3:w.heap.size+1<w3.heap.size:=(zN.1 q1).1
      clear c0 c1 z1 z0 q0 q1 qf hw3
      go_region
      all_goals
       go_wp2_with fail
       refine bodyPost_ret (v:=.tuple #[.agg #[.int .i64 (4),.int .i64 (a:Nat),.int .i64 (b:Nat),.slice none 0 0],.bool false]) (by simp [results,Tryz.results77,go_sem,d0]) rfl ?_
       refine yZ (zY HIP) ?_
       repeat (first | exact zY HFQ | refine Fr.drew ?_ | refine Fr.setCell ?_ _ _ (.inr (Nat.le_refl _)))
    ·have hq2:¬(t.length:Int)+1+1+1=2:=by omega
     have HIP:=zZ (xN (zY HBS) (zY HNS) (by simp only [xV];rw [if_neg (by decide),if_neg (by decide),if_neg (by decide),if_pos trivial]))
     go_wp2
     refine bodyPost_ret (v:=.tuple #[.agg #[.int .i64 4,.int .i64 0,.int .i64 0,.slice none 0 0],.bool false]) (by simp [results,Tryz.results77,go_sem,c0]) rfl ?_
     refine yZ (zY HIP) ?_
     repeat (first | exact zY HFY | refine Fr.setCell ?_ _ _ (.inr (Nat.le_refl _)))
theorem dQ (s:ByteArray) (hs:s.size<=100) (w:World):Calls Tryz.prog 77 #[.string s] w (qQ s w):=by
 by_cases h0:0<s.size
 ·by_cases h1:yI s 0=1
  ·exact zY3 s hs w h0 h1
  by_cases h2:yI s 0=2
  ·exact zY4 s hs w h0 h2
  by_cases h3:yI s 0=3
  ·exact zY5 s hs w h0 h3
  by_cases h4:yI s 0=4
  ·exact zY6 s hs w h0 h4
  by_cases h5:yI s 0=5
  ·exact zY7 s hs w h0 h5
  exact zY2 s hs w h0 ⟨h1,h2,h3,h4,h5⟩
 ·have hfw:Fr (fun _=>False) w ((w.alloc (.cells #[.int .i64 0,.int .i64 0,.int .i64 0,.slice none 0 0] 49)).alloc (.cells #[.int .i64 0,.int .i64 0,.int .i64 0,.slice none 0 0] 49)) (fun _=>False):=((Fr.refl _ _).alloc _).alloc _
  have HFW:=zZ hfw
  clear hfw
  cases nL h0
  have hip:=zZ (show ipL (bs ⟨#[]⟩)=none from rfl)
  go_enter Tryz.func77,Tryz.ntmps77
  go_wp2
  refine bodyPost_ret (v:=.tuple #[.agg #[.int .i64 0,.int .i64 0,.int .i64 0,.slice none 0 0],.bool false]) (by simp [results,Tryz.results77,go_sem]) rfl ?_
  refine yZ (zY hip) ?_
  repeat (first | exact zY HFW | refine Fr.setCell ?_ _ _ (.inr (Nat.le_refl _)))
theorem mL {ops:Array Oper} {rest:List Oper} {o:Oper} {a:Act} {Q:Exit->Act->World->Prop} {w:World} {B t e size bytes:Nat} (E:mU t e size bytes) (hs0:0<size) (hs1:bytes<=100) {v:Value} {n m:Nat} {xs news:List Value} (hgd:o.guard=none) (sv xv:Operand)
  (ho:o.op=.call {callee:=.builtin .append,args:=#[sv,xv],argTypes:=#[t,t]}) {ad:Addr} {cap:Nat} (hs:a.eval sv=v) (hx:a.eval xv=.slice (some ad) m cap) (hrow:w.ownsRow B e size v n xs) (hl:news.length=m*size)
  (hc:∀j u,news[j]?=some u->w.cell? (ad.add j)=some u) (h1:∀u∈news,u.oneCell'=true) (hm:0<m) (hn:n+m<=1000000000000) (hB:B<=w.heap.size)
  (h:∀v' w',w'.ownsRow B e size v' (n+m) (xs++news)->Fr (own v) w w' (own v')->(∃a c,v'=.slice a (n+m) c)->wpList Tryz.prog ops Q rest (a.put o.dst v') w'):wpList Tryz.prog ops Q (o::rest) a w:=by
 obtain⟨i,z,hi,hz,hsz,hby,hzc⟩:=E.i
 have hmx:n+m<=maxLen:=by simp only [maxLen];omega
 have hbb:(n+m)*bytes<=140737488355328:=Nat.le_trans (Nat.mul_le_mul hn hs1) (by omega)
 refine wpList_append_lies _ hgd sv xv t ho B e i z size bytes E.u hi hz hsz hby hzc hs0 v n xs hs hrow ad m cap news hx hl hc h1 hm hmx hbb hB w.heap.size rfl ?_
 intro g cp w' h1 h2 h3 h4
 exact h _ w' h1 (jU h2 h3) ⟨_,_,rfl⟩
theorem iD (hpd:∀(b:ByteArray),b.size<=100->∀W,Calls Tryz.prog 77 #[.string b] W (qQ b W)) (s:ByteArray) (hs:s.size<=1000000000) (w:World):Calls Tryz.prog 43 #[.string s] w (iN s w):=by
 have HPD:=zZ hpd
 clear hpd
 by_cases h3:s.size<3
 ·have h3i:(s.size:Int)<3:=by omega
  have hn0:(0:Int)<=(s.size:Int):=by omega
  have hn3:(s.size:Int)<=3:=by omega
  have hnp:¬hd3 <+: bs s:=fun h=>by have:=h.length_le;rw [vA] at this;have e3:hd3.length=3:=rfl;omega
  obtain⟨T,hT⟩ : ∃T,(⟨#[82,82,49]⟩ : ByteArray).extract 0 s.size=T:=⟨_,rfl⟩
  have hbT:bs T=hd3.take s.size:=by rw [<-hT,nZ,List.drop_zero];rfl
  by_cases hh:s=T
  ·have hrd:yS (bs s)=([],0,2):=by unfold yS;rw [if_neg hnp,if_pos (by rw [hh,hbT];exact List.take_prefix _ _)]
   have HP:Hid (iN s w (.returned (.tuple #[.slice none 0 0,.int .i64 0,.int .i64 2])) w):=⟨none,0,[],by rw [hrd];rfl,oX.nil _ _,by rw [hrd];rfl,Fr.refl _ _⟩
   have hq:(s.toList==T.toList)=true:=by rw [hh];simp
   have hq':s.toList=T.toList:=by rw [hh]
   clear hnp hrd hh hbT
   go_enter Tryz.func43,Tryz.ntmps43
   go_wp2
   exact bodyPost_ret (v:=.tuple #[.slice none 0 0,.int .i64 0,.int .i64 2]) (by simp [results,Tryz.results43,go_sem]) rfl (zY HP)
  ·have hrd:yS (bs s)=([],0,4):=by
    unfold yS
    rw [if_neg hnp,if_neg (fun h=>hh (eJ (by
     rw [hbT]
     have h1:=List.prefix_iff_eq_take.1 h
     rw [vA] at h1
     exact h1)))]
   have HP:Hid (iN s w (.returned (.tuple #[.slice none 0 0,.int .i64 0,.int .i64 4])) w):=⟨none,0,[],by rw [hrd];rfl,oX.nil _ _,by rw [hrd];rfl,Fr.refl _ _⟩
   have hq:(s.toList==T.toList)=false:=by simpa using oV hh
   have hq':=oV hh
   clear hnp hrd hh hbT
   go_enter Tryz.func43,Tryz.ntmps43
   go_wp2
   exact bodyPost_ret (v:=.tuple #[.slice none 0 0,.int .i64 0,.int .i64 4]) (by simp [results,Tryz.results43,go_sem]) rfl (zY HP)
 have h3i:¬(s.size:Int)<3:=by omega
 have h3j:(3:Int)<=(s.size:Int):=by omega
 by_cases hh:s.extract 0 3=⟨#[82,82,49]⟩
 ·have hhd:hd3 <+: bs s:=by
   refine⟨(bs s).drop 3,?_⟩
   have h:=congrArg bs hh
   rw [nZ,List.drop_zero] at h
   have e2:bs ⟨#[82,82,49]⟩=hd3:=rfl
   rw [e2] at h
   rw [<-h];exact List.take_append_drop 3 (bs s)
  have hst:DRel s w (.slice none 0 0) (.int .i64 3) w:=⟨3,s.size+1,none,0,[],rfl,rfl,Nat.le_refl _,by omega,Nat.zero_le _,by omega,oX.nil _ _,Fr.refl _ _,by
   unfold yS;rw [if_pos hhd,vA];rfl⟩
  have HST:=zZ hst
  have hq:(s.extract 0 3).toList=[82,82,49]:=by rw [hh,Go.ByteArray.toList_eq]
  clear hst hhd hh
  go_enter Tryz.func43,Tryz.ntmps43
  go_wp2
  go_loopw [6,7] (fun u6 u7 wr=>DRel s w u6 u7 wr) (fun _ u7 _=>s.size-(intOf u7).toNat)
  case atStart=>exact zY HST
  case round=>
   obtain⟨at_,f,a,c,ps,rfl,rfl,ha3,has,hpl,hfa,hdi,hfr,hrd⟩:=hrel
   have HDI:=zZ hdi
   have HFR:=zZ hfr
   have HRD:=zZ hrd
   clear hdi hfr hrd HST
   by_cases hlt:at_<s.size
   ·have hlti:(at_:Int)<(s.size:Int):=by omega
    have hai:(0:Int)<=(at_:Int):=by omega
    have e0:=xH s at_ hlt
    have hb:=tV s at_
    have hdr:=aQ s at_ hlt
    obtain⟨n,hn⟩ : ∃n,yI s at_=n:=⟨_,rfl⟩
    rw [hn] at e0 hb hdr
    have hbn:((s[at_]'hlt).toNat:Int)=(n:Int):=by rw [e0]
    obtain⟨f,rfl⟩ : ∃g,f=g+1:=⟨f-1,by omega⟩
    obtain⟨t,ht⟩ : ∃t,(bs s).drop (at_+1)=t:=⟨_,rfl⟩
    have htl:t.length+at_+1=s.size:=by rw [<-ht,List.length_drop,vA];omega
    rw [ht] at hdr
    have HDR:=zZ hdr
    have HT:=zZ ht
    have hw1:IntKind.i64.wrap ((at_:Int)+1)=(at_:Int)+1:=by rw [IntKind.wrap_i64];omega
    have post:=fun wy (h:rcL (n::t)=.inl wy)=>zB8 (zY HRD) (by rw [zY HDR];exact yJ0 f (n::t) at_ wy h) (zY HDI) (zY HFR)
    have POST:=zZ post
    have postW:=fun (W:World) (hW:Fr (fun _=>False) wr W (fun _=>False)) wy (h:rcL (n::t)=.inl wy)=>zB8 (zY HRD) (by rw [zY HDR];exact yJ0 f (n::t) at_ wy h) ((zY HDI).fr hW) ((zY HFR).trans hW)
    have POSTW:=zZ postW
    clear postW
    clear e0 hdr ht post hn
    by_cases hlo:n<1
    ·have hloi:(n:Int)<1:=by omega
     have h128:¬(128:Int)<=(n:Int):=by omega
     have HP:=zZ (zY POST 4 (by simp only [rcL];rw [if_neg (by omega),if_pos (.inl hlo)]))
     go_wp2
     exact bodyPost_ret (v:=.tuple #[.slice a ps.length c,.int .i64 at_,.int .i64 4]) (by simp [results,Tryz.results43,go_sem]) rfl (zY HP)
    have hloi:¬(n:Int)<1:=by omega
    by_cases hhi:40<n
    ·have hhii:(40:Int)<(n:Int):=by omega
     by_cases h128:128<=n
     ·have h128i:(128:Int)<=(n:Int):=by omega
      by_cases hte:t=[]
      ·have hz:((at_:Int)+1==(s.size:Int))=true:=by
        rw [hte] at htl
        have:(at_:Int)+1=(s.size:Int):=by simp at htl;omega
        simpa using this
       have HP:=zZ (zY POST 2 (by simp only [rcL];rw [if_pos ⟨h128,hte⟩]))
       clear hte
       go_wp2
       exact bodyPost_ret (v:=.tuple #[.slice a ps.length c,.int .i64 at_,.int .i64 2]) (by simp [results,Tryz.results43,go_sem]) rfl (zY HP)
      ·have hz:((at_:Int)+1==(s.size:Int))=false:=by
        have:t.length≠0:=fun e=>hte (List.eq_nil_of_length_eq_zero e)
        have:¬(at_:Int)+1=(s.size:Int):=by omega
        simpa using this
       have HP:=zZ (zY POST 4 (by simp only [rcL];rw [if_neg (fun h=>hte h.2),if_pos (.inr hhi)]))
       clear hte
       go_wp2
       exact bodyPost_ret (v:=.tuple #[.slice a ps.length c,.int .i64 at_,.int .i64 4]) (by simp [results,Tryz.results43,go_sem]) rfl (zY HP)
     ·have h128i:¬(128:Int)<=(n:Int):=by omega
      have HP:=zZ (zY POST 4 (by simp only [rcL];rw [if_neg (fun h=>h128 h.1),if_pos (.inr hhi)]))
      go_wp2
      exact bodyPost_ret (v:=.tuple #[.slice a ps.length c,.int .i64 at_,.int .i64 4]) (by simp [results,Tryz.results43,go_sem]) rfl (zY HP)
    have hhii:¬(40:Int)<(n:Int):=by omega
    have hc1:¬(128<=n/\t=[]):=by omega
    have hc2:¬(n<1\/40<n):=by omega
    have hw2:IntKind.i64.wrap ((at_:Int)+1+(n:Int))=(at_:Int)+1+(n:Int):=by rw [IntKind.wrap_i64];omega
    have hw3:IntKind.i64.wrap ((at_:Int)+1+(n:Int)+4)=(at_:Int)+1+(n:Int)+4:=by rw [IntKind.wrap_i64];omega
    by_cases hsh:t.length<n+4
    ·have hshi:(s.size:Int)<(at_:Int)+1+(n:Int)+4:=by omega
     have HP:=zZ (zY POST 2 (by simp only [rcL];rw [if_neg hc1,if_neg hc2,if_pos hsh]))
     go_wp2
     exact bodyPost_ret (v:=.tuple #[.slice a ps.length c,.int .i64 at_,.int .i64 2]) (by simp [results,Tryz.results43,go_sem]) rfl (zY HP)
    have hshi:¬(s.size:Int)<(at_:Int)+1+(n:Int)+4:=by omega
    have hw5:IntKind.i64.wrap ((at_:Int)+5)=(at_:Int)+5:=by rw [IntKind.wrap_i64];omega
    have hw6:IntKind.i64.wrap ((at_:Int)+5+(n:Int))=(at_:Int)+5+(n:Int):=by rw [IntKind.wrap_i64];omega
    have t1:((at_:Int)+1).toNat=at_+1:=by omega
    have t2:((at_:Int)+1+(n:Int)).toNat=at_+1+n:=by omega
    have t3:((at_:Int)+5+(n:Int)).toNat=at_+5+n:=by omega
    have i1:(0:Int)<=(at_:Int)+1:=by omega
    have i2:(at_:Int)+1<=(at_:Int)+1+(n:Int):=by omega
    have i3:(at_:Int)+1+(n:Int)<=(s.size:Int):=by omega
    have i4:(0:Int)<=(at_:Int)+1+(n:Int):=by omega
    have i5:(at_:Int)+1+(n:Int)<=(at_:Int)+5+(n:Int):=by omega
    have i6:(at_:Int)+5+(n:Int)<=(s.size:Int):=by omega
    obtain⟨b,hbb⟩ : ∃b,s.extract (at_+1) (at_+1+n)=b:=⟨_,rfl⟩
    obtain⟨m,hmm⟩ : ∃m,s.extract (at_+1+n) (at_+5+n)=m:=⟨_,rfl⟩
    have bb:bs b=t.take n:=by
     rw [<-hbb,nZ,<-zY HT,List.drop_take];congr 1;omega
    have bm:bs m=(t.drop n).take 4:=by
     rw [<-hmm,nZ,<-zY HT,List.drop_take,List.drop_drop];congr 1;omega
    have bz:b.size<=40:=by rw [<-vA,bb,List.length_take];omega
    have H76:=zZ (fun W=>zT6 b (by omega) W)
    have BB:=zZ bb
    have hsum:(sm (t.take n)=(t.drop n).take 4)↔m=oG b:=by
     rw [<-bb,yK0,<-bm]
     exact⟨fun h=>eJ h.symm,fun h=>by rw [h]⟩
    have HSUM:=zZ hsum
    obtain⟨S,hS⟩ : ∃S,oG b=S:=⟨_,rfl⟩
    rw [hS] at H76 HSUM
    clear bb bm hsum hS
    by_cases hms:m=S
    ·have hrc:rcL (n::t)=match ipL (t.take n) with
       | none=>.inl 4
       | some x=>.inr (x,n+5):=by
      simp only [rcL];rw [if_neg hc1,if_neg hc2,if_neg hsh,if_neg (fun h=>h ((zY HSUM).2 hms))]
      cases ipL (t.take n)<;>rfl
     rw [<-zY BB] at hrc
     have HRC:=zZ hrc
     have hq:m.toList=S.toList:=by rw [hms]
     clear hms hrc
     go_wp2_with fail
     go_region_with (go_at_call 76;refine(zY H76 _).mono ?_;rintro e w1 ⟨rfl,f1⟩;have F1:=zZ (show Fr (fun _=>False) wr w1 (fun _=>False) from ⟨f1.os,f1.tape,f1.output,f1.size,f1.same,f1.old⟩);clear f1)
     all_goals
      go_wp2_with fail
      go_at_call 77
      refine(zY HPD b (by omega) _).mono ?_
      rintro e w2 ⟨f2,hm⟩
      have f2':Fr (fun _=>False) w1 w2 (fun _=>False):=⟨f2.os,f2.tape,f2.output,f2.size,f2.same,f2.old⟩
      have f12:=(zY F1).trans f2'
      cases hip:ipL (bs b) with
      | none=>
       rw [hip] at hm
       obtain⟨x1,x2,x3,fa,fn,fc,rfl⟩:=hm
       have hrc:=zY HRC
       rw [hip] at hrc
       have HP:=zZ (zY POSTW (w2.alloc (.cells #[.int .i64 x1,.int .i64 x2,.int .i64 x3,.slice fa fn fc] 49)) (f12.alloc _) 4 hrc)
       clear hip hrc f12 f2 f2'
       go_wp2
       exact bodyPost_ret (v:=.tuple #[.slice a ps.length c,.int .i64 at_,.int .i64 4]) (by simp [results,Tryz.results43,go_sem]) rfl (zY HP)
      | some x=>
       rw [hip] at hm
       obtain⟨fv,rfl,hints⟩:=hm
       have hrc:=zY HRC
       rw [hip] at hrc
       obtain⟨xk,xo,xn,xf⟩:=x
       obtain⟨fa,fc,hfv,_⟩:=id hints
       simp only at hfv
       subst hfv
       have hlow:∀q,own (.slice a ps.length c) q->q<wr.heap.size:=fun q hq=>(zS (zY HDI).row q hq).2
       have hz12:wr.heap.size<=w1.heap.size:=(zY F1).size
       have hz22:w1.heap.size<=w2.heap.size:=f2'.size
       have f14:Fr (fun _=>False) wr ((w2.alloc (.cells #[.int .i64 (xk:Nat),.int .i64 (xo:Nat),.int .i64 (xn:Nat),.slice fa (zs xf).length fc] 49)).alloc (.cells #[.int .i64 (xk:Nat),.int .i64 (xo:Nat),.int .i64 (xn:Nat),.slice fa (zs xf).length fc] 49)) (fun _=>False):=(f12.alloc _).alloc _
       have d4:=(zY HDI).fr f14
       have hB:w.heap.size<=wr.heap.size:=(zY HFR).size
       have i4:yJ ((w2.alloc (.cells #[.int .i64 (xk:Nat),.int .i64 (xo:Nat),.int .i64 (xn:Nat),.slice fa (zs xf).length fc] 49)).alloc (.cells #[.int .i64 (xk:Nat),.int .i64 (xo:Nat),.int .i64 (xn:Nat),.slice fa (zs xf).length fc] 49)) (.slice fa (zs xf).length fc) (zs xf) (fun q=>w.heap.size<=q/\q<((w2.alloc (.cells #[.int .i64 (xk:Nat),.int .i64 (xo:Nat),.int .i64 (xn:Nat),.slice fa (zs xf).length fc] 49)).alloc (.cells #[.int .i64 (xk:Nat),.int .i64 (xo:Nat),.int .i64 (xn:Nat),.slice fa (zs xf).length fc] 49)).heap.size/\¬own (.slice a ps.length c) q):=
        yQ hints (fun q hq=>(zR _ _ _ (by simp;omega)).trans (zR _ _ _ hq.2)) (fun q hq=>⟨by have h1:w1.heap.size<=q:=hq.1;omega,by have:=hq.2;simp;omega,fun ho=>by have h1:w1.heap.size<=q:=hq.1;have:=hlow q ho;omega⟩)
       have nb:((w2.alloc (.cells #[.int .i64 (xk:Nat),.int .i64 (xo:Nat),.int .i64 (xn:Nat),.slice fa (zs xf).length fc] 49)).alloc (.cells #[.int .i64 (xk:Nat),.int .i64 (xo:Nat),.int .i64 (xn:Nat),.slice fa (zs xf).length fc] 49)).heap[w2.heap.size+1]?=some (.cells #[.int .i64 (xk:Nat),.int .i64 (xo:Nat),.int .i64 (xn:Nat),.slice fa (zs xf).length fc] 49):=by
        have h:=heap_alloc_new (w2.alloc (.cells #[.int .i64 (xk:Nat),.int .i64 (xo:Nat),.int .i64 (xn:Nat),.slice fa (zs xf).length fc] 49)) (.cells #[.int .i64 (xk:Nat),.int .i64 (xo:Nat),.int .i64 (xn:Nat),.slice fa (zs xf).length fc] 49)
        rwa [show (w2.alloc (.cells #[.int .i64 (xk:Nat),.int .i64 (xo:Nat),.int .i64 (xn:Nat),.slice fa (zs xf).length fc] 49)).heap.size=w2.heap.size+1 by simp] at h
       have n0:((w2.alloc (.cells #[.int .i64 (xk:Nat),.int .i64 (xo:Nat),.int .i64 (xn:Nat),.slice fa (zs xf).length fc] 49)).alloc (.cells #[.int .i64 (xk:Nat),.int .i64 (xo:Nat),.int .i64 (xn:Nat),.slice fa (zs xf).length fc] 49)).heap[w2.heap.size]?=some (.cells #[.int .i64 (xk:Nat),.int .i64 (xo:Nat),.int .i64 (xn:Nat),.slice fa (zs xf).length fc] 49):=(zR _ _ _ (by simp)).trans (heap_alloc_new _ _)
       have hn2:¬own (.slice a ps.length c) w2.heap.size:=fun h=>by have:=hlow _ h;omega
       have D4:=zZ d4
       have I4:=zZ i4
       have NB:=zZ nb
       have N0:=zZ n0
       have F14:=zZ f14
       have HRC2:=zZ (show rcL (n::t)=.inr ((xk,xo,xn,xf),n+5) from hrc)
       clear hip hrc f12 f2 f2' hints d4 i4 nb n0 f14 hlow
       have hz4:w.heap.size<=((w2.alloc (.cells #[.int .i64 (xk:Nat),.int .i64 (xo:Nat),.int .i64 (xn:Nat),.slice fa (zs xf).length fc] 49)).alloc (.cells #[.int .i64 (xk:Nat),.int .i64 (xo:Nat),.int .i64 (xn:Nat),.slice fa (zs xf).length fc] 49)).heap.size:=by simp;omega
       by_cases hk5:xk=5
       ·subst hk5
        have fin:∀(av:Option Addr) (cv:Nat) (w3:World),w3.ownsRow w.heap.size 49 4 (.slice av (ps.length+1) cv) (ps.length+1) (xS ps++[.int .i64 (5:Nat),.int .i64 (xo:Nat),.int .i64 (xn:Nat),.slice fa (zs xf).length fc])->Fr (own (.slice a ps.length c)) ((w2.alloc (.cells #[.int .i64 (5:Nat),.int .i64 (xo:Nat),.int .i64 (xn:Nat),.slice fa (zs xf).length fc] 49)).alloc (.cells #[.int .i64 (5:Nat),.int .i64 (xo:Nat),.int .i64 (xn:Nat),.slice fa (zs xf).length fc] 49)) w3 (own (.slice av (ps.length+1) cv))->iN s w (.returned (.tuple #[.slice av (ps.length+1) cv,.int .i64 ((at_:Int)+5+(n:Int)),.int .i64 (if at_+5+n<s.size then 5 else 1)])) w3:=fun av cv w3 o3 f3=>by
         have hdn:=(zY D4).grow (5,xo,xn,xf) (.slice fa (zs xf).length fc) (zY I4) o3 f3
         have hfr3:=((zY HFR).trans (zY F14)).fresh f3 (fun k hk=>(zS (zY D4).row k hk).1)
         have hrd:=zY HRD
         rw [zY HDR,rd_end f (n::t) at_ (5,xo,xn,xf) (n+5) (zY HRC2) rfl] at hrd
         have hl:ps.length+1=(ps++[(((5,xo,xn,xf):Inp),Value.slice fa (zs xf).length fc)]).length:=by rw [List.length_append];rfl
         have ed:((n::t).drop (n+5)=[])↔¬at_+5+n<s.size:=by
          rw [<-zY HDR,List.drop_drop,List.drop_eq_nil_iff,vA];omega
         refine⟨av,cv,_,?_,by rw [<-hl];exact hdn,by rw [hrd,List.map_append];rfl,hfr3⟩
         rw [hrd,<-hl]
         have e1:(((at_+(n+5):Nat)):Int)=(at_:Int)+5+(n:Int):=by omega
         simp only [e1]
         by_cases hq5:at_+5+n<s.size
         ·rw [if_pos hq5,if_neg (fun h=>(ed.1 h) hq5)];rfl
         ·rw [if_neg hq5,if_pos (ed.2 hq5)];rfl
        have FIN:=zZ fin
        clear fin
        by_cases hend:at_+5+n<s.size
        ·have hendi:(at_:Int)+5+(n:Int)<(s.size:Int):=by omega
         go_wp2_with (at_builtin;refine mL rL (by omega) (by omega) (B:=w.heap.size) (n:=ps.length) (m:=1) (xs:=xS ps) (news:=[.int .i64 (5:Nat),.int .i64 (xo:Nat),.int .i64 (xn:Nat),.slice fa (zs xf).length fc]) rfl (.tmp 94) (.tmp 96) rfl (ad:=⟨w2.heap.size+1,0,none⟩) (cap:=1) rfl rfl (zY D4).row rfl (World.news_of_block (zY NB)) (by simp [Value.oneCell']) (by omega) (by omega) hz4 ?_;intro v3 w3 o3 f3 sh3;obtain⟨av,cv,rfl⟩:=sh3;have kc:=(f3.cell w2.heap.size 0 (by simp;omega) hn2).trans (cell_of_row _ _ 0 _ 49 (0,0) (zY N0));have O3:=zZ o3;have F3:=zZ f3;clear o3 f3)
         have h:=zY FIN av cv w3 (zY O3) (zY F3)
         rw [if_pos hend] at h
         exact bodyPost_ret (v:=.tuple #[.slice av (ps.length+1) cv,.int .i64 ((at_:Int)+5+(n:Int)),.int .i64 5]) (by simp [results,Tryz.results43,go_sem]) rfl h
        ·have hendi:¬(at_:Int)+5+(n:Int)<(s.size:Int):=by omega
         go_wp2_with (at_builtin;refine mL rL (by omega) (by omega) (B:=w.heap.size) (n:=ps.length) (m:=1) (xs:=xS ps) (news:=[.int .i64 (5:Nat),.int .i64 (xo:Nat),.int .i64 (xn:Nat),.slice fa (zs xf).length fc]) rfl (.tmp 94) (.tmp 96) rfl (ad:=⟨w2.heap.size+1,0,none⟩) (cap:=1) rfl rfl (zY D4).row rfl (World.news_of_block (zY NB)) (by simp [Value.oneCell']) (by omega) (by omega) hz4 ?_;intro v3 w3 o3 f3 sh3;obtain⟨av,cv,rfl⟩:=sh3;have kc:=(f3.cell w2.heap.size 0 (by simp;omega) hn2).trans (cell_of_row _ _ 0 _ 49 (0,0) (zY N0));have O3:=zZ o3;have F3:=zZ f3;clear o3 f3)
         have h:=zY FIN av cv w3 (zY O3) (zY F3)
         rw [if_neg hend] at h
         exact bodyPost_ret (v:=.tuple #[.slice av (ps.length+1) cv,.int .i64 ((at_:Int)+5+(n:Int)),.int .i64 1]) (by simp [results,Tryz.results43,go_sem]) rfl h
       ·have hk5i:((xk:Int)==5)=false:=by simp;omega
        go_wp2_with (at_builtin;refine mL rL (by omega) (by omega) (B:=w.heap.size) (n:=ps.length) (m:=1) (xs:=xS ps) (news:=[.int .i64 (xk:Nat),.int .i64 (xo:Nat),.int .i64 (xn:Nat),.slice fa (zs xf).length fc]) rfl (.tmp 94) (.tmp 96) rfl (ad:=⟨w2.heap.size+1,0,none⟩) (cap:=1) rfl rfl (zY D4).row rfl (World.news_of_block (zY NB)) (by simp [Value.oneCell']) (by omega) (by omega) hz4 ?_;intro v3 w3 o3 f3 sh3;obtain⟨av,cv,rfl⟩:=sh3;have kc:=(f3.cell w2.heap.size 0 (by simp;omega) hn2).trans (cell_of_row _ _ 0 _ 49 (0,0) (zY N0));have O3:=zZ o3;have F3:=zZ f3;clear o3 f3)
        have hdn:=(zY D4).grow (xk,xo,xn,xf) (.slice fa (zs xf).length fc) (zY I4) (zY O3) (zY F3)
        refine⟨⟨at_+5+n,f,av,cv,ps++[((xk,xo,xn,xf),.slice fa (zs xf).length fc)],rfl,by rw [List.length_append];rfl,by omega,by omega,by rw [List.length_append];simp;omega,by omega,by rw [List.length_append];exact hdn,((zY HFR).trans (zY F14)).fresh (zY F3) (fun k hk=>(zS (zY D4).row k hk).1),?_⟩,by simp [intOf];omega⟩
        rw [zY HRD,zY HDR,dT f (n::t) at_ (xk,xo,xn,xf) (n+5) (zY HRC2) hk5]
        have ed:(n::t).drop (n+5)=(bs s).drop (at_+5+n):=by rw [<-zY HDR,List.drop_drop];congr 1;omega
        rw [ed,show at_+(n+5)=at_+5+n by omega,List.map_append,List.append_assoc]
        rfl
    ·have hq:=oV hms
     have hq2:(m.toList==S.toList)=false:=by simpa using hq
     have HP:=zZ (fun W hW=>zY POSTW W hW 3 (by simp only [rcL];rw [if_neg hc1,if_neg hc2,if_neg hsh,if_pos (fun h=>hms ((zY HSUM).1 h))]))
     clear hms
     go_wp2_with fail
     go_region_with (go_at_call 76;refine(zY H76 _).mono ?_;rintro e w1 ⟨rfl,f1⟩;have F1:=zZ (show Fr (fun _=>False) wr w1 (fun _=>False) from ⟨f1.os,f1.tape,f1.output,f1.size,f1.same,f1.old⟩);clear f1)
     all_goals
      go_wp2
      exact bodyPost_ret (v:=.tuple #[.slice a ps.length c,.int .i64 at_,.int .i64 3]) (by simp [results,Tryz.results43,go_sem]) rfl (zY HP _ (zY F1))
   ·have hlti:¬(at_:Int)<(s.size:Int):=by omega
    have hr:rdL f ((bs s).drop at_) at_=([],at_,2):=by
     rw [zK3 s at_ (by omega)]
     cases f with
     | zero=>rfl
     | succ f=>rfl
    have HP:=zZ (zB8 (zY HRD) hr (zY HDI) (zY HFR))
    clear hr
    go_wp2
    exact bodyPost_ret (v:=.tuple #[.slice a ps.length c,.int .i64 at_,.int .i64 2]) (by simp [results,Tryz.results43,go_sem]) rfl (zY HP)
 ·have hnp:¬hd3 <+: bs s:=by
   rintro ⟨r,hr⟩
   apply hh
   apply eJ
   rw [nZ,List.drop_zero,<-hr]
   rfl
  have hnq:¬bs s <+: hd3:=by
   intro h
   have h1:=h.length_le
   rw [vA] at h1
   have e3:hd3.length=3:=rfl
   have h2:s.size=3:=by omega
   have h4:bs s=hd3:=h.eq_of_length (by rw [vA,e3,h2])
   exact hnp (by rw [h4];exact List.prefix_refl _)
  have hrd:yS (bs s)=([],0,4):=by unfold yS;rw [if_neg hnp,if_neg hnq]
  have HP:Hid (iN s w (.returned (.tuple #[.slice none 0 0,.int .i64 0,.int .i64 4])) w):=⟨none,0,[],by rw [hrd];rfl,oX.nil _ _,by rw [hrd];rfl,Fr.refl _ _⟩
  have hq:((s.extract 0 3).toList==[82,82,49])=false:=by
   have h:=oV hh
   rw [show (⟨#[82,82,49]⟩ : ByteArray).toList=[82,82,49] by rw [Go.ByteArray.toList_eq]] at h
   simpa using h
  clear hnp hnq hrd hh
  go_enter Tryz.func43,Tryz.ntmps43
  go_wp2
  exact bodyPost_ret (v:=.tuple #[.slice none 0 0,.int .i64 0,.int .i64 4]) (by simp [results,Tryz.results43,go_sem]) rfl (zY HP)
