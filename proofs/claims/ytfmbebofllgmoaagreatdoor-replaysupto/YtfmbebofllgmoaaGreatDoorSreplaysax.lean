/-
  PROVED HERE: the reader's record: what the record tells with 
-/
import Derived.Laws.IdiomStrings
import Derived.Test.YtfmbebofllgmoaaGreatDoorSreplaysar
import Derived.Test.YtfmbebofllgmoaaGreatDoorSreplaysas
import Derived.Test.YtfmbebofllgmoaaGreatDoorSreplaysaw
import Derived.Test.YtfmbebofllgmoaaGreatDoorSreplaysba
set_option maxHeartbeats 1000000
set_option maxRecDepth 20000
namespace Go.Proofs.YtfmbebofllgmoaaGreatDoor
open Go.RowKit
attribute [local go_sem ↓] Go.wp_at_zero Go.wp_at_succ
theorem yA7 (s:ByteArray) (w:World):∃cap W,(convert 9 54 (.string s)).run Tryz.prog w=.ok (.slice (some ⟨w.heap.size,0,none⟩) s.size cap) W/\W.heap.size=w.heap.size+1/\Fr (fun _=>False) w W (fun _=>False)/\gR W (.slice (some ⟨w.heap.size,0,none⟩) s.size cap) s:=by
 have h:=run_bytes_of_string (P:=Tryz.prog) w 9 54 5 s Tryz.underlying9 Tryz.underlying54 Tryz.underlying5
 refine⟨_,_,h,by show (World.alloc _ _).heap.size=_;simp,((Fr.refl _ w).drew).alloc _,w.heap.size,0,_,rfl,fun j u hj=>?_⟩
 have hl:j<s.size:=by have:=(List.getElem?_eq_some_iff.1 hj).1;rwa [pM] at this
 have hb:=heap_alloc_new w.drew (.cells (bytesRow s (grownCap w s.size 0 5)) 5 ((bytesRow s (grownCap w s.size 0 5)).size,(bytesRow s (grownCap w s.size 0 5)).size+1))
 rw [Nat.zero_add]
 have hc:=cell_of_row (w.drew.alloc (.cells (bytesRow s (grownCap w s.size 0 5)) 5 ((bytesRow s (grownCap w s.size 0 5)).size,(bytesRow s (grownCap w s.size 0 5)).size+1))) w.heap.size j _ 5 _ hb
 rw [hc,bytesRow_at s _ j hl]
 rw [zR3 s j hl] at hj
 rw [<-hj]
 rfl
theorem Fr.nilF {w w':World} (h:Fr (fun _=>False) w.drew w' (fun _=>False)):Fr (fun _=>False) w w' (fun _=>False):=⟨h.os,h.tape,h.output,h.size,h.same,h.old⟩
theorem qH {s:ByteArray} (h:0<s.size):∃t,bs s=yH s 0::t/\t.length+1=s.size:=by
 have hl:=vB s
 cases hb:bs s with
 | nil=>rw [hb] at hl;simp at hl;omega
 | cons n t=>exact⟨t,by rw [cW,hb];rfl,by rw [hb] at hl;simpa using hl⟩
theorem rc_len {s:ByteArray} (h:(lY s).2≠0):∃w:Nat,rcL (bs s)=.inl w/\lY s=(0,(w:Int)):=by
 by_cases h0:0<s.size
 ·obtain⟨t,ht,hl⟩:=qH h0
  rw [ht]
  unfold lY at h ⊢
  simp only [rcL]
  by_cases h1:128<=yH s 0/\s.size=1
  ·rw [if_pos ⟨h1.1,List.eq_nil_of_length_eq_zero (by omega)⟩,if_pos (.inr h1)]
   exact⟨2,rfl,rfl⟩
  ·have h1':¬(128<=yH s 0/\t=[]):=fun hh=>h1 ⟨hh.1,by rw [hh.2] at hl;simp at hl;omega⟩
   have h1'':¬(s.size=0\/(128<=yH s 0/\s.size=1)):=by
    rintro (hh | hh)
    ·omega
    ·exact h1 hh
   rw [if_neg h1'] 
   rw [if_neg h1''] at h ⊢
   by_cases h2:yH s 0<1\/40<yH s 0
   ·rw [if_pos h2,if_pos h2]
    exact⟨4,rfl,rfl⟩
   ·rw [if_neg h2] at h
    exact absurd rfl h
 ·cases oW h0
  exact⟨2,rfl,rfl⟩
theorem aR {s:ByteArray} (h:(lY s).2=0):0<s.size/\1<=yH s 0/\yH s 0<=40/\lY s=((yH s 0:Int),0):=by
 unfold lY at h ⊢
 split at h
 ·simp at h
 ·rename_i h1
  rw [if_neg h1]
  split at h
  ·simp at h
  ·rename_i h2
   rw [if_neg h2]
   exact⟨by omega,by omega,by omega,rfl⟩
theorem yF7 {s:ByteArray} (h:(lY s).2=0) (hs:s.size<yH s 0+5):rcL (bs s)=.inl 2:=by
 obtain⟨h0,h1,h40,_⟩:=aR h
 obtain⟨t,ht,hl⟩:=qH h0
 rw [ht]
 simp only [rcL]
 rw [if_neg (by omega),if_neg (by omega),if_pos (by omega)]
theorem yM7 {s:ByteArray} (h:(lY s).2=0) (hs:yH s 0+5<=s.size):rcL (bs s) =
  if bs (pP (s.extract 1 (1+yH s 0)))≠bs (s.extract (1+yH s 0) (1+yH s 0+4)) then .inl 3 else match sC (s.extract 1 (1+yH s 0)) with
   | none=>.inl 4
   | some r=>.inr ((yH (s.extract 1 (1+yH s 0)) 0,r),yH s 0+5):=by
 obtain⟨h0,h1,h40,_⟩:=aR h
 obtain⟨t,ht,hl⟩:=qH h0
 have e1:bs (s.extract 1 (1+yH s 0))=t.take (yH s 0):=by rw [nI,ht,Nat.add_comm 1,List.take_succ_cons,List.drop_succ_cons,List.drop_zero]
 have e2:bs (s.extract (1+yH s 0) (1+yH s 0+4))=(t.drop (yH s 0)).take 4:=by
  rw [nI,ht,show 1+yH s 0+4=(yH s 0+4)+1 by omega,List.take_succ_cons,Nat.add_comm 1,List.drop_succ_cons,List.drop_take]
  congr 1;omega
 have hz:(s.extract 1 (1+yH s 0)).size=yH s 0:=by rw [ByteArray.size_extract];omega
 have e3:=ipL_bs (s.extract 1 (1+yH s 0)) (by omega)
 rw [e1] at e3
 rw [<-yG9,e1,e2]
 generalize yH s 0=n at *
 rw [ht]
 simp only [rcL]
 rw [if_neg (by omega),if_neg (by omega),if_neg (by omega),e3]
 split
 ·rfl
 ·cases sC (s.extract 1 (1+n))<;>rfl
def pZ (s:ByteArray) (w:World) (e:Ending) (w':World):Prop:=
 Fr (fun _=>False) w w' (fun _=>False)/\match rcL (bs s) with
 | .inl y=>e=.returned (.tuple #[.agg #[.int .i64 0,.int .i64 0,.int .i64 0,.slice none 0 0],.int .i64 0,.int .i64 y])
 | .inr (x,k)=>∃a l c,e=.returned (.tuple #[.agg #[.int .i64 x.1,.int .i64 x.2.1,.int .i64 x.2.2.1,.slice a l c],.int .i64 k,.int .i64 0])/\yZ w' (w.heap.size+1) (.slice a l c) (zs x.2.2.2)
theorem aY {s:ByteArray} {w w':World} {y:Nat} {z:Int} (h:rcL (bs s)=.inl y) (hz:z=y) (hf:Fr (fun _=>False) w w' (fun _=>False)):pZ s w (.returned (.tuple #[.agg #[.int .i64 0,.int .i64 0,.int .i64 0,.slice none 0 0],.int .i64 0,.int .i64 z])) w':=by
 unfold pZ;rw [h];subst hz;exact⟨hf,rfl⟩
theorem yM8 {s:ByteArray} {w w':World} {x:Inp} {k:Nat} {z0 z1 z2 z3:Int} {a:Option Addr} {l c:Nat} (h:rcL (bs s)=.inr (x,k)) (h0:z0=x.1) (h1:z1=x.2.1) (h2:z2=x.2.2.1) (h3:z3=k) (hr:yZ w' (w.heap.size+1) (.slice a l c) (zs x.2.2.2)) (hf:Fr (fun _=>False) w w' (fun _=>False)):pZ s w (.returned (.tuple #[.agg #[.int .i64 z0,.int .i64 z1,.int .i64 z2,.slice a l c],.int .i64 z3,.int .i64 0])) w':=by
 unfold pZ;rw [h];subst h0 h1 h2 h3;exact⟨hf,a,l,c,rfl,hr⟩
theorem zX2 (s:ByteArray) (hs:s.size<=1000000000) (w:World) (h:(lY s).2≠0):Calls Tryz.prog 59 #[.string s] w (pZ s w):=by
 obtain⟨y,hy,hl⟩:=rc_len h
 have hc:=kR s hs
 rw [hl] at hc h
 have hne:((y:Int) != 0)=true:=by simpa using h
 have HC:=zZ hc
 have HY:=zZ hy
 clear hc hy hl h
 go_enter Tryz.func59,Tryz.ntmps59
 go_wp2_with (go_at_call 99;refine((zY HC) _).mono ?_;rintro e w1 ⟨rfl,rfl⟩)
 refine bodyPost_ret (v:=.tuple #[.agg #[.int .i64 0,.int .i64 0,.int .i64 0,.slice none 0 0],.int .i64 0,.int .i64 y]) (by simp [results,Tryz.results59,go_sem]) rfl (aY (zY HY) rfl ((Fr.refl _ w).alloc _))
theorem zA0 (s:ByteArray) (hs:s.size<=1000000000) (w:World) (h:(lY s).2=0) (hn:s.size<yH s 0+5):Calls Tryz.prog 59 #[.string s] w (pZ s w):=by
 have hy:=yF7 h hn
 obtain⟨h0,h1,h40,hl⟩:=aR h
 have hc:=kR s hs
 rw [hl] at hc
 have HC:=zZ hc
 have HY:=zZ hy
 clear hc hy hl h
 generalize yH s 0=n at *
 have hlt:(s.size:Int)<1+(n:Int)+4:=by omega
 clear hn
 go_enter Tryz.func59,Tryz.ntmps59
 go_wp2_with (go_at_call 99;refine((zY HC) _).mono ?_;rintro e w1 ⟨rfl,rfl⟩)
 refine bodyPost_ret (v:=.tuple #[.agg #[.int .i64 0,.int .i64 0,.int .i64 0,.slice none 0 0],.int .i64 0,.int .i64 2]) (by simp [results,Tryz.results59,go_sem]) rfl (aY (zY HY) rfl ((Fr.refl _ w).alloc _))
theorem zG0 (s:ByteArray) (hs:s.size<=1000000000) (w:World) (h:(lY s).2=0) (hn:yH s 0+5<=s.size):Calls Tryz.prog 59 #[.string s] w (pZ s w):=by
 have hy:=yM7 h hn
 obtain⟨h0,h1,h40,hl⟩:=aR h
 have hc:=kR s hs
 rw [hl] at hc
 have HC:=zZ hc
 have HY:=zZ hy
 clear hc hy hl h
 generalize yH s 0=n at *
 have hlt:¬(s.size:Int)<1+(n:Int)+4:=by omega
 have hi1:(1:Int)<=1+(n:Int):=by omega
 have hi2:1+(n:Int)<=s.size:=by omega
 have hi3:1+(n:Int)<=1+(n:Int)+4:=by omega
 have hi4:1+(n:Int)+4<=s.size:=by omega
 have hi5:(0:Int)<=1+(n:Int):=by omega
 have hwr:IntKind.i64.wrap (1+(n:Int))=1+(n:Int):=by rw [IntKind.wrap_i64];omega
 go_enter Tryz.func59,Tryz.ntmps59
 go_upto_region 8 with (go_at_call 99;refine((zY HC) _).mono ?_;rintro e w1 ⟨rfl,rfl⟩)
 obtain⟨cap,W1,hcv,hz1,f1,hb1⟩:=yA7 (s.extract 1 (1+n)) ((w.alloc (.cells #[.int .i64 0,.int .i64 0,.int .i64 0,.slice none 0 0] 49)).drew)
 have hbz:(s.extract 1 (1+n)).size=n:=by rw [ByteArray.size_extract];omega
 have h100:=kB (w:=W1) (B:=W1.heap.size) (v:=.slice none 0 0) (b:=ByteArray.empty) (.inl (zX _ _ _ _)) hb1 (by omega) (by decide) (Nat.le_refl _)
 have hsz:((w.alloc (.cells #[.int .i64 0,.int .i64 0,.int .i64 0,.slice none 0 0] 49)).drew).heap.size=w.heap.size+1:=by show (World.alloc _ _).heap.size=_;simp
 rw [hbz,hsz] at hcv h100
 rw [ByteArray.empty_append] at h100
 have H4:=zZ (bT (iN (s.extract 1 (1+n)).data.toList))
 change Hid ((pP (s.extract 1 (1+n))).size=4) at H4
 clear hz1 hsz
 have H100:=zZ h100
 have H1:=zZ ((f1).nilF)
 clear h100 f1 hb1
 go_cut [38] (fun u wc=>u=.bool (!((pP (s.extract 1 (1+n))).toList==(s.extract (1+n) (1+n+4)).toList))/\Fr (fun _=>False) (w.alloc (.cells #[.int .i64 0,.int .i64 0,.int .i64 0,.slice none 0 0] 49)) wc (fun _=>False))
 case first=>
  refine wp_region_held_drew (S:=fun _=>True) (by kernel_rfl) trivial (fun hHeld=>?_)
  refine zH (i:=0) (d:=29) (fuel:=9) ?_
  simp only [zC,zD,zE]
  refine zH (i:=4) (d:=33) (fuel:=8) ?_
  simp only [zC,zD,zE]
  refine zH (i:=5) (d:=34) (fuel:=7) ?_
  simp only [zC,zD,zE]
  refine zH (i:=6) (d:=35) (fuel:=6) ?_
  simp only [zC,zD,zE]
  refine zH (i:=7) (d:=36) (fuel:=5) ?_
  simp only [zC,zD,zE]
  refine zH (i:=8) (d:=37) (fuel:=4) ?_
  simp only [zC,zD,zE]
  refine wpAnyH_ready (rs:=[1]) (by kernel_rfl) (by simp) ?_
  refine AllReadyH.cons rfl (fun K hK=>?_) AllReadyH.nil
  go_simp
  refine hK.out _ _ trivial (fun hHeld=>?_)
  clear hK K
  refine wpAnyH_ready (rs:=[2]) (by kernel_rfl) (by simp) ?_
  refine AllReadyH.cons rfl (fun K hK=>?_) AllReadyH.nil
  go_simp
  go_at_call 100
  refine(zY H100).mono ?_
  rintro e w2 ⟨v2,rfl,o2,f2⟩
  obtain⟨g2,c2,rfl,_,_⟩:=o2.bytes (by rw [zY H4];omega)
  have hcv2:=convB (cap:=c2) (o2.cells (by rw [zY H4];omega))
  have F2:=zZ ((zY H1).trans f2.nil)
  clear o2 f2
  refine hK.out _ _ trivial (fun hHeld=>?_)
  clear hK K
  refine wpAnyH_ready (rs:=[3]) (by kernel_rfl) (by simp) ?_
  refine AllReadyH.cons rfl (fun K hK=>?_) AllReadyH.nil
  go_simp
  refine hK.out _ _ trivial (fun hHeld=>?_)
  clear hK K
  refine zH (i:=9) (d:=38) (fuel:=0) ?_
  simp only [zC,zD,zE]
  refine wpAnyH_done (by kernel_rfl) ?_ _
  go_wp2
  go_meet
  refine⟨?_,zY F2⟩
  have e1:(1+(n:Int)).toNat=1+n:=by omega
  have e2:(1+(n:Int)+4).toNat=1+n+4:=by omega
  rw [e1,e2]
 case rest=>
  obtain⟨rfl,hf⟩:=hcut
  clear hcv H100 H1 H4
  obtain⟨⟨r0,r1,r2,r3⟩,rz⟩:=oD hf
  have HF:=zZ hf
  have hwz:w.heap.size<wc.heap.size:=by have:=hf.size;simp at this;omega
  clear hf
  by_cases hsum:(pP (s.extract 1 (1+n))).toList=(s.extract (1+n) (1+n+4)).toList
  ·have hy:=zY HY
   rw [if_neg (fun h=>h (iO.1 hsum))] at hy
   have hsb:((pP (s.extract 1 (1+n))).toList==(s.extract (1+n) (1+n+4)).toList)=true:=by simpa using hsum
   rw [hsb]
   have h101:=zU4 (s.extract 1 (1+n)) (by omega) (by omega) wc
   cases hin:sC (s.extract 1 (1+n)) with
   | none=>
    rw [hin] at hy
    have h2:Calls Tryz.prog 101 #[.string (s.extract 1 (1+n))] wc fun e w'=>∃z0 z1 z2 a l c,e=.returned (.tuple #[.agg #[.int .i64 z0,.int .i64 z1,.int .i64 z2,.slice a l c],.bool false])/\Fr (fun _=>False) wc w' (fun _=>False):=h101.mono fun e w' h=>by
     unfold uW at h;rw [hin] at h;obtain⟨h1,z0,z1,z2,a,l,c,h2⟩:=h;exact⟨z0,z1,z2,a,l,c,h2,h1⟩
    have H2:=zZ h2
    have HY2:=zZ hy
    clear h101 h2 hy hsum hsb hin
    go_wp2_with (go_at_call 101;refine(zY H2).mono ?_;rintro e w3 ⟨z0,z1,z2,a3,l3,c3,rfl,f3⟩;have F3:=zZ ((zY HF).trans f3);obtain⟨⟨t0,t1,t2,t3⟩,tz⟩:=oD (zY F3);clear f3)
    have hz3:=((zY F3).same w.heap.size (by simp) (fun h=>h)).trans (heap_alloc_new w _)
    have g0:=fun j=>cell_of_row _ _ j _ 49 (0,0) (zL9 (zL9 hz3 (.int .i64 z0) (.int .i64 z1) (.int .i64 z2) (.slice a3 l3 c3)) (.int .i64 0) (.int .i64 0) (.int .i64 0) (.slice none 0 0))
    exact bodyPost_ret (v:=.tuple #[.agg #[.int .i64 0,.int .i64 0,.int .i64 0,.slice none 0 0],.int .i64 0,.int .i64 4]) (by simp [results,Tryz.results59,go_sem,g0]) rfl (aY (zY HY2) rfl (qR (qR (zY F3).unalloc (.inr (Nat.le_refl _)) _ _ _ _) (.inr (Nat.le_refl _)) _ _ _ _))
   | some r=>
    obtain⟨o,m,fs⟩:=r
    rw [hin] at hy
    have h2:Calls Tryz.prog 101 #[.string (s.extract 1 (1+n))] wc fun e w'=>∃a l c,e=.returned (.tuple #[.agg #[.int .i64 (yH (s.extract 1 (1+n)) 0),.int .i64 o,.int .i64 m,.slice a l c],.bool true])/\yZ w' wc.heap.size (.slice a l c) (zs fs)/\Fr (fun _=>False) wc w' (fun _=>False):=h101.mono fun e w' h=>by
     unfold uW at h;rw [hin] at h;obtain⟨h1,a,l,c,h2,h3⟩:=h;exact⟨a,l,c,h2,h3,h1⟩
    have H2:=zZ h2
    have HY2:=zZ hy
    clear h101 h2 hy hsum hsb hin
    generalize yH (s.extract 1 (1+n)) 0=kd at *
    go_wp2_with (go_at_call 101;refine(zY H2).mono ?_;rintro e w3 ⟨a3,l3,c3,rfl,o3,f3⟩;have O3':=zZ o3;have F3:=zZ ((zY HF).trans f3);obtain⟨⟨t0,t1,t2,t3⟩,tz⟩:=oD (zY F3);clear f3 o3)
    have hz3:=((zY F3).same w.heap.size (by simp) (fun h=>h)).trans (heap_alloc_new w _)
    have g0:=fun j=>cell_of_row _ _ j _ 49 (0,0) (zL9 (zL9 hz3 (.int .i64 kd) (.int .i64 o) (.int .i64 m) (.slice a3 l3 c3)) (.int .i64 kd) (.int .i64 o) (.int .i64 m) (.slice a3 l3 c3))
    refine bodyPost_ret (v:=.tuple #[.agg #[.int .i64 kd,.int .i64 o,.int .i64 m,.slice a3 l3 c3],.int .i64 (1+(n:Int)+4),.int .i64 0]) (by simp [results,Tryz.results59,go_sem,g0]) rfl (yM8 (zY HY2) rfl rfl rfl (by omega) ?_ (qR (qR (zY F3).unalloc (.inr (Nat.le_refl _)) _ _ _ _) (.inr (Nat.le_refl _)) _ _ _ _))
    have h3:=zY O3'
    refine yA (sU h3 (by omega)) (fun q hq=>?_)
    have hq':=(zS h3 q hq).1
    have hne':q≠w.heap.size:=by omega
    rw [tD hne',tD hne']
  ·have hy:=zY HY
   rw [if_pos (fun h=>hsum (iO.2 h))] at hy
   have hsb:((pP (s.extract 1 (1+n))).toList==(s.extract (1+n) (1+n+4)).toList)=false:=by simpa using hsum
   rw [hsb]
   have HY2:=zZ hy
   clear hy hsum hsb
   go_wp2
   refine bodyPost_ret (v:=.tuple #[.agg #[.int .i64 0,.int .i64 0,.int .i64 0,.slice none 0 0],.int .i64 0,.int .i64 3]) (by simp [results,Tryz.results59,go_sem,r0,r1,r2,r3]) rfl (aY (zY HY2) rfl (qR (zY HF).unalloc (.inr (Nat.le_refl _)) _ _ _ _))
theorem zX1 (s:ByteArray) (hs:s.size<=1000000000) (w:World):Calls Tryz.prog 59 #[.string s] w (pZ s w):=by
 by_cases h:(lY s).2=0
 ·by_cases hn:s.size<yH s 0+5
  ·exact zA0 s hs w h hn
  ·exact zG0 s hs w h (by omega)
 ·exact zX2 s hs w h
theorem sO {w:World} {B B' e size n:Nat} {v:Value} {xs:List Value} (h:w.ownsRow B e size v n xs) (hB:B'<=B):w.ownsRow B' e size v n xs:=
 ⟨h.1,h.2.imp id fun ⟨g,cap,cur,e1,e2,r⟩=>⟨g,cap,cur,e1,by omega,r⟩⟩
/-! ### What comes out -/
