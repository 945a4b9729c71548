/-
  PROVED HERE: the reader's iterator hands out what a log has, 
-/
import Derived.Shelf.RegionOpen
import Derived.OwnWalkIn
import Derived.TacticsInMore
import Derived.Test.YtfmbebofllgmoaaGreatDoorSallaz
set_option maxHeartbeats 1000000
set_option maxRecDepth 20000
namespace Go.Proofs.YtfmbebofllgmoaaGreatDoor
open Go.RowKit
attribute [local go_sem ↓] Go.wp_at_zero Go.wp_at_succ
attribute [local go_sem] Oper.semAt_some
structure YA where
 ps:List (Inp×Value)
 x:Inp
 fa:Option Addr
 fl:Nat
 fc:Nat
 pos:Int
 why:Int
def YA.fv (y:YA):Value:=.slice y.fa y.fl y.fc
def YA.enc (y:YA):Array Value:=#[.agg #[.int .i64 y.x.1,.int .i64 y.x.2.1,.int .i64 y.x.2.2.1,.slice y.fa y.fl y.fc]]
structure YR (w0:World) (ib vb rb:Nat) (s:ByteArray) (y:YA) (W:World):Prop where
 j:RdJ w0 ib vb rb W y.ps
 r:tO W vb rb s y.pos y.why
 f:yR W w0.heap.size y.fv (zs y.x.2.2.2)
 n:∀q,own y.fv q->q≠ib/\q≠vb/\q≠rb/\∀v,W.heap[ib]?=some (.cells #[v] 44)->¬inS v y.ps q
 m:y.ps.length<=1000000000
def YE (w0:World) (ib vb rb:Nat) (s:ByteArray) (y:YA) (W:World):Prop:=RdJ w0 ib vb rb W (y.ps++[(y.x,y.fv)])/\tO W vb rb s y.pos y.why
theorem Fr.to {w w':World} (h:Fr (fun _=>False) w w' (fun _=>False)) (S:Nat->Prop):Fr S w w' S:=⟨h.os,h.tape,h.output,h.size,fun k hk _=>h.same k hk (fun h=>h),fun _ _ h=>h⟩
theorem tO.cells {W:World} {vb rb:Nat} {s:ByteArray} {a y:Int} (h:tO W vb rb s a y):W.cell? ⟨vb,0,none⟩=some (.pointer (some ⟨rb,0,none⟩))/\W.cell? ⟨rb,0,none⟩=some (.string s)/\W.cell? ⟨rb,1,none⟩=some (.int .i64 a)/\W.cell? ⟨rb,2,none⟩=some (.int .i64 y)/\(∀j,W.frozen? ⟨rb,j,none⟩=false):=
 ⟨cell_of_row _ _ 0 _ 80 (0,0) h.v,cell_of_row _ _ 0 _ 135 (0,0) h.r,cell_of_row _ _ 1 _ 135 (0,0) h.r,cell_of_row _ _ 2 _ 135 (0,0) h.r,fun j=>yB h.r j⟩
theorem tO.set1 {W:World} {vb rb:Nat} {s:ByteArray} {a y:Int} (h:tO W vb rb s a y) (a':Int):tO (W.setCell ⟨rb,1,none⟩ (.int .i64 a')) vb rb s a' y:=
 ⟨(zQ _ _ _ _ h.ne).trans h.v,set3 h.r 1 _⟩
theorem tO.set2 {W:World} {vb rb:Nat} {s:ByteArray} {a y:Int} (h:tO W vb rb s a y) (y':Int):tO (W.setCell ⟨rb,2,none⟩ (.int .i64 y')) vb rb s a y':=
 ⟨(zQ _ _ _ _ h.ne).trans h.v,set3 h.r 2 _⟩
theorem tO.drew {W:World} {vb rb:Nat} {s:ByteArray} {a y:Int} (h:tO W vb rb s a y):tO W.drew vb rb s a y:=⟨h.v,h.r⟩
def LRel (w0:World) (ib vb rb:Nat) (s:ByteArray) (Bk:World->Prop) (k:Nat) (W:World):Prop:=
 ∃(ps:List (Inp×Value)) (a y:Nat),RdJ w0 ib vb rb W ps/\tO W vb rb s a y/\Bk W/\ps.length<=a/\
  ((y=0/\a<=s.size/\s.size-a<k/\(ps.map (·.1)++(rdL (((bs s).drop a).length+1) ((bs s).drop a) a).1,(rdL (((bs s).drop a).length+1) ((bs s).drop a) a).2)=yS (bs s))\/(y≠0/\(ps.map (·.1),a,y)=yS (bs s)))
section
variable {w0:World} {ib vb rb:Nat} {s:ByteArray} {l n:Nat} {Bk:World->Prop}
theorem zO4 (s:ByteArray):∃a y:Nat,begM s=((a:Int),(y:Int))/\((y=0/\a<=s.size/\((rdL (((bs s).drop a).length+1) ((bs s).drop a) a).1,(rdL (((bs s).drop a).length+1) ((bs s).drop a) a).2)=yS (bs s))\/(y≠0/\(([]:List Inp),a,y)=yS (bs s))):=by
 unfold begM yS
 by_cases h1:hd3 <+: bs s
 ·rw [if_pos h1,if_pos h1]
  have hl:=h1.length_le
  rw [vA] at hl
  have h3:hd3.length=3:=rfl
  refine⟨3,0,rfl,.inl ⟨rfl,by omega,?_⟩⟩
  rw [lK ((bs s).length+1) (((bs s).drop 3).length+1) ((bs s).drop 3) 3 (by rw [List.length_drop];omega) (by omega)]
 ·rw [if_neg h1,if_neg h1]
  by_cases h2:bs s <+: hd3
  ·rw [if_pos h2,if_pos h2];exact⟨0,2,rfl,.inr ⟨by omega,rfl⟩⟩
  ·rw [if_neg h2,if_neg h2];exact⟨0,4,rfl,.inr ⟨by omega,rfl⟩⟩
theorem RdJ.reader {w0 W W':World} {ib vb rb:Nat} {ps:List (Inp×Value)} (h:RdJ w0 ib vb rb W ps) (hf:Fr (fun k=>k=rb) W W' (fun k=>k=rb)):RdJ w0 ib vb rb W' ps:=by
 have hg:=h.ge.2.2
 refine h.block ⟨hf.os.trans h.fr.os,hf.tape.trans h.fr.tape,hf.output.trans h.fr.output,Nat.le_trans h.fr.size hf.size,fun k hk _=>(hf.same k (zT hk h.fr.size) (fun e=>by omega)).trans (h.fr.same k hk (fun h=>h)),fun _ _ h=>h⟩ (fun q _ h2 h3 _ _=>hf.same q h2 h3)
theorem zX6 {s:ByteArray} {ps:List (Inp×Value)} {a k:Nat} {x:Inp} {v:Value} (h:(ps.map (·.1)++(rdL (((bs s).drop a).length+1) ((bs s).drop a) a).1,(rdL (((bs s).drop a).length+1) ((bs s).drop a) a).2)=yS (bs s)) (hr:rcL ((bs s).drop a)=.inr (x,k)) (h5:x.1≠5) :
  ((ps++[(x,v)]).map (·.1)++(rdL (((bs s).drop (a+k)).length+1) ((bs s).drop (a+k)) (a+k)).1,(rdL (((bs s).drop (a+k)).length+1) ((bs s).drop (a+k)) (a+k)).2)=yS (bs s):=by
 have hk:=iC _ _ _ hr
 rw [<-h,dT _ _ _ _ _ hr h5,List.drop_drop,lK ((bs s).drop a).length (((bs s).drop (a+k)).length+1) ((bs s).drop (a+k)) (a+k) (by rw [List.length_drop,List.length_drop] at *;omega) (by omega)]
 simp
theorem yH3 {s:ByteArray} {ps:List (Inp×Value)} {a k z:Nat} {x:Inp} {v:Value} (h:(ps.map (·.1)++(rdL (((bs s).drop a).length+1) ((bs s).drop a) a).1,(rdL (((bs s).drop a).length+1) ((bs s).drop a) a).2)=yS (bs s)) (hr:rcL ((bs s).drop a)=.inr (x,k)) (h5:x.1=5) (hz:z=if 0<s.size-(a+k) then 5 else 1) :
  z≠0/\((ps++[(x,v)]).map (·.1),a+k,z)=yS (bs s):=by
 have hl:=vA s
 refine⟨by rw [hz];split<;>omega,?_⟩
 rw [<-h]
 simp only [rdL,hr,h5,if_true,List.drop_drop]
 have e:(if (bs s).drop (a+k)=[] then 1 else 5)=z:=by
  rw [hz]
  by_cases hc:0<s.size-(a+k)
  ·rw [if_neg (fun e=>by have:=congrArg List.length e;rw [List.length_drop,List.length_nil] at this;omega),if_pos hc]
  ·rw [if_pos (List.drop_eq_nil_of_le (by omega)),if_neg hc]
 rw [e]
 simp
theorem yr_of {w0 wr wc W:World} {ib vb rb:Nat} {s:ByteArray} {y:YA} {a0 y0:Int} (hj:RdJ w0 ib vb rb wr y.ps) (hr0:tO wr vb rb s a0 y0) (hf:Fr (fun k=>k=rb) wr W (fun k=>k=rb)) (hr:tO W vb rb s y.pos y.why)
  (ho:yR wc wr.heap.size y.fv (zs y.x.2.2.2)) (hw:∀q,q≠rb->q<wc.heap.size->W.heap[q]?=wc.heap[q]?) (hm:y.ps.length<=1000000000):YR w0 ib vb rb s y W:=by
 have hvz:vb<wr.heap.size:=(zN.1 hr0.v).1
 have hrz:rb<wr.heap.size:=(zN.1 hr0.r).1
 obtain⟨v0,h1,h2,h3,h4,h5⟩:=hj.box
 have hiz:ib<wr.heap.size:=(zN.1 h1).1
 have hge:∀q,own y.fv q->wr.heap.size<=q:=fun q hq=>(zS ho q hq).1
 refine⟨hj.reader hf,hr,yA (tL ho hj.fr.size) (fun q hq=>hw q (by have:=hge q hq;omega) (zS ho q hq).2),fun q hq=>?_,hm⟩
 have hq':=hge q hq
 refine⟨by omega,by omega,by omega,fun v hv=>?_⟩
 rw [hf.same ib hiz hj.ne.2,h1] at hv
 injection hv with hv
 injection hv with hv _ _
 have hv0:v0=v:=by simpa using hv
 intro hin
 have:=(h2.lt (hv0▸hin)).2
 omega
theorem zN2 (hs:s.size<=1000000000) (hbk:∀W,Bk W->∃D r,D≠l/\w0.heap.size<=D/\w0.heap.size<=l/\mT D l r W/\∀W',W'.heap[D]?=W.heap[D]?->W'.heap[l]?=W.heap[l]?->Bk W')
  (hY:∀(y:YA) W,YR w0 ib vb rb s y W->Bk W->YieldAt Fence.wide n Tryz.prog l y.enc W fun e W'=>e=.returned (.bool true)/\YE w0 ib vb rb s y W'/\Bk W')
  (W1:World) (a0 y0:Int) (hr:tO W1 vb rb s a0 y0) (hj:RdJ w0 ib vb rb W1 []) (hb:Bk W1) :
  Calls Tryz.prog 57 #[.func (.yield l) #[] #[],.pointer (some ⟨vb,0,none⟩)] W1 fun e W'=>(∃v,e=.returned v)/\(∃ps,RdJ w0 ib vb rb W' ps/\ps.map (·.1)=(yS (bs s)).1/\tO W' vb rb s (yS (bs s)).2.1 (yS (bs s)).2.2)/\Bk W':=by
 have hbr:∀(a y:Int) W W',Bk W->tO W vb rb s a y->Fr (fun k=>k=rb) W W' (fun k=>k=rb)->Bk W':=by
  intro a y W W' h1 h2 h3
  obtain⟨D,r,_,_,_,hB,hc⟩:=hbk W h1
  have e1:D≠rb:=fun e=>by have:=hB.2;rw [e,h2.r] at this;cases this
  have e2:l≠rb:=fun e=>by have:=hB.1;rw [e,h2.r] at this;cases this
  exact hc W' (h3.same D (zN.1 hB.2).1 e1) (h3.same l (zN.1 hB.1).1 e2)
 obtain⟨c0,c1,c2,c3,cz⟩:=hr.cells
 have hne:=hr.ne
 have hne':rb≠vb:=Ne.symm hne
 obtain⟨b1,b2,hbe,hst⟩:=zO4 s
 have hB:=zU8 s
 rw [hbe] at hB
 have HB:=zZ hB
 have HR:=zZ hr
 have HJ:=zZ hj
 have HBK:=zZ hb
 have HST:=zZ hst
 have HBR:=zZ hbr
 have HY:=zZ hY
 have HBB:=zZ hbk
 clear hr hbe hB hj hb hst hbr hY hbk
 go_enter Tryz.func57,Tryz.ntmps57
 go_upto_region 0 with fail
 go_cut [6] (fun u wc=>tO wc vb rb s b1 b2/\Fr (fun k=>k=rb) W1 wc (fun k=>k=rb))
 case first=>
  go_region_held3 (fun w'=>w'.cell? ⟨vb,0,none⟩=some (.pointer (some ⟨rb,0,none⟩))/\w'.cell? ⟨rb,0,none⟩=some (.string s)) (simp [go_sem,c0,c1]) (first | (go_at_call 58;refine(zY HB _).mono ?_;rintro e w' ⟨rfl,rfl⟩))
  all_goals (go_wp2_with fail;go_meet;exact⟨(((zY HR).set1 b1).set2 b2).drew,((((Fr.refl (fun k=>k=rb) W1).setCell ⟨rb,1,none⟩ _ (.inl rfl)).setCell ⟨rb,2,none⟩ _ (.inl rfl))).drew⟩)
 case rest=>
  obtain⟨hr1,hf1⟩:=hcut
  have hL:LRel w0 ib vb rb s Bk (s.size+1) wc:=by
   refine⟨[],b1,b2,(zY HJ).reader hf1,hr1,zY HBR _ _ _ _ (zY HBK) (zY HR) hf1,Nat.zero_le _,?_⟩
   rcases zY HST with ⟨h1,h2,h3⟩ | h
   ·exact .inl ⟨h1,h2,by omega,h3⟩
   ·exact .inr h
  have HL:=zZ hL
  clear hr1 hf1 hL HST HB HJ HBK HR c0 c1 c2 c3 cz
  go_wp2
  go_loopg [4] (s.size+1) (fun k u wr=>LRel w0 ib vb rb s Bk k wr)
  case atStart=>exact zY HL
  case round=>
   obtain⟨ps,a,y,qj,qr,qb,hpl,hst⟩:=hrel
   obtain⟨c0,c1,c2,c3,cz⟩:=qr.cells
   rcases hst with ⟨hy0,ha,hk,hst⟩ | ⟨hy,hst⟩
   ·subst hy0
    have hsz:(s.extract a s.size).size=s.size-a:=by rw [ByteArray.size_extract];omega
    have h59:=zZ9 (s.extract a s.size) (by omega)
    have hbs:bs (s.extract a s.size)=(bs s).drop a:=uT s a
    have hi1:(0:Int)<=(a:Int):=by omega
    have hi2:(a:Int)<=(s.size:Int):=by omega
    have hvz:vb<wr.heap.size:=(zN.1 qr.v).1
    have hrz:rb<wr.heap.size:=(zN.1 qr.r).1
    cases hrc:rcL ((bs s).drop a) with
    | inl w=>
     have hw:=rc_why _ _ hrc
     have h59':∀W:World,Calls Tryz.prog 59 #[.string (s.extract a s.size)] W fun e w'=>e=.returned (.tuple #[.agg #[.int .i64 0,.int .i64 0,.int .i64 0,.slice none 0 0],.int .i64 0,.int .i64 w])/\Fr (fun _=>False) W w' (fun _=>False):=fun W=>(h59 W).mono fun e w' h=>by
      unfold oQ at h;rw [hbs,hrc] at h;exact⟨h.2,h.1⟩
     have hfin:yS (bs s)=(ps.map (·.1),a,w):=by
      rw [<-hst];simp only [rdL,hrc,List.append_nil]
     have H59:=zZ h59'
     have HF:=zZ hfin
     have hwb:((w:Int) != 0)=true:=by simp;omega
     have QJ:=zZ qj
     have QR:=zZ qr
     have QB:=zZ qb
     clear h59 h59' hst hrc hbs qj qr qb hw hfin hsz
     go_upto_region 2 with fail
     go_cut [3,4,5] (fun u3 u4 u5 wc=>u5=.int .i64 w/\Fr (fun _=>False) wr wc (fun _=>False))
     case first=>
      refine wp_region_held_drew (S:=fun w'=>tO w' vb rb s (a:Nat) (0:Nat)) (by kernel_rfl) (zY QR).drew (fun hHeld=>?_)
      refine yC (i:=0) (d:=26) (v:=?_) (fuel:=17) rfl rfl (by kernel_rfl) (by kernel_rfl) (by kernel_rfl) (fun _ _ _ h=>h) (by rfl) ?_ (by assumption) ?_
      rotate_left
      ·intro w hSw;(try dsimp only at hSw);obtain⟨d0,d1,d2,d3,dz⟩:=hSw.cells;go_simp;try with_reducible rfl
      simp only [zC,zD,zE]
      refine zH (i:=1) (d:=27) (fuel:=16) ?_
      simp only [zC,zD,zE]
      refine zH (i:=2) (d:=28) (fuel:=15) ?_
      simp only [zC,zD,zE]
      refine yC (i:=3) (d:=29) (v:=?_) (fuel:=14) rfl rfl (by kernel_rfl) (by kernel_rfl) (by kernel_rfl) (fun _ _ _ h=>h) (by rfl) ?_ (by assumption) ?_
      rotate_left
      ·intro w hSw;(try dsimp only at hSw);obtain⟨d0,d1,d2,d3,dz⟩:=hSw.cells;go_simp;try with_reducible rfl
      simp only [zC,zD,zE]
      refine yC (i:=4) (d:=30) (v:=?_) (fuel:=13) rfl rfl (by kernel_rfl) (by kernel_rfl) (by kernel_rfl) (fun _ _ _ h=>h) (by rfl) ?_ (by assumption) ?_
      rotate_left
      ·intro w hSw;(try dsimp only at hSw);obtain⟨d0,d1,d2,d3,dz⟩:=hSw.cells;go_simp;try with_reducible rfl
      simp only [zC,zD,zE]
      refine zH (i:=5) (d:=31) (fuel:=12) ?_
      simp only [zC,zD,zE]
      refine zH (i:=6) (d:=32) (fuel:=11) ?_
      simp only [zC,zD,zE]
      refine yC (i:=7) (d:=33) (v:=?_) (fuel:=10) rfl rfl (by kernel_rfl) (by kernel_rfl) (by kernel_rfl) (fun _ _ _ h=>h) (by rfl) ?_ (by assumption) ?_
      rotate_left
      ·intro w hSw;(try dsimp only at hSw);obtain⟨d0,d1,d2,d3,dz⟩:=hSw.cells;go_simp;try with_reducible rfl
      simp only [zC,zD,zE]
      refine zH (i:=8) (d:=34) (fuel:=9) ?_
      simp only [zC,zD,zE]
      refine wpAnyH_ready (rs:=[9,14]) (by kernel_rfl) (by simp) ?_
      refine AllReadyH.cons rfl (fun K hK=>?_) (AllReadyH.cons rfl (fun K hK=>?_) AllReadyH.nil)
      ·go_simp
       go_at_call 59
       refine(zY H59 _).mono ?_
       rintro e w' ⟨rfl,hf⟩
       have hq':tO w' vb rb s (a:Nat) (0:Nat):=(zY QR).drew.block (hf.same vb hvz (fun h=>h)) (hf.same rb hrz (fun h=>h))
       have hvz':vb<w'.heap.size:=(zN.1 hq'.v).1
       have hrz':rb<w'.heap.size:=(zN.1 hq'.r).1
       have HF1:=zZ (hf.nilF)
       clear hf
       refine hK.out _ _ hq' (fun hHeld=>?_)
       clear hK K
       refine zH (i:=10) (d:=25) (fuel:=7) ?_
       simp only [zC,zD,zE]
       refine zH (i:=11) (d:=36) (fuel:=6) ?_
       simp only [zC,zD,zE]
       refine zH (i:=12) (d:=37) (fuel:=5) ?_
       simp only [zC,zD,zE]
       refine zH (i:=13) (d:=38) (fuel:=4) ?_
       simp only [zC,zD,zE]
       refine wpAnyH_ready (rs:=[14]) (by kernel_rfl) (by simp) ?_
       refine AllReadyH.cons rfl (fun K hK=>?_) AllReadyH.nil
       go_simp
       refine hK.out _ _ (hq'.block (zR _ _ _ hvz') (zR _ _ _ hrz')) (fun hHeld=>?_)
       clear hK K
       refine wpAnyH_ready (rs:=[15]) (by kernel_rfl) (by simp) ?_
       refine AllReadyH.cons rfl (fun K hK=>?_) AllReadyH.nil
       go_simp
       refine hK.out _ _ (hq'.block (zR _ _ _ hvz') (zR _ _ _ hrz')) (fun hHeld=>?_)
       clear hK K
       refine zH (i:=16) (d:=4) (fuel:=1) ?_
       simp only [zC,zD,zE]
       refine zH (i:=17) (d:=5) (fuel:=0) ?_
       simp only [zC,zD,zE]
       refine wpAnyH_done (by kernel_rfl) ?_ _
       go_wp2
       go_meet
       exact⟨rfl,(zY HF1).alloc _⟩
      ·go_simp
       have hq0:tO (wr.drew.alloc (.cells #[.int .i64 0,.int .i64 0,.int .i64 0,.slice none 0 0] 49)) vb rb s (a:Nat) (0:Nat):=(zY QR).drew.block (zR _ _ _ hvz) (zR _ _ _ hrz)
       refine hK.out _ _ hq0 (fun hHeld=>?_)
       clear hK K
       refine wpAnyH_ready (rs:=[9]) (by kernel_rfl) (by simp) ?_
       refine AllReadyH.cons rfl (fun K hK=>?_) AllReadyH.nil
       go_simp
       go_at_call 59
       refine(zY H59 _).mono ?_
       rintro e w' ⟨rfl,hf⟩
       have hq':tO w' vb rb s (a:Nat) (0:Nat):=hq0.block (hf.same vb (by show vb<(World.alloc _ _).heap.size;simp;omega) (fun h=>h)) (hf.same rb (by show rb<(World.alloc _ _).heap.size;simp;omega) (fun h=>h))
       have hvn:vb≠wr.heap.size:=by omega
       have hrn:rb≠wr.heap.size:=by omega
       obtain⟨⟨r0,r1,r2,r3⟩,rz⟩:=oT (w:=wr.drew) hf
       change w'.cell? ⟨wr.heap.size,0,none⟩=_ at r0
       change w'.cell? ⟨wr.heap.size,1,none⟩=_ at r1
       change w'.cell? ⟨wr.heap.size,2,none⟩=_ at r2
       change w'.cell? ⟨wr.heap.size,3,none⟩=_ at r3
       change ∀j,w'.frozen? ⟨wr.heap.size,j,none⟩=_ at rz
       have hnz:w'.heap[wr.heap.size]?=some (.cells #[.int .i64 0,.int .i64 0,.int .i64 0,.slice none 0 0] 49):=(hf.same wr.heap.size (by show wr.heap.size<(World.alloc _ _).heap.size;simp) (fun h=>h)).trans (heap_alloc_new wr.drew _)
       have HNZ:=zZ hnz
       have HF1:=zZ (hf.unalloc.nilF)
       clear hf hnz
       refine hK.out _ _ hq' (fun hHeld=>?_)
       clear hK K
       refine zH (i:=10) (d:=25) (fuel:=6) ?_
       simp only [zC,zD,zE]
       refine zH (i:=11) (d:=36) (fuel:=5) ?_
       simp only [zC,zD,zE]
       refine zH (i:=12) (d:=37) (fuel:=4) ?_
       simp only [zC,zD,zE]
       refine zH (i:=13) (d:=38) (fuel:=3) ?_
       simp only [zC,zD,zE]
       refine wpAnyH_ready (rs:=[15]) (by kernel_rfl) (by simp) ?_
       refine AllReadyH.cons rfl (fun K hK=>?_) AllReadyH.nil
       go_simp
       refine hK.out _ _ (hq'.block (tR hvn _ _ _ _) (tR hrn _ _ _ _)) (fun hHeld=>?_)
       clear hK K
       refine zH (i:=16) (d:=4) (fuel:=1) ?_
       simp only [zC,zD,zE]
       refine zH (i:=17) (d:=5) (fuel:=0) ?_
       simp only [zC,zD,zE]
       refine wpAnyH_done (by kernel_rfl) ?_ _
       go_wp2
       go_meet
       exact⟨rfl,pF (zY HF1) (.inr (Nat.le_refl _)) _ _ _ _⟩
     case rest=>
      obtain⟨rfl,hf⟩:=hcut
      have hq:=(zY QR).block (hf.same vb hvz (fun h=>h)) (hf.same rb hrz (fun h=>h))
      obtain⟨d0,d1,d2,d3,dz⟩:=hq.cells
      have HF1:=zZ ((hf.to (fun k=>k=rb)).setCell ⟨rb,2,none⟩ (.int .i64 w) (.inl rfl))
      have HQ:=zZ (hq.set2 w)
      clear hf hq
      go_wp2
      refine bodyPost_ret (results_none rfl _ _ _) rfl ⟨⟨_,rfl⟩,⟨ps,(zY QJ).reader (zY HF1),by rw [zY HF],by rw [zY HF];exact zY HQ⟩,zY HBR _ _ _ _ (zY QB) (zY QR) (zY HF1)⟩
    | inr q=>
     obtain⟨x,k⟩:=q
     have hkz:=iC _ _ _ hrc
     rw [List.length_drop,vA] at hkz
     have h59':∀W:World,Calls Tryz.prog 59 #[.string (s.extract a s.size)] W fun e w'=>∃fa fl fc,e=.returned (.tuple #[.agg #[.int .i64 x.1,.int .i64 x.2.1,.int .i64 x.2.2.1,.slice fa fl fc],.int .i64 k,.int .i64 0])/\yR w' (W.heap.size+1) (.slice fa fl fc) (zs x.2.2.2)/\Fr (fun _=>False) W w' (fun _=>False):=fun W=>(h59 W).mono fun e w' h=>by
      unfold oQ at h;rw [hbs,hrc] at h;obtain⟨h1,fa,fl,fc,h2,h3⟩:=h;exact⟨fa,fl,fc,h2,h3,h1⟩
     have H59:=zZ h59'
     have HRC:=zZ hrc
     have HST:=zZ hst
     have QJ:=zZ qj
     have QR:=zZ qr
     have QB:=zZ qb
     clear h59 h59' hst hrc hbs qj qr qb hsz
     go_upto_region 2 with fail
     go_cut [3,4,5] (fun u3 u4 u5 wc=>∃nb fa fl fc,u3=.pointer (some ⟨nb,0,none⟩)/\u4=.int .i64 k/\u5=.int .i64 0/\wc.heap[nb]?=some (.cells #[.int .i64 x.1,.int .i64 x.2.1,.int .i64 x.2.2.1,.slice fa fl fc] 49)/\Fr (fun _=>False) wr wc (fun _=>False)/\wr.heap.size<=nb/\yR wc wr.heap.size (.slice fa fl fc) (zs x.2.2.2)/\∀q,own (.slice fa fl fc) q->q≠nb)
     case first=>
      refine wp_region_held_drew (S:=fun w'=>tO w' vb rb s (a:Nat) (0:Nat)) (by kernel_rfl) (zY QR).drew (fun hHeld=>?_)
      refine yC (i:=0) (d:=26) (v:=?_) (fuel:=17) rfl rfl (by kernel_rfl) (by kernel_rfl) (by kernel_rfl) (fun _ _ _ h=>h) (by rfl) ?_ (by assumption) ?_
      rotate_left
      ·intro w hSw;(try dsimp only at hSw);obtain⟨d0,d1,d2,d3,dz⟩:=hSw.cells;go_simp;try with_reducible rfl
      simp only [zC,zD,zE]
      refine zH (i:=1) (d:=27) (fuel:=16) ?_
      simp only [zC,zD,zE]
      refine zH (i:=2) (d:=28) (fuel:=15) ?_
      simp only [zC,zD,zE]
      refine yC (i:=3) (d:=29) (v:=?_) (fuel:=14) rfl rfl (by kernel_rfl) (by kernel_rfl) (by kernel_rfl) (fun _ _ _ h=>h) (by rfl) ?_ (by assumption) ?_
      rotate_left
      ·intro w hSw;(try dsimp only at hSw);obtain⟨d0,d1,d2,d3,dz⟩:=hSw.cells;go_simp;try with_reducible rfl
      simp only [zC,zD,zE]
      refine yC (i:=4) (d:=30) (v:=?_) (fuel:=13) rfl rfl (by kernel_rfl) (by kernel_rfl) (by kernel_rfl) (fun _ _ _ h=>h) (by rfl) ?_ (by assumption) ?_
      rotate_left
      ·intro w hSw;(try dsimp only at hSw);obtain⟨d0,d1,d2,d3,dz⟩:=hSw.cells;go_simp;try with_reducible rfl
      simp only [zC,zD,zE]
      refine zH (i:=5) (d:=31) (fuel:=12) ?_
      simp only [zC,zD,zE]
      refine zH (i:=6) (d:=32) (fuel:=11) ?_
      simp only [zC,zD,zE]
      refine yC (i:=7) (d:=33) (v:=?_) (fuel:=10) rfl rfl (by kernel_rfl) (by kernel_rfl) (by kernel_rfl) (fun _ _ _ h=>h) (by rfl) ?_ (by assumption) ?_
      rotate_left
      ·intro w hSw;(try dsimp only at hSw);obtain⟨d0,d1,d2,d3,dz⟩:=hSw.cells;go_simp;try with_reducible rfl
      simp only [zC,zD,zE]
      refine zH (i:=8) (d:=34) (fuel:=9) ?_
      simp only [zC,zD,zE]
      refine wpAnyH_ready (rs:=[9,14]) (by kernel_rfl) (by simp) ?_
      refine AllReadyH.cons rfl (fun K hK=>?_) (AllReadyH.cons rfl (fun K hK=>?_) AllReadyH.nil)
      ·go_simp
       go_at_call 59
       refine(zY H59 _).mono ?_
       rintro e w' ⟨fa,fl,fc,rfl,ho,hf⟩
       have hq':tO w' vb rb s (a:Nat) (0:Nat):=(zY QR).drew.block (hf.same vb hvz (fun h=>h)) (hf.same rb hrz (fun h=>h))
       have hvz':vb<w'.heap.size:=(zN.1 hq'.v).1
       have hrz':rb<w'.heap.size:=(zN.1 hq'.r).1
       have HF1:=zZ (hf.nilF)
       have HO:=zZ ho
       clear ho
       clear hf
       refine hK.out _ _ hq' (fun hHeld=>?_)
       clear hK K
       refine zH (i:=10) (d:=25) (fuel:=7) ?_
       simp only [zC,zD,zE]
       refine zH (i:=11) (d:=36) (fuel:=6) ?_
       simp only [zC,zD,zE]
       refine zH (i:=12) (d:=37) (fuel:=5) ?_
       simp only [zC,zD,zE]
       refine zH (i:=13) (d:=38) (fuel:=4) ?_
       simp only [zC,zD,zE]
       refine wpAnyH_ready (rs:=[14]) (by kernel_rfl) (by simp) ?_
       refine AllReadyH.cons rfl (fun K hK=>?_) AllReadyH.nil
       go_simp
       refine hK.out _ _ (hq'.block (zR _ _ _ hvz') (zR _ _ _ hrz')) (fun hHeld=>?_)
       clear hK K
       refine wpAnyH_ready (rs:=[15]) (by kernel_rfl) (by simp) ?_
       refine AllReadyH.cons rfl (fun K hK=>?_) AllReadyH.nil
       go_simp
       refine hK.out _ _ (hq'.block (zR _ _ _ hvz') (zR _ _ _ hrz')) (fun hHeld=>?_)
       clear hK K
       refine zH (i:=16) (d:=4) (fuel:=1) ?_
       simp only [zC,zD,zE]
       refine zH (i:=17) (d:=5) (fuel:=0) ?_
       simp only [zC,zD,zE]
       refine wpAnyH_done (by kernel_rfl) ?_ _
       go_wp2
       go_meet
       exact⟨w'.heap.size,fa,fl,fc,rfl,rfl,rfl,heap_alloc_new _ _,(zY HF1).alloc _,(zY HF1).size,yA (tL (zY HO) (Nat.le_succ _)) (fun q hq=>zR _ _ _ (zS (zY HO) q hq).2),fun q hq=>by have:=(zS (zY HO) q hq).2;omega⟩
      ·go_simp
       have hq0:tO (wr.drew.alloc (.cells #[.int .i64 0,.int .i64 0,.int .i64 0,.slice none 0 0] 49)) vb rb s (a:Nat) (0:Nat):=(zY QR).drew.block (zR _ _ _ hvz) (zR _ _ _ hrz)
       refine hK.out _ _ hq0 (fun hHeld=>?_)
       clear hK K
       refine wpAnyH_ready (rs:=[9]) (by kernel_rfl) (by simp) ?_
       refine AllReadyH.cons rfl (fun K hK=>?_) AllReadyH.nil
       go_simp
       go_at_call 59
       refine(zY H59 _).mono ?_
       rintro e w' ⟨fa,fl,fc,rfl,ho,hf⟩
       have hq':tO w' vb rb s (a:Nat) (0:Nat):=hq0.block (hf.same vb (by show vb<(World.alloc _ _).heap.size;simp;omega) (fun h=>h)) (hf.same rb (by show rb<(World.alloc _ _).heap.size;simp;omega) (fun h=>h))
       have hvn:vb≠wr.heap.size:=by omega
       have hrn:rb≠wr.heap.size:=by omega
       obtain⟨⟨r0,r1,r2,r3⟩,rz⟩:=oT (w:=wr.drew) hf
       change w'.cell? ⟨wr.heap.size,0,none⟩=_ at r0
       change w'.cell? ⟨wr.heap.size,1,none⟩=_ at r1
       change w'.cell? ⟨wr.heap.size,2,none⟩=_ at r2
       change w'.cell? ⟨wr.heap.size,3,none⟩=_ at r3
       change ∀j,w'.frozen? ⟨wr.heap.size,j,none⟩=_ at rz
       have hnz:w'.heap[wr.heap.size]?=some (.cells #[.int .i64 0,.int .i64 0,.int .i64 0,.slice none 0 0] 49):=(hf.same wr.heap.size (by show wr.heap.size<(World.alloc _ _).heap.size;simp) (fun h=>h)).trans (heap_alloc_new wr.drew _)
       have HNZ:=zZ hnz
       have HF1:=zZ (hf.unalloc.nilF)
       have HO:=zZ ho
       clear ho
       clear hf hnz
       refine hK.out _ _ hq' (fun hHeld=>?_)
       clear hK K
       refine zH (i:=10) (d:=25) (fuel:=6) ?_
       simp only [zC,zD,zE]
       refine zH (i:=11) (d:=36) (fuel:=5) ?_
       simp only [zC,zD,zE]
       refine zH (i:=12) (d:=37) (fuel:=4) ?_
       simp only [zC,zD,zE]
       refine zH (i:=13) (d:=38) (fuel:=3) ?_
       simp only [zC,zD,zE]
       refine wpAnyH_ready (rs:=[15]) (by kernel_rfl) (by simp) ?_
       refine AllReadyH.cons rfl (fun K hK=>?_) AllReadyH.nil
       go_simp
       refine hK.out _ _ (hq'.block (tR hvn _ _ _ _) (tR hrn _ _ _ _)) (fun hHeld=>?_)
       clear hK K
       refine zH (i:=16) (d:=4) (fuel:=1) ?_
       simp only [zC,zD,zE]
       refine zH (i:=17) (d:=5) (fuel:=0) ?_
       simp only [zC,zD,zE]
       refine wpAnyH_done (by kernel_rfl) ?_ _
       go_wp2
       go_meet
       have ho:=zY HO
       have hsz1:((wr.alloc (.cells #[.int .i64 0,.int .i64 0,.int .i64 0,.slice none 0 0] 49)).drew).heap.size=wr.heap.size+1:=by show (World.alloc _ _).heap.size=_;simp
       rw [hsz1] at ho
       have hqn:∀q,own (.slice fa fl fc) q->q≠wr.heap.size:=fun q hq=>by have:=(zS ho q hq).1;omega
       exact⟨wr.heap.size,fa,fl,fc,rfl,rfl,rfl,zO0 (zY HNZ) _ _ _ _,pF (zY HF1) (.inr (Nat.le_refl _)) _ _ _ _,Nat.le_refl _,yA (tL ho (by omega)) (fun q hq=>tR (hqn q hq) _ _ _ _),hqn⟩
     case rest=>
      obtain⟨nb,fa,fl,fc,rfl,rfl,rfl,hnb,hf,hnz,ho,hon⟩:=hcut
      have hq:=(zY QR).block (hf.same vb hvz (fun h=>h)) (hf.same rb hrz (fun h=>h))
      obtain⟨d0,d1,d2,d3,dz⟩:=hq.cells
      have e0:wc.cell? ⟨nb,0,none⟩=some (.int .i64 x.1):=cell_of_row _ _ 0 _ 49 (0,0) hnb
      have e1:wc.cell? ⟨nb,1,none⟩=some (.int .i64 x.2.1):=cell_of_row _ _ 1 _ 49 (0,0) hnb
      have e2:wc.cell? ⟨nb,2,none⟩=some (.int .i64 x.2.2.1):=cell_of_row _ _ 2 _ 49 (0,0) hnb
      have e3:wc.cell? ⟨nb,3,none⟩=some (.slice fa fl fc):=cell_of_row _ _ 3 _ 49 (0,0) hnb
      have hnr:nb≠rb:=by omega
      have hnr':rb≠nb:=by omega
      have hak:(a:Int)+(k:Int)<=1000000000:=by omega
      have hak0:(0:Int)<=(a:Int)+(k:Int):=by omega
      have hak1:(a:Int)+(k:Int)<=s.size:=by omega
      have HQ1:=zZ (hq.set1 ((a:Int)+(k:Int)))
      have HF1:=zZ ((hf.to (fun k=>k=rb)).setCell ⟨rb,1,none⟩ (.int .i64 ((a:Int)+(k:Int))) (.inl rfl))
      have HO:=zZ ho
      have HON:=zZ hon
      have HNB:=zZ hnb
      clear hf hq ho hon hnb
      by_cases hx5:x.1=5
      ·have hxb:((x.1:Int)==5)=true:=beq_iff_eq.2 (by omega)
       have HX5:=zZ hx5
       clear hx5
       have h60:=zK1 (s.extract (a+k) s.size)
       have hsz2:(s.extract (a+k) s.size).size=s.size-(a+k):=by rw [ByteArray.size_extract];omega
       rw [hsz2] at h60
       obtain⟨z,hz⟩ : ∃z:Nat,z=if 0<s.size-(a+k) then 5 else 1:=⟨_,rfl⟩
       have hzI:(if 0<s.size-(a+k) then (5:Int) else 1)=(z:Int):=by rw [hz];split<;>rfl
       rw [hzI] at h60
       have H60:=zZ h60
       have HZ:=zZ hz
       clear h60 hzI hz hsz2
       go_upto_region 7 with fail
       go_cut [66] (fun u wd=>tO wd vb rb s ((a:Int)+(k:Int)) z/\Fr (fun k=>k=rb) (wc.setCell ⟨rb,1,none⟩ (.int .i64 ((a:Int)+(k:Int)))) wd (fun k=>k=rb))
       case first=>
        obtain⟨g0,g1,g2,g3,gz⟩:=(zY HQ1).cells
        go_region_held3 (fun w'=>w'.cell? ⟨vb,0,none⟩=some (.pointer (some ⟨rb,0,none⟩))/\w'.cell? ⟨rb,0,none⟩=some (.string s)/\w'.cell? ⟨rb,1,none⟩=some (.int .i64 ((a:Int)+(k:Int)))) (simp [go_sem,g0,g1,g2]) (first | (go_at_call 60;refine(zY H60 _).mono ?_;rintro e w' ⟨rfl,rfl⟩))
        all_goals (go_wp2_with fail;go_meet;exact⟨((zY HQ1).set2 z).drew,((Fr.refl (fun k=>k=rb) _).setCell ⟨rb,2,none⟩ _ (.inl rfl)).drew⟩)
       case rest=>
       obtain⟨hr4,hf4⟩:=hcut
       have hf5:=(zY HF1).trans hf4
       have hyr:=yr_of (y:=⟨ps,x,fa,fl,fc,(a:Int)+(k:Int),(z:Nat)⟩) (zY QJ) (zY QR) hf5 hr4 (zY HO) (fun q hq hlt=>(hf4.same q (by simpa [World.setCell] using hlt) hq).trans (zQ _ _ _ _ hq)) (by show ps.length<=_;omega)
       have hbk':=zY HBR _ _ _ _ (zY QB) (zY QR) hf5
       have hnb2:=(hf4.same nb (by simp [World.setCell];exact(zN.1 (zY HNB)).1) hnr).trans ((zQ _ _ _ _ hnr).trans (zY HNB))
       clear e0 e1 e2 e3
       have e0:wc.cell? ⟨nb,0,none⟩=some (.int .i64 x.1):=cell_of_row _ _ 0 _ 49 (0,0) hnb2
       have e1:wc.cell? ⟨nb,1,none⟩=some (.int .i64 x.2.1):=cell_of_row _ _ 1 _ 49 (0,0) hnb2
       have e2:wc.cell? ⟨nb,2,none⟩=some (.int .i64 x.2.2.1):=cell_of_row _ _ 2 _ 49 (0,0) hnb2
       have e3:wc.cell? ⟨nb,3,none⟩=some (.slice fa fl fc):=cell_of_row _ _ 3 _ 49 (0,0) hnb2
       clear hr4 hf4 hf5 hnb2
       go_upto_region 8 with fail
       obtain⟨yfn,ytmps,yas,ybd,hy,hR⟩:=zY HY _ _ hyr hbk'
       simp only [YA.enc] at hy
       have HRR:=zZ hR
       clear hyr hR hbk'
       refine(wpIn_wide (n:=n+1)).1 ?_
       gi_wp2
       refine(zY HRR).mono ?_
       rintro e W3 ⟨rfl,⟨hj3,hr3⟩,hb3⟩
       have HJ3:=zZ hj3
       have HR3:=zZ hr3
       have HB3:=zZ hb3
       clear hj3 hr3 hb3 hy
       gi_wp2
       go_wp2
       go_roundg (gk-1)
       case rel=>exact⟨ps++[(x,.slice fa fl fc)],a+k,z,zY HJ3,zY HR3,zY HB3,by rw [List.length_append];simp only [List.length_cons,List.length_nil];omega,.inr (yH3 (zY HST) (zY HRC) (zY HX5) (zY HZ))⟩
       case measure=>omega
      ·have hxb:((x.1:Int)==5)=false:=beq_eq_false_iff_ne.2 (by omega)
       have HX5:=zZ hx5
       clear hx5
       go_upto_region 8 with fail
       have hyr:=yr_of (y:=⟨ps,x,fa,fl,fc,(a:Int)+(k:Int),(0:Nat)⟩) (zY QJ) (zY QR) (zY HF1) (zY HQ1) (zY HO) (fun q hq _=>zQ _ _ _ _ hq) (by show ps.length<=_;omega)
       have hbk':=zY HBR _ _ _ _ (zY QB) (zY QR) (zY HF1)
       obtain⟨yfn,ytmps,yas,ybd,hy,hR⟩:=zY HY _ _ hyr hbk'
       simp only [YA.enc] at hy
       have HRR:=zZ hR
       clear hyr hR hbk'
       refine(wpIn_wide (n:=n+1)).1 ?_
       gi_wp2
       refine(zY HRR).mono ?_
       rintro e W3 ⟨rfl,⟨hj3,hr3⟩,hb3⟩
       have HJ3:=zZ hj3
       have HR3:=zZ hr3
       have HB3:=zZ hb3
       clear hj3 hr3 hb3 hy
       gi_wp2
       go_wp2
       go_roundg (gk-1)
       case rel=>exact⟨ps++[(x,.slice fa fl fc)],a+k,0,zY HJ3,zY HR3,zY HB3,by rw [List.length_append];simp only [List.length_cons,List.length_nil];omega,.inl ⟨rfl,by omega,by omega,zX6 (zY HST) (zY HRC) (zY HX5)⟩⟩
       case measure=>omega
   ·have hyb:((y:Int)==0)=false:=beq_eq_false_iff_ne.2 (by omega)
    have QJ:=zZ qj
    have QR:=zZ qr
    have QB:=zZ qb
    have HS:=zZ hst
    clear qj qr qb hst hy
    go_wp2
    go_end0
    have e:=zY HS
    refine⟨⟨_,rfl⟩,⟨ps,zY QJ,by rw [<-e],by rw [<-e];exact zY QR⟩,zY QB⟩
end
