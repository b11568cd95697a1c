/- Parts of the proof -/
import Derived.RangeFuncNested
import Derived.RangeFuncBound
import Derived.RangeFuncCalls
import Derived.RangeFuncLeaves
import Derived.Shelf.Abstract
import Derived.Shelf.RegionOpen
import Derived.WalkKit
import Derived.OwnWalkIn
import Derived.TacticsInMore
import Derived.LoopNIn
import Derived.LoopIn
import Derived.Test.YthhhfcdakfbpkaaGreatDoorP11
import Derived.Test.YthhhfcdakfbpkaaGreatDoorP13
import Derived.Test.YthhhfcdakfbpkaaGreatDoorP3
import Derived.Test.YthhhfcdakfbpkaaGreatDoorP12
import Derived.Test.YthhhfcdakfbpkaaGreatDoorP5
import Derived.Deep.RegionHeld3
namespace Go.Proofs.YthhhfcdakfbpkaaGreatDoor
set_option linter.unusedSimpArgs false
set_option linter.unusedVariables false
set_option maxRecDepth 100000
set_option maxHeartbeats 16000000
open Go.RowKit
variable {B C a b c d n p s:Nat}{w w':World}{sv v ve vk:Value}{nx:Int}{F R:List Nat}{T:TypeId}{xs:List Value}{cs:Array Value}
section
open Go.RowKit Go.Shelf
attribute [local go_sem] Oper.semAt_some
namespace Tw
structure Qq(w:World)(p g cap gv cv:Nat):Prop where
 hp:p<w.heap.size
 hg:g<w.heap.size
 eB:w.cell? ⟨p,1,none⟩=some (.slice (some ⟨g,0,none⟩) 1 cap)
 kids:w.cell? ⟨p,2,none⟩=some (.slice none 0 0)
 key:w.cell? ⟨g,0,none⟩=some (.int .i64 0)
 row:w.cell? ⟨g,1,none⟩=some (.slice (some ⟨gv,0,none⟩) 1 cv)
end Tw
end
section
open Go.RowKit Go.Shelf
attribute [local go_sem] Oper.semAt_some
namespace Tw
theorem jQ{l:Nat}{o:Obj}(h:B<=l):Below B w (w.putObj l o):=
 ⟨rfl,rfl,rfl,by simp[World.putObj],fun k hk=>World.putObj_heap_other (by omega)⟩
structure Apart(a b:Nat)(W W':World):Prop where
 os:W'.os=W.os
 tape:W'.tape=W.tape
 output:W'.output=W.output
 size:W.heap.size<=W'.heap.size
 block:∀k,k<a\/b<=k->k<W.heap.size->W'.heap[k]? =W.heap[k]?
theorem Apart.trans{u v:World}(h:Apart a b u v)(g:Apart a b v w):Apart a b u w:=
 ⟨g.os.trans h.os,g.tape.trans h.tape,g.output.trans h.output,Nat.le_trans h.size g.size,fun k hk hl=>(g.block k hk (nlA hl h.size)).trans (h.block k hk hl)⟩
theorem dQ{l:Nat}{o:Obj}(h:a<=l)(h2:l<b):Apart a b w (w.putObj l o):=
 ⟨rfl,rfl,rfl,by simp[World.putObj],fun k hk _=>World.putObj_heap_other (by omega)⟩
theorem Apart.cell(h:Apart a b w w'){p:Addr}(hp:p.block<a\/b<=p.block)(hl:p.block<w.heap.size):w'.cell? p=w.cell? p:=World.cell?_of_block (w:=w) (h.block p.block hp hl)
theorem Ky(p:Nat)(w:World):Calls Tryz.prog 42 #[.pointer (some ⟨p,1,none⟩)] w fun x w'=>x=.returned (.func (.func 105) #[] #[.pointer (some ⟨w.heap.size,0,none⟩)])/\w'=w.alloc (.cells #[.pointer (some ⟨p,1,none⟩)] 213):=by
 go_enter Tryz.func42,Tryz.ntmps42;go_wp2_with fail;go_ret;exact⟨rfl,rfl⟩
theorem xS(tv rv:Value)(w:World):Calls Tryz.prog 152 #[tv,.nilIface,rv] w fun x w'=>x=.returned (.bool true)/\w'=w:=by
 go_enter Tryz.func152,Tryz.ntmps152;go_wp2_with fail;go_ret;exact⟨rfl,rfl⟩
end Tw
end
section
open Go.RowKit Go.Shelf
attribute [local go_sem] Oper.semAt_some
namespace Mg
def chooses(cs:ax)(row:List V):Option Px.E->Except Nat Bool
 |none=> .ok true
 |some e=>match value cs row e with
  |.error c=> .error c
  |.ok v=> .ok (isTrue v)
end Mg
namespace Tw
open Bt
def QP(w:World)(r:Except Nat Bool)(x:Ending)(w':World):Prop:=Below w.heap.size w w'/\match r with
 |.ok b=>x=.returned (.bool b)
 |.error c=>x=ku 0 c
theorem ym(cs:Mg.ax)(hcs:Mg.dJ cs)(row:List Mg.V)(hr:Mg.iy cs row)(sv rv:Value)(o:Option Px.E)(ho:∀e,o=some e->e.ok 2000/\Mg.knows cs e=true/\∃t,Mg.typ cs e=.ok t)(p:Nat)(w:World)(hp:p<w.heap.size)(hpc:w.cell? ⟨p,0,none⟩=some sv)(hC:Mn.aL w sv cs)(hR:Mn.dM w rv row):
   Calls Tryz.prog 152 #[.pointer (some ⟨p,0,none⟩),ev? o,rv] w (QP w (Mg.chooses cs row o)):=by
 cases o with
 |none=>
  refine(xS _ _ w).mono ?_;rintro x w1 ⟨rfl,rfl⟩;exact⟨Below.refl _ _,rfl⟩
 |some e=>
  obtain⟨h1,h2,t,h3⟩:=ho e rfl;have hv:=Mn.xm cs hcs row hr sv rv e t h1 h2 h3 w hC hR;obtain⟨et,ex,hev⟩:=fZ e;have vP:ev? (some e)=.iface et ex:=hev;rw[vP];rw[hev]at hv;have HV:=hd hv;obtain⟨ao,cap,hrv,_⟩:=hR;obtain⟨bo,cb,hsv,_⟩:=hC;subst hrv hsv
  have HC:Hid (Mg.chooses cs row (some e)=match Mg.value cs row e with
   |.error c=> .error c
   |.ok v=> .ok (Mg.isTrue v)):=rfl
  clear hv hev vP;go_enter Tryz.func152,Tryz.ntmps152;go_wp2_with fail;refine HV.out.mono ?_;rintro x w1 ⟨hb,hx⟩;have HB1:=hd hb;have HX:=hd hx;clear hb hx
  cases hval:Mg.value cs row e with
  |error c=>
   rw[hval]at HX HC;obtain rfl:=HX.out;exact⟨rfl,HB1.out,by rw[HC.out];rfl⟩
  |ok v=>
   rw[hval]at HX HC;obtain rfl:=HX.out;clear HX hval;go_wp2_with fail;refine(Mn.vJ v _).mono ?_;rintro x w2 ⟨rfl,hb2⟩;have HB2:Hid (Below w.heap.size w w2):=HB1.out.trans (hb2.mono HB1.out.size);clear hb2;generalize Mg.isTrue v=f at*;go_wp2_with fail;go_ret;exact⟨HB2.out,by rw[HC.out];rfl⟩
end Tw
end
section
open Go.RowKit Go.Shelf
attribute [local go_sem] Oper.semAt_some
namespace Mn
theorem aL.keep{cs:Mg.ax}(h:aL w v cs)(hs:w.heap.size<=w'.heap.size)(hk:∀g∈Bt.own v,w'.heap[g]? =w.heap[g]?):aL w' v cs:=by
 obtain⟨ao,cap,rfl,h2⟩:=h;refine⟨ao,cap,rfl,fun k hkl=> ?_⟩;obtain⟨g,rfl,h4,h5,h6⟩:=h2 k hkl;have hb:=hk g (by simp[Bt.own,Value.ownBlock]);exact⟨g,rfl,by omega,(World.cell?_of_block (w:=w) hb).trans h5,(World.cell?_of_block (w:=w) hb).trans h6⟩
theorem dM.keep{row:List Mg.V}(h:dM w v row)(hs:w.heap.size<=w'.heap.size)(hk:∀g∈Bt.own v,w'.heap[g]? =w.heap[g]?):dM w' v row:=by
 obtain⟨ao,cap,rfl,h2⟩:=h;refine⟨ao,cap,rfl,fun k hkl=> ?_⟩;obtain⟨g,rfl,h4,h5,h6,h7⟩:=h2 k hkl;have hb:=hk g (by simp[Bt.own,Value.ownBlock]);exact⟨g,rfl,by omega,(World.cell?_of_block (w:=w) hb).trans h5,(World.cell?_of_block (w:=w) hb).trans h6,(World.cell?_of_block (w:=w) hb).trans h7⟩
end Mn
namespace Tw
open Bt
theorem Ir(B l:Nat)(Lt:List (Value×Value))(G:List (Value×Value)->List Nat->World->Prop)(X:List PanicEntry->World->Prop)(hY:Gives B l Lt G X)(w:World)(hB:B<=w.heap.size)(d lo hi:Nat)(p:Nat)(ve vk:Value)(F:List Nat)(hhi:hi<=7)(hlo:d=0\/1<=lo)(hN:Nd Tr w d lo hi Lt ve vk F)(hp:p<w.heap.size)(c1:w.cell? ⟨p,1,none⟩=some ve)(c2:w.cell? ⟨p,2,none⟩=some vk)
   (hK:∀Q C W,G Q C W->w.heap.size<=W.heap.size/\∀k∈p::F,W.heap[k]? =w.heap[k]?) (n bx:Nat) (C:List Nat) (W:World) (hG:G [] C W) (hb:bx<W.heap.size) (hbx:W.cell? ⟨bx,0,none⟩=some (.pointer (some ⟨p,1,none⟩))):
   CallsIn Fence.wide n Tryz.prog 105 #[.func (.yield l) #[] #[],.pointer (some ⟨bx,0,none⟩)] W (Given B C W G X Lt (.tuple #[])):=by
 have HW:=hd (GM B l Lt G X hY w hB d lo hi Lt p 1 ve vk F [] [] hhi hlo hN hp c1 c2 hK (by simp) (n-1) C W hG);have hpW:p<W.heap.size:=nlA hp (hK [] C W hG).1;clear hN c1 c2 hK hG hY;refine callsIn_of_wp Tryz.func105 rfl trivial ?_ rfl;simp only[Tryz.ntmps105,List.size_toArray,List.length_cons,List.length_nil,Nat.reduceAdd,Nat.reduceSub,Array.replicate_succ,Array.replicate_zero,List.push_toArray,List.append_toArray,List.nil_append,List.cons_append]
 gi_wp2
 refine⟨trivial,(fun h=>by cases h),HW.out.mono ?_⟩;rintro e W3 ⟨C',hkf,(⟨rfl,hG3⟩|⟨c,rfl,hX⟩)⟩
 · gi_wp2
   go_end0
   exact⟨C',hkf,.inl ⟨rfl,by simpa using hG3⟩⟩
 exact⟨rfl,C',hkf,.inr ⟨c,rfl,hX⟩⟩
structure Qi(w:World)(l:Nat)(cs:Mg.ax)(o:Option Px.E)(rowOf:Value×Value->List Mg.V)(L:List (Value×Value))(K:List Nat)(G:List (Value×Value)->List Nat->World->Prop)(X:List PanicEntry->World->Prop):Prop where
 more:∀Q C W W',G Q C W->Below W.heap.size W W'->G Q C W'
 low:∀Q C W,G Q C W->∀k∈C,w.heap.size+4<=k/\k<W.heap.size
 apart:∀Q C W W',G Q C W->Apart w.heap.size (w.heap.size+4) W W'->G Q C W'
 keep:∀Q C W,G Q C W->w.heap.size<=W.heap.size/\∀k∈K,W.heap[k]? =w.heap[k]?
 Ji:∀e∈L,NR e
 yield:∀Q e S,Q++e::S=L->Mg.chooses cs (rowOf e) o=.ok true->∀m C W,G Q C W->w.heap.size+4<=W.heap.size->YieldAt Fence.wide m Tryz.prog l #[e.1,e.2] W fun x W'=>∃C',Bt.Kc w.heap.size C W C' W'/\((x=.returned (.bool true)/\G (Q++[e]) C' W')\/(∃c,x=.panicked c/\X c W'))
 skip:∀Q e S,Q++e::S=L->Mg.chooses cs (rowOf e) o=.ok false->∀C W,G Q C W->G (Q++[e]) C W
 err:∀Q e S c,Q++e::S=L->Mg.chooses cs (rowOf e) o=.error c->∀C W,G Q C W->X [{v:=.iface 74 (.agg #[.int .i64 ((0:Nat):Int),.int .i64 (c:Int)]),recovered:=false}] W
 xpart:∀c W W',X c W->Apart w.heap.size (w.heap.size+4) W W'->X c W'
theorem AP(n l bt bw p:Nat)(cs:Mg.ax)(hcs:Mg.dJ cs)(sv:Value)(o:Option Px.E)(ho:∀e,o=some e->e.ok 2000/\Mg.knows cs e=true/\∃t,Mg.typ cs e=.ok t)(rowOf:Value×Value->List Mg.V)(L:List (Value×Value))(K:List Nat)(G:List (Value×Value)->List Nat->World->Prop)(X:List PanicEntry->World->Prop)(w:World)(hA:Qi w l cs o rowOf L K G X)
   (hbt:bt<w.heap.size) (ht:w.cell? ⟨bt,0,none⟩=some (.pointer (some ⟨p,0,none⟩))) (hbw:bw<w.heap.size) (hw:w.cell? ⟨bw,0,none⟩=some (ev? o)) (d lo hi:Nat) (ve vk:Value) (F:List Nat) (hhi:hi<=7) (hlo:d=0\/1<=lo) (hN:Nd Tr w d lo hi L ve vk F) (hp:p<w.heap.size)
   (c0:w.cell? ⟨p,0,none⟩=some sv) (c1:w.cell? ⟨p,1,none⟩=some ve) (c2:w.cell? ⟨p,2,none⟩=some vk) (hC:Mn.aL w sv cs) (hrows:∀e∈L,Mn.dM w e.2 (rowOf e)/\Mg.iy cs (rowOf e))
   (hK1:bt∈K/\bw∈K/\p∈K/\(∀k∈F,k∈K)/\(∀g∈own sv,g∈K)/\∀e∈L,∀g∈own e.2,g∈K) (hG:G [] [] w):
   CallsIn Fence.wide n Tryz.prog 151 #[.func (.yield l) #[] #[],.pointer (some ⟨bt,0,none⟩),.pointer (some ⟨bw,0,none⟩)] w fun e W'=>(e=.returned (.tuple #[])/\∃C,G L C W')\/(∃c,e=.panicked c/\X c W'):=by
 refine mo Tryz.func151 rfl ?_;simp only[Tryz.ntmps151,List.size_toArray,List.length_cons,List.length_nil,Nat.reduceAdd,Nat.reduceSub,Array.replicate_succ,Array.replicate_zero,List.push_toArray,List.append_toArray,List.nil_append,List.cons_append];have HASK:=hd hA;have HND:=hd hN;have HCO:=hd hC;have HRO:=hd hrows;have HK1:=hd hK1;have HG0:=hd hG;have HO:=hd ho;have HCS:=hd hcs;clear hA hN hC hrows hK1 hG ho hcs;refine uO (n:=n) ?_
 gi_wp2
 refine uO (n:=n) ?_
 have HB0:Hid (Below w.heap.size w (w.alloc (.cells #[.func (.yield l) #[] #[]] 214))):=by show Below _ _ _;go_grown
 have d0:=(HB0.out.cell (p:=⟨bt,0,none⟩) hbt).trans ht;have Py:=nlA hbt HB0.out.size
 gi_wp2
 refine⟨trivial,(fun h=>by cases h),(callsIn_wide.2 (Ky p _)).mono ?_⟩;rintro x w1 ⟨rfl,rfl⟩
 gi_wp2
 have HV:Hid (Below w.heap.size w ((w.alloc (.cells #[.func (.yield l) #[] #[]] 214)).alloc (.cells #[.pointer (some ⟨p,1,none⟩)] 213))):=by show Below _ _ _;go_grown
 have HVs:Hid (((w.alloc (.cells #[.func (.yield l) #[] #[]] 214)).alloc (.cells #[.pointer (some ⟨p,1,none⟩)] 213)).heap.size=w.heap.size+2):=by show _=_;simp
 have HYB:=hd ((af.new w #[.func (.yield l) #[] #[]] 214).alloc (.cells #[.pointer (some ⟨p,1,none⟩)] 213));have HAB:=hd (af.new (w.alloc (.cells #[.func (.yield l) #[] #[]] 214)) #[.pointer (some ⟨p,1,none⟩)] 213);generalize ((w.alloc (.cells #[.func (.yield l) #[] #[]] 214)).alloc (.cells #[.pointer (some ⟨p,1,none⟩)] 213))=V at*;rw[World.size_alloc]at HAB;refine rU (qV (n:=n) (gf:=105) (lb:=#[.pointer (some ⟨w.heap.size+1,0,none⟩)]) rfl (enters_of Tryz.func105 (by kernel_rfl) rfl) ?_);rw[HVs.out];intro W1 hrec hdef hb1 hs1;have HBW:Hid (Below w.heap.size w W1):=HV.out.trans (hb1.mono (by omega));have HYC:Hid (W1.cell? ⟨w.heap.size,0,none⟩=some (.func (.yield l) #[] #[])):=(hb1.cell (p:=⟨w.heap.size,0,none⟩) (by simp)).trans ((HYB.out.cell 0).trans rfl);have HAC:Hid (W1.cell? ⟨w.heap.size+1,0,none⟩=some (.pointer (some ⟨p,1,none⟩))):=(hb1.cell (p:=⟨w.heap.size+1,0,none⟩) (by simp)).trans ((HAB.out.cell 0).trans rfl)
 have hlt1:w.heap.size+3<W1.heap.size:=by rw[hs1];omega
 have Dk:=hd hrec;have Iu:=hd hdef
 have HS1:Hid (W1.heap.size=w.heap.size+4):=by show _=_;rw[hs1]
 clear HV HVs HYB HAB hb1 hdef d0 Py HB0;show CallsIn Fence.wide (n-1) Tryz.prog 105 #[.func (.yield (w.heap.size+2+1)) #[] #[],.pointer (some ⟨w.heap.size+1,0,none⟩)] W1 _;have hG1:G [] [] W1:=HASK.out.more _ _ _ _ HG0.out HBW.out
 refine(Ir W1.heap.size (w.heap.size+2+1) L
   (fun Q C W=>G Q C W/\W1.heap.size<=W.heap.size/\W.heap[w.heap.size+2+1]? =W1.heap[w.heap.size+2+1]? /\W.heap[w.heap.size+2]? =W1.heap[w.heap.size+2]? /\W.heap[w.heap.size]? =W1.heap[w.heap.size]?)
   (fun c W=>X c W/\W.heap[w.heap.size+2]? =W1.heap[w.heap.size+2]?) ⟨?_,fun Q C W h k hk=>(HASK.out.low Q C W h.1 k hk).2,HASK.out.Ji,?_⟩ W1 (nlr _) d lo hi p ve vk F hhi hlo (HND.out.below HBW.out) (nlA hp HBW.out.size) ((HBW.out.cell (p:=⟨p,1,none⟩) hp).trans c1) ((HBW.out.cell (p:=⟨p,2,none⟩) hp).trans c2) ?_ (n-1) (w.heap.size+1) [] W1 ⟨hG1,nlr _,rfl,rfl,rfl⟩ (by omega) HAC.out).mono ?_
 · rintro Q C W W' ⟨g1,g2,g3,g4,g5⟩ hb;exact⟨HASK.out.more _ _ _ _ g1 hb,Nat.le_trans g2 hb.size,(hb.block _ (by omega)).trans g3,(hb.block _ (by omega)).trans g4,(hb.block _ (by omega)).trans g5⟩
 · rintro Q e S hQ m C W ⟨g1,g2,g3,g4,g5⟩;have hrW:=g3.trans Dk.out
   have heL:e∈L:=by rw[<-hQ];simp
   obtain⟨z,ra,rn,rc,hez⟩:=HASK.out.Ji e heL;obtain⟨hrv,JC⟩:=HRO.out e heL;obtain⟨k1,k2⟩:=HASK.out.keep _ _ _ g1;have HLC:=hd (HASK.out.low _ _ _ g1);have HGQ:=hd g1;have HQ:=hd hQ;refine⟨_,_,_,_,run_yield hrW rfl,wU trivial ⟨_,Tryz.func151⟩ ?_⟩;simp only[iT]
   gi_wp2
   refine⟨_,run_beginRound hrW rfl,?_⟩;generalize hW2:W.putObj (w.heap.size+2+1) _=W2
   have HP:Hid (∀k,k≠w.heap.size+2+1->W2.heap[k]? =W.heap[k]?):=fun k hk=>by rw[<-hW2];exact World.putObj_heap_other hk
   have HR2:Hid (∃r:Loop,W1.heap[w.heap.size+2+1]? =some (.loop r)/\r.pending=none/\r.state=.ready/\W2.heap[w.heap.size+2+1]? =some (.loop {r with state:=.busy})):=⟨_,Dk.out,rfl,rfl,by rw[<-hW2];exact World.putObj_heap_same (by omega)⟩
   have hs2:W2.heap.size=W.heap.size:=by rw[<-hW2];simp[World.putObj]
   have HG2:Hid (G Q C W2):=by rw[<-hW2];exact HASK.out.apart _ _ _ _ g1 (dQ (by omega) (by omega))
   have HKB:Hid (∀k∈K,W2.heap[k]? =w.heap[k]?):=(HASK.out.keep _ _ _ HG2.out).2;have e0:=(World.cell?_of_block (w:=w) (a:=⟨bt,0,none⟩) (HKB.out bt HK1.out.1)).trans ht;have e1:=(World.cell?_of_block (w:=w) (a:=⟨bw,0,none⟩) (HKB.out bw HK1.out.2.1)).trans hw
   have e2:W2.cell? ⟨w.heap.size,0,none⟩=some (.func (.yield l) #[] #[]):=by
    rw[World.cell?_of_block (w:=W1) ((HP.out w.heap.size (by omega)).trans g5)];exact HYC.out
   have hlt2:bt<W2.heap.size:=by omega
   have hlt3:bw<W2.heap.size:=by omega
   have Oz:w.heap.size<W2.heap.size:=by omega
   have HIC:=hd (ym cs HCS.out (rowOf e) JC sv e.2 o HO.out p W2 (by omega) ((World.cell?_of_block (w:=w) (a:=⟨p,0,none⟩) (HKB.out p HK1.out.2.2.1)).trans c0) (HCO.out.keep (by omega) fun g hg=>HKB.out g (HK1.out.2.2.2.2.1 g hg)) (hrv.keep (by omega) fun g hg=>HKB.out g (HK1.out.2.2.2.2.2 e heL g hg)));have HSZ:Hid (W1.heap.size<=W.heap.size):=g2;have HD4:=hd g4;have HD5:=hd g5;obtain⟨ek,er⟩:=e;simp only at HIC hez⊢;injection hez with hz1 hz2;subst hz1 hz2;clear hW2 hrv JC k1 k2 g1 hQ heL
   gi_wp2
   refine⟨trivial,(fun h=>by cases h),(CallsIn.inRound _ (callsIn_wide.2 HIC.out)).mono ?_⟩;rintro x W3 ⟨hb3,hx3⟩;have HG3:Hid (G Q C W3):=HASK.out.more _ _ _ _ HG2.out hb3;have hs3:=hb3.size;have HB3:=hd hb3;have e3:=(hb3.cell (p:=⟨w.heap.size,0,none⟩) Oz).trans e2;have hlt5:=nlA Oz hs3
   cases hch:Mg.chooses cs (rowOf (.int .i64 z,.slice ra rn rc)) o with
   |error c=>
    rw[hch]at hx3;obtain rfl:=hx3;refine⟨rfl,C,⟨?_,?_,fun k hk=> .inl hk⟩,.inr ⟨_,rfl,HASK.out.err Q _ S c HQ.out hch _ _ HG3.out,?_⟩⟩
    · omega
    · intro k hk1 hk2 _;have:=HSZ.out;rw[HB3.out.block k (by omega),HP.out k (by omega)]
    rw[HB3.out.block _ (by omega),HP.out _ (by omega)];exact HD4.out
   |ok b=>
    rw[hch]at hx3;obtain rfl:=hx3
    cases b with
    |false=>
     have HG4:=hd (HASK.out.skip Q _ S HQ.out hch _ _ HG3.out)
     gi_wp2
     refine⟨(fun f h=>by cases h),?_⟩
     gi_wp2
     obtain⟨r,hr1,hp1,Nz,hr2⟩:=HR2.out;have hr4:=(HB3.out.block (w.heap.size+2+1) (by omega)).trans hr2;refine⟨_,_,run_endRound none hr4,C,⟨?_,?_,fun k hk=> .inl hk⟩,.inl ⟨rfl,HASK.out.apart _ _ _ _ HG4.out (dQ (by omega) (by omega)),?_,?_,?_,?_⟩⟩
     · simp[World.putObj];omega
     · intro k hk1 hk2 _;rw[World.putObj_heap_other (by omega),HB3.out.block k (by omega),HP.out k (by omega)]
     · simp[World.putObj];omega
     · rw[World.putObj_heap_same (by omega),hr1]
       cases r
       cases hp1
       cases Nz
       rfl
     · rw[World.putObj_heap_other (by omega),HB3.out.block _ (by omega),HP.out _ (by omega)];exact HD4.out
     rw[World.putObj_heap_other (by omega),HB3.out.block _ (by omega),HP.out _ (by omega)];exact HD5.out
    |true=>
     obtain⟨fn',tmps',assign',body',hy,hR⟩:=HASK.out.yield Q _ S HQ.out hch (m-1) C W3 HG3.out (by omega)
     gi_wp2
     refine⟨(fun h=>by cases h),(hR:RoundIn (Fence.wide.inRound _) _ _ _ _ _ _ _ _ _).mono ?_⟩;rintro x4 W4 ⟨C4,hkf,(⟨rfl,g4'⟩|⟨c,rfl,hx⟩)⟩
     · gi_wp2
       obtain⟨r,hr1,hp1,Nz,hr2⟩:=HR2.out;have hs4:=hkf.size;have hlc:=HLC.out;have hr4:=((hkf.same (w.heap.size+2+1) (by omega) (by omega) (fun hx=>by have:=(hlc _ hx).1;omega)).trans (HB3.out.block (w.heap.size+2+1) (by omega))).trans hr2;refine⟨_,_,run_endRound none hr4,C4,⟨?_,?_,fun k hk=>by rcases hkf.new k hk with h|h;exact .inl h;right;omega⟩,.inl ⟨rfl,HASK.out.apart _ _ _ _ g4' (dQ (by omega) (by omega)),?_,?_,?_,?_⟩⟩
       · simp[World.putObj];omega
       · intro k hk1 hk2 hk3;rw[World.putObj_heap_other (by omega),hkf.same k (by omega) (by omega) hk3,HB3.out.block k (by omega),HP.out k (by omega)]
       · simp[World.putObj];omega
       · rw[World.putObj_heap_same (by omega),hr1]
         cases r
         cases hp1
         cases Nz
         rfl
       · rw[World.putObj_heap_other (by omega),hkf.same _ (by omega) (by omega) (fun hx=>by have:=(hlc _ hx).1;omega),HB3.out.block _ (by omega),HP.out _ (by omega)];exact HD4.out
       rw[World.putObj_heap_other (by omega),hkf.same _ (by omega) (by omega) (fun hx=>by have:=(hlc _ hx).1;omega),HB3.out.block _ (by omega),HP.out _ (by omega)];exact HD5.out
     have hlc:=HLC.out;refine⟨rfl,C4,⟨?_,?_,fun k hk=>by rcases hkf.new k hk with h|h;exact .inl h;right;omega⟩,.inr ⟨c,rfl,hx,?_⟩⟩
     · have:=hkf.size;omega
     · intro k hk1 hk2 hk3;rw[hkf.same k (by omega) (by omega) hk3,HB3.out.block k (by omega),HP.out k (by omega)]
     rw[hkf.same _ (by omega) (by omega) (fun hx=>by have:=(hlc _ hx).1;omega),HB3.out.block _ (by omega),HP.out _ (by omega)];exact HD4.out
 · rintro Q C W ⟨g1,g2,_⟩;refine⟨g2,fun k hk=> ?_⟩
   have hkK:k∈K:=by
    rcases List.mem_cons.1 hk with rfl|hk
    · exact HK1.out.2.2.1
    exact HK1.out.2.2.2.1 k hk
   have hkl:k<w.heap.size:=by
    rcases List.mem_cons.1 hk with rfl|hk
    · exact hp
    exact HND.out.lt k hk
   rw[(HASK.out.keep _ _ _ g1).2 k hkK,HBW.out.block k hkl]
 rintro e W' ⟨C',hkf,(⟨rfl,g1,g2,g3,g4,g5⟩|⟨c,rfl,hx,hd'⟩)⟩
 · have hr2:=g3.trans Dk.out;have hd2:=g4.trans Iu.out;refine⟨_,_,run_endLoop hr2 (by simp[iT]),?_⟩;refine⟨by simp,.inl ⟨_,_,rfl,run_takeDeferred ((World.putObj_heap_other (by omega)).trans hd2),?_⟩⟩;exact⟨_,results_none rfl _ _ _,.inl ⟨rfl,C',HASK.out.apart _ _ _ _ (HASK.out.apart _ _ _ _ g1 (dQ (by omega) (by omega))) (dQ (by omega) (by omega))⟩⟩
 have hd2:=hd'.trans Iu.out;refine⟨by simp,.inl ⟨_,_,rfl,run_takeDeferred hd2,?_⟩⟩;exact .inr ⟨c,rfl,HASK.out.xpart _ _ _ hx (dQ (by omega) (by omega))⟩
end Tw
end
section
namespace Tb
open Bt
abbrev aU:=List (Int×List Mg.V)
def bg(w:World):List (Value×Value)->aU->Prop
 |[],[]=>True
 |e::L,m::M=>(e.1=.int .i64 m.1/\Mn.dM w e.2 m.2)/\bg w L M
 |_,_=>False
theorem bg.len:∀{L:List (Value×Value)} {M:aU},bg w L M->L.length=M.length
 |[],[],_=>rfl
 |_::_,_::_,h=>by simp[bg.len h.2]
 |[],_::_,h=>h.elim
 |_::_,[],h=>h.elim
theorem bg.keep(hs:w.heap.size<=w'.heap.size):∀{L:List (Value×Value)} {M:aU},bg w L M->(∀e∈L,∀g∈own e.2,w'.heap[g]? =w.heap[g]?)->bg w' L M
 |[],[],_,_=>trivial
 |e::L,m::M,h,hk=>⟨⟨h.1.1,h.1.2.keep hs fun g hg=>hk e (by simp) g hg⟩,bg.keep hs h.2 fun e he=>hk e (by simp[he])⟩
 |[],_::_,h,_=>h.elim
 |_::_,[],h,_=>h.elim
theorem bg.snoc{e:Value×Value}{m:Int×List Mg.V}(h1:e.1=.int .i64 m.1)(h2:Mn.dM w e.2 m.2):∀{L:List (Value×Value)} {M:aU},bg w L M->bg w (L++[e]) (M++[m])
 |[],[],_=>⟨⟨h1,h2⟩,trivial⟩
 |_::_,_::_,h=>⟨h.1,bg.snoc h1 h2 h.2⟩
 |[],_::_,h=>h.elim
 |_::_,[],h=>h.elim
theorem yA{r:List Mg.V}(h:Mn.dM w v r):∃a n c,v=.slice a n c:=by obtain⟨a,c,h,_⟩:=h;exact⟨_,_,_,h⟩
theorem bg.less{z:Int}:∀{L:List (Value×Value)} {M:aU},bg w L M->(∀m∈M,m.1<z)->Less L z
 |[],[],_,_=>fun e he=>by simp at he
 |e::L,m::M,h,hz=>fun x hx=>by
  rcases List.mem_cons.1 hx with rfl|hx
  · obtain⟨a,n,c,hv⟩:=yA h.1.2;exact⟨m.1,a,n,c,by rw[<-h.1.1,<-hv],hz m (by simp)⟩
  exact bg.less h.2 (fun m hm=>hz m (by simp[hm])) x hx
 |[],_::_,h,_=>h.elim
 |_::_,[],h,_=>h.elim
theorem bg.mem:∀{L:List (Value×Value)} {M:aU},bg w L M->∀e∈L,∃m∈M,e.1=.int .i64 m.1/\Mn.dM w e.2 m.2
 |[],[],_,e,he=>by simp at he
 |a::L,m::M,h,e,he=>by
  rcases List.mem_cons.1 he with rfl|he
  · exact⟨m,by simp,h.1⟩
  obtain⟨x,hx,h2⟩:=bg.mem h.2 e he;exact⟨x,by simp[hx],h2⟩
 |[],_::_,h,_,_=>h.elim
 |_::_,[],h,_,_=>h.elim
theorem bg.ord:∀{L:List (Value×Value)} {M:aU},bg w L M->M.Pairwise (fun a b=>a.1<b.1)->Ord L
 |[],[],_,_=>List.Pairwise.nil
 |e::L,m::M,h,ho=>List.Pairwise.cons (fun x hx=>by
     obtain⟨y,hy,h1,_⟩:=bg.mem h.2 x hx
     exact⟨m.1,y.1,h.1.1,h1,List.rel_of_pairwise_cons ho hy⟩) (bg.ord h.2 ho.of_cons)
 |[],_::_,h,_=>h.elim
 |_::_,[],h,_=>h.elim
theorem bg.Ji{L:List (Value×Value)}{M:aU}(h:bg w L M):∀e∈L,NR e:=fun e he=>by
 obtain⟨m,_,h1,h2⟩:=h.mem e he;obtain⟨a,n,c,hv⟩:=yA h2;exact⟨m.1,a,n,c,by rw[<-h1,<-hv]⟩
def GJ(sv ve vk:Value)(c n:Int):Array Value:=#[sv,ve,vk,.int .i64 c,.int .i64 n]
structure TabAt(w:World)(p:Nat)(cs:Mg.ax)(M:aU)(nx:Int)(F R:List Nat)(sv ve vk:Value)(d:Nat)(L:List (Value×Value)):Prop where
 blk:af w p (GJ sv ve vk (M.length:Nat) nx) 128
 cols:Mn.aL w sv cs
 root:Root w d L ve vk F
 eB:bg w L M
 nodup:(p::F).Nodup
 rows:∀e∈L,∀g∈own e.2,g∈R
 colr:∀g∈own sv,g∈R
 apart:∀g∈R,g∉p::F
 low:∀g∈R,g<w.heap.size
structure o7(cs:Mg.ax)(M:aU)(nx:Int):Prop where
 cols:Mg.dJ cs
 rows:∀m∈M,Mg.iy cs m.2
 rise:M.Pairwise fun a b=>a.1<b.1
 less:∀m∈M,m.1<nx
 pos:0<=nx
 few:M.length<=200
theorem TabAt.lt{cs:Mg.ax}{M:aU}{L:List (Value×Value)}(h:TabAt w p cs M nx F R sv ve vk d L):∀g∈p::(F++R),g<w.heap.size:=by
 intro g hg;simp only[List.mem_cons,List.mem_append]at hg;rcases hg with rfl|hg|hg
 · exact h.blk.lt
 · exact h.root.lt g hg
 exact h.low g hg
theorem TabAt.keep{cs:Mg.ax}{M:aU}{L:List (Value×Value)}(h:TabAt w p cs M nx F R sv ve vk d L)(hs:w.heap.size<=w'.heap.size)(hk:∀g∈p::(F++R),w'.heap[g]? =w.heap[g]?):TabAt w' p cs M nx F R sv ve vk d L:=
 ⟨by have:=hk p (by simp);unfold af at*;rw[this];exact h.blk,h.cols.keep hs fun g hg=>hk g (by simp[h.colr g hg]),h.root.keep fun g hg=>hk g (by simp[hg]),h.eB.keep hs fun e he g hg=>hk g (by simp[h.rows e he g hg]),h.nodup,h.rows,h.colr,h.apart,fun g hg=>nlA (h.low g hg) hs⟩
theorem TabAt.below{cs:Mg.ax}{M:aU}{L:List (Value×Value)}(h:TabAt w p cs M nx F R sv ve vk d L)(hb:Below w.heap.size w w'):TabAt w' p cs M nx F R sv ve vk d L:=
 h.keep hb.size fun g hg=>hb.block g (h.lt g hg)
def numb(nx:Int):List (List Mg.V)->aU
 |[]=>[]
 |r::l=>(nx,r)::numb (nx+1) l
theorem wF(r:List Mg.V):∀(l:List (List Mg.V)) (nx:Int),numb nx (l++[r])=numb nx l++[(nx+l.length,r)]
 |[],nx=>by simp[numb]
 |a::l,nx=>by simp[numb,wF r l (nx+1)];omega
theorem uM:∀(l:List (List Mg.V)) (nx:Int),(numb nx l).length=l.length
 |[],_=>rfl
 |a::l,nx=>by simp[numb,uM l]
theorem iH:∀{l:List (List Mg.V)} {nx:Int} {m:Int×List Mg.V},m∈numb nx l->nx<=m.1/\m.1<nx+l.length/\m.2∈l
 |[],_,_,h=>by simp[numb]at h
 |a::l,nx,m,h=>by
  simp only[numb,List.mem_cons]at h;rcases h with rfl|h
  · exact⟨Int.le_refl _,by simp;omega,by simp⟩
  obtain⟨h1,h2,h3⟩:=iH h;exact⟨by omega,by simp;omega,by simp[h3]⟩
theorem pJ:∀(l:List (List Mg.V)) (nx:Int),(numb nx l).Pairwise fun a b=>a.1<b.1
 |[],_=>List.Pairwise.nil
 |a::l,nx=>List.Pairwise.cons (fun x hx=>by have:=(iH hx).1;show nx<x.1;omega) (pJ l _)
theorem o7.more{cs:Mg.ax}{M:aU}(h:o7 cs M nx)(l:List (List Mg.V))(hr:∀r∈l,Mg.iy cs r)(hf:M.length+l.length<=200):o7 cs (M++numb nx l) (nx+l.length):=by
 refine⟨h.cols,fun m hm=> ?_,?_,fun m hm=> ?_,by have:=h.pos;omega,by simp[uM];omega⟩
 · rcases List.mem_append.1 hm with hm|hm
   · exact h.rows m hm
   exact hr _ (iH hm).2.2
 · exact List.pairwise_append.2 ⟨h.rise,pJ l nx,fun a ha b hb=>by have:=h.less a ha;have:=(iH hb).1;omega⟩
 rcases List.mem_append.1 hm with hm|hm
 · have:=h.less m hm;omega
 exact(iH hm).2.1
def rowsM(cs:Mg.ax):List (List Px.E)->Except Nat (List (List Mg.V))
 |[]=> .ok []
 |r::l=>match Mg.vals [] [] r with
  |.error c=> .error c
  |.ok v=>match Mg.nullsM cs v with
   |.error c=> .error c
   |.ok _=>match rowsM cs l with
    |.error c=> .error c
    |.ok vs=> .ok (v::vs)
theorem wJ{cs:Mg.ax}{r:List Px.E}{v:List Mg.V}(hv:Mg.vals [] [] r=.ok v)(hn:Mg.nullsM cs v=.ok ()):∀{l:List (List Px.E)} {vs:List (List Mg.V)},rowsM cs l=.ok vs->rowsM cs (l++[r])=.ok (vs++[v])
 |[],vs,h=>by simp only[rowsM]at h;cases h;simp[rowsM,hv,hn]
 |a::l,vs,h=>by
  simp only[rowsM]at h
  cases ha:Mg.vals [] [] a with
  |error d=>rw[ha]at h;cases h
  |ok u=>
   rw[ha]at h;simp only at h
   cases hb:Mg.nullsM cs u with
   |error d=>rw[hb]at h;cases h
   |ok _=>
    rw[hb]at h;simp only at h
    cases hr:rowsM cs l with
    |error d=>rw[hr]at h;cases h
    |ok m=>
     rw[hr]at h;simp only at h
     cases h
     simp only[List.cons_append,rowsM,ha,hb,wJ hv hn hr]
theorem tX{cs:Mg.ax}{r:List Px.E}{s:List (List Px.E)}(he:Mg.vals [] [] r=.error c\/∃v,Mg.vals [] [] r=.ok v/\Mg.nullsM cs v=.error c):∀{l:List (List Px.E)} {vs:List (List Mg.V)},rowsM cs l=.ok vs->rowsM cs (l++r::s)=.error c
 |[],vs,h=>by
  rcases he with he|⟨v,h1,h2⟩
  · simp[rowsM,he]
  simp[rowsM,h1,h2]
 |a::l,vs,h=>by
  simp only[rowsM]at h
  cases ha:Mg.vals [] [] a with
  |error d=>rw[ha]at h;cases h
  |ok u=>
   rw[ha]at h;simp only at h
   cases hb:Mg.nullsM cs u with
   |error d=>rw[hb]at h;cases h
   |ok _=>
    rw[hb]at h;simp only at h
    cases hr:rowsM cs l with
    |error d=>rw[hr]at h;cases h
    |ok m=>simp only[List.cons_append,rowsM,ha,hb,tX he hr]
def iO(cs:Mg.ax)(n:Nat)(l:List (List Px.E)):Except Nat (List (List Mg.V)):=match mf cs l with
 |.error c=> .error c
 |.ok ds=>match Mg.bO [] ds with
  |.error c=> .error c
  |.ok _=>match rowsM cs l with
   |.error c=> .error c
   |.ok vs=>if n+vs.length<=200 then .ok vs else .error 15
end Tb
end
section
namespace Mg
theorem Ei{cs:ax}{row:List V}:∀{r:List Px.E} {l:List V},vals cs row r=.ok l->∀(k:Nat) (h:k<r.length) (h2:k<l.length),value cs row r[k]=.ok l[k]
 |[],l,h,k,hk,_=>by simp at hk
 |a::r,l,h,k,hk,h2=>by
  simp only[vals]at h
  cases ha:value cs row a with
  |error d=>rw[ha]at h;cases h
  |ok w=>
   rw[ha]at h;simp only at h
   cases hr:vals cs row r with
   |error d=>rw[hr]at h;cases h
   |ok m=>
    rw[hr]at h;simp only at h
    cases h
    cases k with
    |zero=>simpa using ha
    |succ k=>
     have:=Ei hr k (by simpa using hk) (by simpa using h2);simpa using this
theorem Gi(a b:Nat):fits a b=fits b a:=by
 unfold fits;rw[Bool.eq_iff_iff];simp only[Bool.or_eq_true,beq_iff_eq];omega
theorem xx:iy [] []:=⟨rfl,fun v h=>by simp at h,fun i c v h=>by simp at h⟩
theorem xz:dJ []:=⟨by simp,fun c h=>by simp at h⟩
theorem uK{cs:ax}{r:List Px.E}(j:Nat)(hj:j<r.length)(hj2:j<cs.length):(r[j],cs[j].2%4)∈fw cs r:=by
 unfold fw;refine List.mem_map.2 ⟨(r[j],cs[j]),?_,rfl⟩
 have:(r.zip cs)[j]'(by simp;omega)=(r[j],cs[j]):=by simp
 rw[<-this];exact List.getElem_mem _
theorem IJ{cs:ax}(hcs:dJ cs){l:List (List Px.E)}{r:List Px.E}{v:List V}(hr:r∈l)(hlen:r.length=cs.length)(hc:bO [] (aN cs l)=.ok ())(hok:∀e∈r,e.ok 2000)(hv:vals [] [] r=.ok v):iy cs v:=by
 have hl:=BO hv
 have key:∀(k:Nat) (h1:k<cs.length) (h2:k<v.length),CK v[k]/\Has v[k] (cs[k].2%4):=by
  intro k h1 h2
  have hk:k<r.length:=by omega
  obtain⟨h3,t,h4,h5⟩:=lK hc (r[k],cs[k].2%4) (List.mem_flatMap.2 ⟨r,hr,uK k hk h1⟩);obtain⟨a1,a2⟩:=sound xx r[k] t v[k] (hok _ (List.getElem_mem hk)) h4 (Ei hv k hk h2);refine⟨a1,uQ a2 (by rw[Gi];exact h5) ?_ fun h0=>I6 (h0▸a2)⟩;have:=hcs.2 cs[k] (List.getElem_mem h1);omega
 refine⟨by omega,fun x hx=> ?_,fun i c x h1 h2=> ?_⟩
 · obtain⟨k,hk,rfl⟩:=List.getElem_of_mem hx;exact(key k (by omega) hk).1
 obtain⟨p1,q1⟩:=List.getElem?_eq_some_iff.1 h1;obtain⟨p2,q2⟩:=List.getElem?_eq_some_iff.1 h2;have:=(key i p1 p2).2;rw[q1,q2]at this;exact this
end Mg
namespace Tb
open Bt
theorem own_ne{b':Nat}{T':TypeId}{s' n':Nat}{v':Value}{xs':List Value}(h:w.ownsRow b T s v n xs)(h':w.ownsRow b' T' s' v' n' xs')(hT:T≠T'):∀g∈own v,g∉own v':=by
 intro g hg hg';rcases h.2 with⟨rfl,_⟩|⟨g1,_,_,rfl,_,h1,_⟩
 · simp[own,Value.ownBlock]at hg
 rcases h'.2 with⟨rfl,_⟩|⟨g2,_,_,rfl,_,h2,_⟩
 · simp[own,Value.ownBlock]at hg'
 simp[own,Value.ownBlock]at hg hg';subst hg hg';rw[h1]at h2;injection h2 with h2;injection h2 with _ h2;exact hT h2
theorem yH{r:List Mg.V}(h:w.ownsRow b 39 3 v r.length (r.flatMap Mg.vC)):Mn.dM w v r:=by
 obtain⟨ao,cap,rfl,h2⟩:=dm h;refine⟨ao,cap,rfl,fun k hk=> ?_⟩;obtain⟨a,b,c⟩:=Mg.LY r k hk;obtain⟨g,hg,hgl,e0⟩:=h2 _ _ a;obtain⟨g1,hg1,_,e1⟩:=h2 _ _ b;obtain⟨g2,hg2,_,e2⟩:=h2 _ _ c;rw[hg]at hg1 hg2;injection hg1 with hg1;injection hg1 with hg1;injection hg2 with hg2;injection hg2 with hg2;subst hg1 hg2;exact⟨g,hg,hgl,e0,e1,e2⟩
theorem Lg{w6:World}{cs:Mg.ax}{M:aU}{L:List (Value×Value)}(h:TabAt w p cs M nx F R sv ve vk d L){ra:Option Addr}{rn rc:Nat}{r:List Mg.V}{d':Nat}{ve' vk':Value}{F':List Nat}
   (ht:yz w w6 p 1 (GJ sv ve vk (M.length:Nat) nx) 128 (L++[(.int .i64 nx,.slice ra rn rc)]) F ((M.length:Nat)+1) d' ve' vk' F') (hr:Mn.dM w (.slice ra rn rc) r) (hv:∀g∈own (.slice ra rn rc),g∈R):
   TabAt (w6.setCell ⟨p,4,none⟩ (.int .i64 (nx+1))) p cs (M++[(nx,r)]) (nx+1) F' R sv ve' vk' d' (L++[(.int .i64 nx,.slice ra rn rc)]):=by
 have hpl:=h.blk.lt
 have hpF:p∉F':=fun hx=>by
  have a1:=List.count_pos_iff.2 hx;have a2:=eG h.nodup p;have a3:=ht.cnt p;simp only[bA,if_true]at a2;omega
 have T6:aC (p::F) w (w6.setCell ⟨p,4,none⟩ (.int .i64 (nx+1))):=ht.qO.set _ _ (.inl (by simp))
 have hkR:∀g∈R,(w6.setCell ⟨p,4,none⟩ (.int .i64 (nx+1))).heap[g]? =w.heap[g]?:=fun g hg=>T6.block g (h.low g hg) (h.apart g hg)
 refine⟨?_,h.cols.keep T6.size fun g hg=>hkR g (h.colr g hg),ht.root.keep fun k hk=>Below.heap_setCell _ _ _ _ (fun e=>hpF (by rw[<-(show k=p from e)];exact hk)),?_,?_,?_,h.colr,?_,fun g hg=>nlA (h.low g hg) T6.size⟩
 · have:=ht.blk.set 4 (.int .i64 (nx+1));simpa[GJ]using this
 · refine bg.snoc rfl (hr.keep T6.size fun g hg=>hkR g (hv g hg)) (h.eB.keep T6.size fun e he g hg=>hkR g (h.rows e he g hg))
 · refine oZ fun x=> ?_
   have a1:=eG h.nodup x;have a3:=ht.cnt x
   have a4:p=x->F'.count x=0:=fun e=>by subst e;exact List.count_eq_zero.2 hpF
   have i1:=iY p x;simp only[bA]at a1⊢;by_cases b1:p=x
   · have:=a4 b1;omega
   simp only[b1,if_false]at*;omega
 · intro e he g hg;rcases List.mem_append.1 he with he|he
   · exact h.rows e he g hg
   simp at he;subst he;exact hv g hg
 intro g hg hx;have a0:=h.apart g hg;have a1:=h.low g hg;simp only[List.mem_cons,not_or]at a0;rcases List.mem_cons.1 hx with rfl|hx
 · exact a0.1 rfl
 have a2:=List.count_pos_iff.2 hx;rcases ht.cnt g with a3|a3
 · exact a0.2 (List.count_pos_iff.1 (by omega))
 omega
end Tb
end
section
namespace Tb
open Bt
theorem JJ(w:World):Calls Tryz.prog 73 #[.bool false,.int .i64 15] w fun x w'=>x=ku 0 15/\w'=w:=iR 15 w
def Hy(w w':World)(p:Nat)(cs:Mg.ax)(M:aU)(nx:Int)(F R:List Nat):Prop:=∃F' R' sv ve vk d L,TabAt w' p cs M nx F' R' sv ve vk d L/\aC (p::F) w w'/\(∀x,F'.count x<=F.count x\/(w.heap.size<=x/\F'.count x<=1))/\∀g∈R',g∈R\/w.heap.size<=g
def InsOut(w:World)(p:Nat)(cs:Mg.ax)(M:aU)(nx:Int)(F R:List Nat)(r:Except Nat (List (List Mg.V)))(x:Ending)(w':World):Prop:=match r with
 |.error c=>x=ku 0 c/\Below w.heap.size w w'
 |.ok vs=>x=.returned (.int .i64 (vs.length:Nat))/\Hy w w' p cs (M++numb nx vs) (nx+(vs.length:Nat)) F R
structure tZ(w wr:World)(v:Value)(k:Nat)(vs:List Value)(rws:List (List Mg.V)):Prop where
 low:Below w.heap.size w wr
 len:vs.length=k/\rws.length=k
 own:wr.ownsRow w.heap.size 27 1 v k vs
 row:∀(j:Nat) (h1:j<vs.length) (h2:j<rws.length),wr.ownsRow w.heap.size 39 3 vs[j] rws[j].length (rws[j].flatMap Mg.vC)
theorem tZ.below{wr wr':World}{k:Nat}{vs:List Value}{rws:List (List Mg.V)}(h:tZ w wr v k vs rws)(hb:Below wr.heap.size wr wr'):tZ w wr' v k vs rws:=
 ⟨h.low.trans (hb.mono h.low.size),h.len,dA h.own hb,fun j h1 h2=>dA (h.row j h1 h2) hb⟩
theorem jI(h:w.ownsRow b T s v n xs):∀g∈own v,b<=g/\g<w.heap.size:=fun g hg=>h.lt g (by simpa[own]using hg)
theorem insert_any(l:List (List Px.E))(hle:l.length<=1000000)(hdm:∀n,(Mg.aN n l).length<=1000000)(hrl:∀r∈l,r.length<=1000000)(hok:∀r∈l,∀e∈r,e.ok 2000)(tn:ByteArray)(p:Nat)(cs:Mg.ax)(M:aU)(nx:Int)(F R:List Nat)(sv ve vk:Value)(d:Nat)(L:List (Value×Value))(v:Value)(w:World)
   (hT:TabAt w p cs M nx F R sv ve vk d L) (hO:o7 cs M nx) (hnx:nx+l.length<=1000000000000000000) (hR:mU w v l):
   Calls Tryz.prog 35 #[.pointer (some ⟨p,0,none⟩),.agg #[.string tn,v]] w (InsOut w p cs M nx F R (iO cs M.length l)):=by
 obtain⟨i0,hi,hz0,hz1,hz2⟩:=info_parts Tryz.info27;have HT:=hd hT;have HOK:=hd hO;have HR:=hd hR;have HEO:=hd hok;have hp:=hT.blk.lt;have hpc:=(hT.blk.cell 0).trans rfl;obtain⟨vs0,hv1,hv2⟩:=hR;obtain⟨ao,cap,rfl,hVV⟩:=dm hv1;have HVS:=hd hVV;have HV2:=hd hv2
 have HB0:Hid (Below w.heap.size w (w.alloc (.cells #[.string tn,.slice ao l.length cap] 93))):=by show Below _ _ _;go_grown
 have HK0:=hd (af.new w #[.string tn,.slice ao l.length cap] 93);have hl0:=HK0.out.lt;have HDR:=hd (oD cs hO.cols sv l hle (hdm cs) hrl p _ (w.alloc (.cells #[.string tn,.slice ao l.length cap] 93)) (nlA hp HB0.out.size) ((HB0.out.cell (p:=⟨p,0,none⟩) hp).trans hpc) (hT.cols.below HB0.out) (HR.out.below HB0.out))
 have HIM:Hid (iO cs M.length l=match mf cs l with
  |.error c=> .error c
  |.ok ds=>match Mg.bO [] ds with
   |.error c=> .error c
   |.ok _=>match rowsM cs l with
    |.error c=> .error c
    |.ok vs=>if M.length+vs.length<=200 then .ok vs else .error 15):=rfl
 have HDM:=hd (hdm cs);have HRL:=hd hrl;have HPC:=hd hpc;clear hT hO hok hv1 hv2 hVV hdm hrl hpc;go_enter Tryz.func35,Tryz.ntmps35;go_wp2_with fail;refine HDR.out.mono ?_;rintro x w1 ⟨hb1,hx1⟩;have HB1:Hid (Below w.heap.size w w1):=HB0.out.trans (hb1.mono HB0.out.size);have HK1:=hd (HK0.out.below hb1 hl0);have HX1:=hd hx1;clear hb1 hx1 HDR;rcases hwd:mf cs l with c|ds
 · rw[hwd]at HX1 HIM;obtain rfl:=HX1.out;exact⟨rfl,by rw[HIM.out];exact⟨rfl,HB1.out⟩⟩
 rw[hwd]at HX1 HIM
 have hds:ds=Mg.aN cs l/\∀r∈l,r.length=cs.length:=by
  unfold mf at hwd
  split at hwd
  · rename_i h;injection hwd with hwd;exact⟨hwd.symm,fun r hr=>by simpa using List.all_eq_true.1 h r hr⟩
  cases hwd
 obtain⟨PY,OH⟩:=hds;subst PY;have HWD:=hd OH;obtain⟨u,rfl,hown1⟩:=HX1.out
 have HCK:=hd (wX [] Mg.xz (.slice none 0 0) (Mg.aN cs l) (fun dd hdd=>by
  obtain⟨r,hr,hm⟩:=List.mem_flatMap.1 hdd;obtain⟨y,hy,rfl⟩:=List.mem_map.1 hm
  exact HEO.out r hr y.1 (List.of_mem_zip hy).1) HDM.out u w1 (Mn.aL.nil w1) (Ts.ai hown1 (Nat.zero_le _)))
 obtain⟨uo,un,rfl⟩:=au hown1;clear hown1 HX1 hwd OH;go_wp2_with fail;refine HCK.out.mono ?_;rintro x w2 ⟨hb2,hx2⟩;have HB2:Hid (Below w.heap.size w w2):=HB1.out.trans (hb2.mono HB1.out.size);have HK2:=hd (HK1.out.below hb2 HK1.out.lt);have HX2:=hd hx2;clear hb2 hx2 HCK;rcases hck:Mg.bO [] (Mg.aN cs l)with c|un
 · rw[hck]at HX2 HIM;obtain rfl:=HX2.out;exact⟨rfl,by rw[HIM.out];exact⟨rfl,HB2.out⟩⟩
 rw[hck]at HX2 HIM;obtain rfl:=HX2.out;have Fu:=hd hck;have k1:=HK2.out.cell 1;simp at k1;have hlk:=HK2.out.lt;clear HX2 hck HK1 HB1;go_wp2_with fail;go_loopw [5,19] (fun v i wr=>∃(k:Nat) (vs:List Value) (rws:List (List Mg.V)),i=.int .i64 k/\k<=l.length/\Hid (tZ w wr v k vs rws)/\Hid (rowsM cs (l.take k)=.ok rws)/\Hid (∀r∈rws,Mg.iy cs r)) (fun _ i _=>l.length-(intOf i).toNat)
 case atStart=>exact⟨0,[],[],rfl,Nat.zero_le _,⟨HB2.out,⟨rfl,rfl⟩,World.ownsRow_nil _ _ _ _,fun j h1=>by simp at h1⟩,rfl,fun r hr=>by simp at hr⟩
 case round=>
  obtain⟨k,vs,rws,rfl,hk,HF,HRM,HRK⟩:=hrel;obtain⟨va,vc,rfl⟩:=au HF.out.own;by_cases hlt:k<l.length
  · obtain⟨u,hu1,hu2⟩:=HV2.out k hlt;obtain⟨g,hao,hg,c0⟩:=HVS.out k u hu1;have d0:=(HF.out.low.cell (p:=⟨g,k,none⟩) hg).trans c0;have hg2:=nlA hg HF.out.low.size
    have hes:∀e∈l[k],e.ok 2000/\Mg.knows [] e=true/\∃t,Mg.typ [] e=.ok t:=fun e he=>by
     refine⟨HEO.out _ (List.getElem_mem hlt) e he,?_⟩;obtain⟨j,hj,rfl⟩:=List.getElem_of_mem he
     have hjc:j<cs.length:=by have:=HWD.out _ (List.getElem_mem hlt);omega
     obtain⟨h3,t,h4,_⟩:=Mg.lK Fu.out _ (List.mem_flatMap.2 ⟨l[k],List.getElem_mem hlt,Mg.uK j hj hjc⟩);exact⟨h3,t,h4⟩
    have HVL:=hd (mX [] Mg.xz [] Mg.xx (.slice none 0 0) (.slice none 0 0) l[k] hes (HRL.out _ (List.getElem_mem hlt)) u wr (Mn.aL.nil wr) ⟨none,0,rfl,fun k hk=>by simp at hk⟩ (dA hu2 HF.out.low));obtain⟨uo',uc',QT⟩:=au hu2;have zn:=hd (gH l k hlt)
    have HRO:Hid (∀v,Mg.vals [] [] l[k]=.ok v->Mg.iy cs v):=fun v hv=>Mg.IJ HOK.out.cols (List.getElem_mem hlt) (HWD.out _ (List.getElem_mem hlt)) Fu.out (HEO.out _ (List.getElem_mem hlt)) hv
    have HLR:Hid (l[k].length=cs.length):=HWD.out _ (List.getElem_mem hlt);generalize l[k]=r at*;subst QT;clear c0 hu1 hu2 hes;subst hao;go_wp2_with fail;refine HVL.out.mono ?_;rintro x w3 ⟨hb3,hx3⟩;have HF3:=hd (HF.out.below hb3);have HX3:=hd hx3;have HS3:=hd hb3.size;clear hb3 hx3 HVL
    cases hvv:Mg.vals [] [] r with
    |error c=>
     rw[hvv]at HX3;obtain rfl:=HX3.out
     have HE:rowsM cs l=.error c:=by rw[zn.out.2];exact tX (.inl hvv) HRM.out
     rw[HE]at HIM;exact⟨rfl,by rw[HIM.out];exact⟨rfl,HF3.out.low⟩⟩
    |ok rv=>
     rw[hvv]at HX3;obtain⟨v3,rfl,hown3⟩:=HX3.out;have HRV:=hd (HRO.out rv hvv);have QR:=hd hown3;have hT3:=HT.out.below HF3.out.low;have HCN:=hd (sZ cs HOK.out.cols rv HRV.out.len sv v3 p w3 hT3.blk.lt ((hT3.blk.cell 0).trans rfl) hT3.cols (yH hown3));obtain⟨v3a,v3c,rfl⟩:=au hown3;clear hown3 HX3 hT3;go_wp2_with fail;refine HCN.out.mono ?_;rintro x w4 ⟨hb4,hx4⟩;have HF4:=hd (HF3.out.below hb4);have QL:=hd (dA QR.out hb4);have HX4:=hd hx4;clear hb4 hx4 HCN
     cases hnn:Mg.nullsM cs rv with
     |error c=>
      rw[hnn]at HX4;obtain rfl:=HX4.out
      have HE:rowsM cs l=.error c:=by rw[zn.out.2];exact tX (.inr ⟨rv,hvv,hnn⟩) HRM.out
      rw[HE]at HIM;exact⟨rfl,by rw[HIM.out];exact⟨rfl,HF4.out.low⟩⟩
     |ok uu=>
      rw[hnn]at HX4;obtain rfl:=HX4.out
      have HSN:Hid (rowsM cs (l.take (k+1))=.ok (rws++[rv])):=by show _=_;rw[zn.out.1];exact wJ hvv hnn HRM.out
      have hll:k<=1000000:=by omega
      clear HX4 hnn hvv;have HO2:=hd (HF4.out.own.alloc (.cells #[.slice v3a rv.length v3c] 27))
      go_wp2_with(first
       |(at_builtin;refine bu rfl _ _ 174 rfl w.heap.size 27 i0 (.slice none 0 0) 1 24 Tryz.underlying174 hi hz0 hz1 hz2 rfl (by decide) _ _ _ rfl HO2.out ⟨w4.heap.size,0,none⟩ 1 1 [.slice v3a rv.length v3c] rfl rfl ?c1 ?c2 ?c3 ?c4 ?c5 ?_)
       |fail)
      try(case c1=>exact zh w4 _ _)
      try(case c2=>first|rfl|(intro u hu;simp at hu;subst hu;rfl))
      case c3=>simp only[maxLen];omega
      case c4=>omega
      case c5=>have:=HF4.out.low.size;simp;omega
      intro v' w5 hown5 mZ _
      have HF5:Hid (tZ w w5 v' (k+1) (vs++[.slice v3a rv.length v3c]) (rws++[rv])):=by
       have hB5:Below w.heap.size w w5:=dB (HF4.out.low.alloc HF4.out.low.size _) mZ (fun k hk=>(HO2.out.lt k hk).1) (by have:=HF4.out.low.size;simp;omega);have hT5:aC (own (.slice va k vc)) (w4.alloc (.cells #[.slice v3a rv.length v3c] 27)) w5:=aC.grown mZ (fun k hk=>by simp[own,hk]);have hlen:=HF4.out.len
       have hkeep:∀(u:Value) (n:Nat) (xs:List Value),w4.ownsRow w.heap.size 39 3 u n xs->w5.ownsRow w.heap.size 39 3 u n xs:=fun u n xs hu=>aG (hu.alloc _) hT5 (own_ne hu HF4.out.own (by decide))
       refine⟨hB5,⟨by simp[hlen.1],by simp[hlen.2]⟩,hown5,fun j h1 h2=> ?_⟩;rcases Nat.lt_or_ge j k with hj|hj
       · rw[List.getElem_append_left (by omega),List.getElem_append_left (by omega)];exact hkeep _ _ _ (HF4.out.row j (by omega) (by omega))
       have hjk:j=k:=by simp[hlen.1]at h1;omega
       subst hjk;rw[List.getElem_append_right (by omega),List.getElem_append_right (by omega)];simp only[hlen.1,hlen.2,Nat.sub_self,List.getElem_cons_zero];exact hkeep _ _ _ (Ts.ai QL.out HF.out.low.size)
      obtain⟨va',vc',rfl⟩:=au hown5;clear hown5 mZ HO2;go_wp2_with fail;go_roundw
      case rel=>exact⟨k+1,_,_,rfl,by omega,HF5,HSN,fun r hr=>by rcases List.mem_append.1 hr with hr|hr;exact HRK.out r hr;simp at hr;subst hr;exact HRV.out⟩
      case measure=>simp[intOf];omega
  obtain rfl:k=l.length:=by omega
  have Ph:Hid (rowsM cs l=.ok rws):=by have:=HRM.out;rwa [List.take_length]at this
  rw[Ph.out]at HIM;have hT4:=HT.out.below HF.out.low;have HT4:=hd hT4;have hp4:=hT4.blk.lt;have n3:wr.cell? ⟨p,3,none⟩=some (.int .i64 (M.length:Nat)):=(hT4.blk.cell 3).trans rfl;have hlen:=HF.out.len;have hMl:=HOK.out.few;have HLEN:=hd hlen;clear hT4 hlen HRM;go_wp2_with fail;refine(Ti.yU p 1 (M.length:Nat) _ hp4 n3).mono ?_;rintro x wr ⟨rfl,rfl⟩;by_cases hfull:M.length+l.length<=200
  · have hf1:(M.length:Int)+(l.length:Int)<=200:=by omega
    have MK:Hid (iO cs M.length l=.ok rws):=by show _=_;rw[HIM.out];rw[if_pos (by rw[HLEN.out.2];exact hfull)]
    clear HIM;go_wp2_with fail;refine(aM _ _).mono ?_;rintro x wr ⟨rfl,rfl⟩
    rename World=>W0
    have HR2:Hid (∀g∈vs.flatMap own,w.heap.size<=g/\g<W0.heap.size):=fun g hg=>by
     obtain⟨u,hu,hgu⟩:=List.mem_flatMap.1 hg;obtain⟨j,hj,rfl⟩:=List.getElem_of_mem hu;exact jI (HF.out.row j hj (by rw[HLEN.out.2,<-HLEN.out.1];exact hj)) g hgu
    have HT5:Hid (TabAt W0 p cs (M++numb nx (rws.take 0)) (nx+(0:Nat)) F (R++vs.flatMap own) sv ve vk d L):=by
     have h:=HT4.out;have hl:=HT.out.lt;refine⟨by simpa[numb]using h.blk,h.cols,h.root,by simpa[numb]using h.eB,h.nodup,fun e he g hg=>by simp[h.rows e he g hg],fun g hg=>by simp[h.colr g hg],fun g hg=> ?_,fun g hg=> ?_⟩
     · rcases List.mem_append.1 hg with hg|hg
       · exact h.apart g hg
       have:=(HR2.out g hg).1;intro hx;have:=hl g (by rcases List.mem_cons.1 hx with rfl|hx<;>simp[*]);omega
     rcases List.mem_append.1 hg with hg|hg
     · exact h.low g hg
     exact(HR2.out g hg).2
    obtain⟨lo,lc,QN,hLL⟩:=dm HF.out.own;injection QN with hle1 hle2 hle3;subst hle1 hle3;have HLL:=hd hLL
    have HOL:Hid (∀g∈own (.slice va l.length vc),w.heap.size<=g):=fun g hg=>(jI HF.out.own g hg).1
    have hnp:=HOK.out.pos;clear hLL hle2;go_wp2_with fail;go_loopw [44] (fun i wr'=>∃(k:Nat) (F':List Nat) (ve' vk':Value) (d':Nat) (L':List (Value×Value)),i=.int .i64 k/\k<=l.length/\Hid (TabAt wr' p cs (M++numb nx (rws.take k)) (nx+(k:Nat)) F' (R++vs.flatMap own) sv ve' vk' d' L')/\Hid (aC (p::F) W0 wr')/\Hid (∀x,F'.count x<=F.count x\/(W0.heap.size<=x/\F'.count x<=1))) (fun i _=>l.length-(intOf i).toNat)
    case atStart=>exact⟨0,F,ve,vk,d,L,rfl,Nat.zero_le _,HT5,aC.refl _ _,fun x=> .inl (nlr _)⟩
    case round=>
     obtain⟨k,F',ve',vk',d',L',rfl,hk,HTK,HTC,HCN⟩:=hrel;by_cases hlt:k<l.length
     · have hkv:k<vs.length:=by rw[HLEN.out.1];exact hlt
       have hkr:k<rws.length:=by rw[HLEN.out.2];exact hlt
       obtain⟨gl,hva,hgl,c0⟩:=HLL.out k vs[k] (List.getElem?_eq_getElem hkv);have hglw:w.heap.size<=gl:=HOL.out gl (by rw[hva];simp[own,Value.ownBlock])
       have N8:gl∉p::F:=fun hx=>by have:=HT.out.lt gl (by rcases List.mem_cons.1 hx with h|h<;>simp[h]);omega
       have HRW:=HF.out.row k hkv hkr
       have O5:∀g∈own vs[k],g∉p::F:=fun g hg hx=>by
        have:=(jI HRW g hg).1;have:=HT.out.lt g (by rcases List.mem_cons.1 hx with h|h<;>simp[h]);omega
       have HRV:Hid (Mn.dM wr vs[k] rws[k]):=yH (aG HRW HTC.out O5)
       have HIN:Hid (∀g∈own vs[k],g∈R++vs.flatMap own):=fun g hg=>List.mem_append_right _ (List.mem_flatMap.2 ⟨vs[k],List.getElem_mem hkv,hg⟩)
       have HCU:=hd (gH rws k hkr).1;have d0:=(World.cell?_of_block (w:=W0) (a:=⟨gl,k,none⟩) (HTC.out.block gl hgl N8)).trans c0;have hglr:gl<wr.heap.size:=nlA hgl HTC.out.size;have hT:=HTK.out;have hpw:=hT.blk.lt;have n4:wr.cell? ⟨p,4,none⟩=some (.int .i64 (nx+(k:Nat))):=(hT.blk.cell 4).trans rfl
       have hMk:(M++numb nx (rws.take k)).length=M.length+k:=by
        rw[List.length_append,uM,List.length_take];omega
       have IG:∀m∈M++numb nx (rws.take k),m.1<nx+(k:Nat):=fun m hm=>by
        rcases List.mem_append.1 hm with hm|hm
        · have:=HOK.out.less m hm;omega
        have:=(iH hm).2.1;rw[List.length_take]at this;omega
       have Iw:(M++numb nx (rws.take k)).Pairwise fun a b=>a.1<b.1:=List.pairwise_append.2 ⟨HOK.out.rise,pJ _ _,fun a ha b hb=>by have:=HOK.out.less a ha;have:=(iH hb).1;omega⟩
       obtain⟨ra,rn,rc,hvk⟩:=yA HRV.out
       have hTd:TabAt (World.drew wr) p cs (M++numb nx (rws.take k)) (nx+(k:Nat)) F' (R++vs.flatMap own) sv ve' vk' d' L':=HTK.out.keep (nlr _) fun g hg=>rfl
       have HPT:=hd (A9 (nx+(k:Nat)) ra rn rc d' L' p 1 (GJ sv ve' vk' ((M++numb nx (rws.take k)).length:Nat) (nx+(k:Nat))) 128 ve' vk' F' ((M++numb nx (rws.take k)).length:Nat) (World.drew wr) (by rw[hMk];omega) hTd.blk rfl rfl rfl hTd.root (hTd.eB.less IG) (hTd.eB.ord Iw) hTd.nodup)
       have HST:Hid (∀w6 d6 ve6 vk6 F6,yz (World.drew wr) w6 p 1 (GJ sv ve' vk' ((M++numb nx (rws.take k)).length:Nat) (nx+(k:Nat))) 128 (L'++[(.int .i64 (nx+(k:Nat)),.slice ra rn rc)]) F' (((M++numb nx (rws.take k)).length:Nat)+1) d6 ve6 vk6 F6->TabAt (w6.setCell ⟨p,4,none⟩ (.int .i64 (nx+(k:Nat)+1))) p cs (M++numb nx (rws.take (k+1))) (nx+((k+1:Nat):Int)) F6 (R++vs.flatMap own) sv ve6 vk6 d6 (L'++[(.int .i64 (nx+(k:Nat)),.slice ra rn rc)])/\aC (p::F) W0 (w6.setCell ⟨p,4,none⟩ (.int .i64 (nx+(k:Nat)+1)))/\∀x,F6.count x<=F.count x\/(W0.heap.size<=x/\F6.count x<=1)):=by
        intro w6 d6 ve6 vk6 F6 tout
        have hTd:TabAt (World.drew wr) p cs (M++numb nx (rws.take k)) (nx+(k:Nat)) F' (R++vs.flatMap own) sv ve' vk' d' L':=HTK.out.keep (nlr _) fun g hg=>rfl
        have h1:=Lg hTd tout (r:=rws[k]) (by have:=HRV.out;rw[hvk]at this;exact this) (by have:=HIN.out;rw[hvk]at this;exact this)
        have e1:numb nx (rws.take (k+1))=numb nx (rws.take k)++[(nx+(k:Nat),rws[k])]:=by
         rw[HCU.out,wF,List.length_take]
         congr 4
         omega
        refine⟨?_,?_,fun x=> ?_⟩
        · rw[e1,<-laa]
          have e2:nx+((k+1:Nat):Int)=nx+(k:Nat)+1:=by omega
          rw[e2];exact h1
        · refine(HTC.out.trans (tout.qO.eF) fun x hx=> ?_).set _ _ (.inl (by simp));rcases List.mem_cons.1 hx with rfl|hx
          · simp
          rcases HCN.out x with h2|h2
          · have:=List.count_pos_iff.2 hx
            left;simp[List.count_pos_iff.1 (show 0<F.count x by omega)]
          exact .inr h2.1
        rcases tout.cnt x with h2|h2
        · rcases HCN.out x with h3|h3
          · exact .inl (by omega)
          exact .inr ⟨h3.1,by omega⟩
        refine .inr ⟨?_,h2.2⟩;have a1:=HTC.out.size;have a3:(World.drew wr).heap.size=wr.heap.size:=rfl;omega
       rw[hvk]at d0
       have hb1: -9223372036854775808<=nx+(k:Nat)+1:=by omega
       have hb2:nx+(k:Nat)+1<=9223372036854775807:=by omega
       clear hT hTd IG Iw HRW O5 c0 N8 hvk;subst hva;go_wp2_with fail
       go_region_with (
         go_at_call 83
         refine HPT.out.mono ?_;rintro x w6 ⟨rfl,d6,ve6,vk6,F6,tout⟩;have HTO:=hd tout;have m4:=tout.blk.cell 4;rw[Array.getElem?_setIfInBounds_ne (by decide),Array.getElem?_setIfInBounds_ne (by decide),Array.getElem?_setIfInBounds_ne (by decide)]at m4;have m5:w6.cell? ⟨p,4,none⟩=some (.int .i64 (nx+(k:Nat))):=m4.trans rfl;have f4:=tout.blk.free 4;have hl4:=tout.blk.lt
         clear tout m4)
       all_goals
        go_wp2_with fail;go_roundw
        case rel=>
         obtain⟨r1,r2,r3⟩:=HST.out w6 d6 ve6 vk6 F6 HTO.out;exact⟨k+1,F6,ve6,vk6,d6,_,rfl,by omega,r1,r2,r3⟩
        case measure=>simp[intOf];omega
     obtain rfl:k=l.length:=by omega
     go_wp2_with fail;go_ret;rw[MK.out];have e0:rws.take l.length=rws:=List.take_of_length_le (by rw[HLEN.out.2];exact nlr _);have hTT:=HTK.out;rw[e0]at hTT;refine⟨by rw[HLEN.out.2];rfl,F',R++vs.flatMap own,sv,ve',vk',d',L',by rw[HLEN.out.2];exact hTT,?_,fun x=> ?_,fun g hg=> ?_⟩
     · exact(aC.of (F:=p::F) HF.out.low).trans HTC.out fun x hx=> .inl hx
     · have:=HF.out.low.size;rcases HCN.out x with h|h
       · exact .inl h
       exact .inr ⟨by omega,h.2⟩
     rcases List.mem_append.1 hg with hg|hg
     · exact .inl hg
     exact .inr (HR2.out g hg).1
  have hf1:decide ((M.length:Int)+(l.length:Int)<=200)=false:=by simp;omega
  have MK:Hid (iO cs M.length l=.error 15):=by show _=_;rw[HIM.out];rw[if_neg (by rw[HLEN.out.2];exact hfull)]
  clear HIM;go_wp2_with fail;refine(JJ _).mono ?_;rintro x wr ⟨rfl,rfl⟩;exact⟨rfl,by rw[MK.out];exact⟨rfl,HF.out.low⟩⟩
end Tb
end
section
namespace Tx
open Tb Tw
def DJ(l:Int)(v:Value)(n:Int):Array Value:=#[.int .i32 l,.int .u32 0,v,.slice none 0 0,.int .i64 n]
def Q7(c r:Value)(n:Int):Array Value:=#[c,r,.slice none 0 0,.int .i64 n,.int .i64 n]
structure One(w:World)(b:Nat)(l:Int)(p g cap ge ce:Nat)(r:Value)(n:Int):Prop where
 blk:af w b (DJ l (.slice (some ⟨ge,0,none⟩) 1 ce) 1) 70
 hge:ge<w.heap.size
 e0:w.cell? ⟨ge,0,none⟩=some (.string ⟨#[111]⟩)
 e1:w.cell? ⟨ge,1,none⟩=some (.pointer (some ⟨p,0,none⟩))
 Aq:MV w p g cap ⟨#[97]⟩ (Q7 (.slice (some ⟨g,0,none⟩) 1 cap) r n)
theorem gU(h:af w b cs T)(hs:w.heap.size<=w'.heap.size)(hb:w'.heap[b]? =w.heap[b]?):af w' b cs T:=by
 unfold af at*
 first|exact hb.trans h|(obtain⟨fr,h1⟩:=h;exact⟨fr,hb.trans h1⟩)
theorem lH(h:Below w.heap.size w w'):Apart a c w w':=⟨h.os,h.tape,h.output,h.size,fun k _ hl=>h.block k hl⟩
theorem fq{i:Nat}:Apart b (b+1) w (w.setCell ⟨b,i,none⟩ v):=
 ⟨rfl,rfl,rfl,by simp,fun k hk _=>Below.heap_setCell _ _ _ _ (by show k≠b;omega)⟩
theorem lV{base:Nat}{T':TypeId}{g cap:Nat}(h:w.ownsRow base T s (.slice (some ⟨g,0,none⟩) n cap) n xs)(hn:n≠0)(hP:af w p cs T')(hT:T≠T'):p≠g:=by
 rintro rfl;rcases h.2 with⟨_,h0⟩|⟨g',cap',cur,hv,hb,hg,_⟩
 · exact hn h0
 injection hv with e1 e2 e3;injection e1 with e1;injection e1 with e1;subst e1;have:=hP.symm.trans hg;injection this with this;injection this with a1 a2;exact hT a2.symm
end Tx
end
structure bY(w w':World)(B C:Nat):Prop where
 os:w'.os=w.os
 tape:w'.tape=w.tape
 output:w'.output=w.output
 size:w.heap.size<=w'.heap.size
 block:∀k,k<w.heap.size->k≠B->k≠C->w'.heap[k]? =w.heap[k]?
theorem bY.trans{w1 w2:World}(h:bY w w1 B C)(k:bY w1 w2 B C):bY w w2 B C:=
 ⟨k.os.trans h.os,k.tape.trans h.tape,k.output.trans h.output,Nat.le_trans h.size k.size,fun i hi h1 h2=>(k.block i (nlA hi h.size) h1 h2).trans (h.block i hi h1 h2)⟩
theorem bY.of(h:w.grownBy w' (some B)):bY w w' B C:=⟨h.os,h.tape,h.output,h.size,fun k hk h1 _=>h.block k hk (by simpa using h1)⟩
theorem bY.Q3(h:w.grownBy w' (some C)):bY w w' B C:=⟨h.os,h.tape,h.output,h.size,fun k hk _ h2=>h.block k hk (by simpa using h2)⟩
theorem bY.blk{t:TypeId}(hg:bY w w' B C)(h:af w b cs t)(h1:b≠B)(h2:b≠C):af w' b cs t:=by
 unfold af at h⊢;rw[hg.block b (geA.1 h).1 h1 h2];exact h
theorem bY.own{base:Nat}{e:TypeId}{size:Nat}(hg:bY w w' B C)(h:w.ownsRow base e size v n xs)(h1:B<base)(h2:C<base):w'.ownsRow base e size v n xs:=by
 refine⟨h.1,?_⟩;rcases h.2 with hn|⟨g,cap,cur,rfl,hb,hh,r⟩
 · exact .inl hn
 refine .inr ⟨g,cap,cur,rfl,hb,?_,r⟩;rw[hg.block g (geA.1 hh).1 (by omega) (by omega)];exact hh
def PZ(w:World)(B C D:Nat)(lv:Value)(ts:List Lx.Tok)(sz:Nat)(dp:Bool)(i:Nat)(q:List Lx.Tok)(x:Ending)(w':World):Prop:=
 bY w w' B C/\((∃p c,Px.jh sz i q (.error (p,c))/\x=ku p c)\/∃n k q',Px.jh sz i q (.ok ((n,k),q'))/\x=.returned (.agg #[.string ⟨n.toArray⟩,.int .i64 (k:Int)])/\Cx w' B lv ts sz q' dp/\af w' C #[.int .i64 ((i:Int)+1)] 3/\af w' D #[.pointer (some ⟨B,0,none⟩)] 148)
theorem mq(B C D:Nat)(lv:Value)(ts:List Lx.Tok)(sz:Nat)(dp dp0:Bool)(w0 w:World)(q0 q:List Lx.Tok)(h0:Cx w0 B lv ts sz q0 dp0)(hC0:w0.heap.size<=C)(hD0:w0.heap.size<=D)(hCD:C≠D)(h:Cx w B lv ts sz q dp)(i:Nat)(hi:i<=3000)(hC:af w C #[.int .i64 (i:Int)] 3)(hD:af w D #[.pointer (some ⟨B,0,none⟩)] 148):
   Calls Tryz.prog 118 #[.pointer (some ⟨C,0,none⟩),.pointer (some ⟨D,0,none⟩)] w (PZ w B C D lv ts sz dp i q):=by
 have hBlt:=h0.lt;have O0:=hC.lt;have hDlt:=hD.lt
 have x1:¬C=w.heap.size:=by omega
 have x2:¬w.heap.size=C:=by omega
 have x3:¬D=w.heap.size:=by omega
 have x4:¬w.heap.size=D:=by omega
 have x5:¬C=D:=hCD
 have x6:¬D=C:=fun e=>hCD e.symm
 have c0:w.cell? ⟨C,0,none⟩=some (.int .i64 (i:Int)):=hC.cell 0;have f0:=hC.free 0;have d0:w.cell? ⟨D,0,none⟩=some (.pointer (some ⟨B,0,none⟩)):=hD.cell 0;have HC:=hd hC;have HD:=hd hD;have HX:=hd h;have H0:=hd h0;clear hC hD h h0;go_enter Tryz.func118,Tryz.ntmps118;go_wp2_with fail;have HE:Hid (Cx ((w.setCell ⟨C,0,none⟩ (.int .i64 ((i:Int)+1))).alloc (.cells #[.string ⟨#[]⟩,.int .i64 0] 220)) B lv ts sz q dp):=(HX.out.far H0.out hC0 0 _).below ((Below.refl _ _).alloc (nlr _) _);refine(zN B lv ts sz dp _ q HE.out i (by omega)).mono ?_;rintro x w2 ho;have KC:=(HC.out.set 0 (.int .i64 ((i:Int)+1))).alloc (.cells #[.string ⟨#[]⟩,.int .i64 0] 220);have KD:=(HD.out.far ⟨C,0,none⟩ (.int .i64 ((i:Int)+1)) x5).alloc (.cells #[.string ⟨#[]⟩,.int .i64 0] 220);have KR:=af.new (w.setCell ⟨C,0,none⟩ (.int .i64 ((i:Int)+1))) #[.string ⟨#[]⟩,.int .i64 0] 220
 have hsc:(w.setCell ⟨C,0,none⟩ (.int .i64 ((i:Int)+1))).heap.size=w.heap.size:=by simp[World.setCell]
 rw[hsc]at KR;obtain⟨hg,hcase⟩:=ho.cases;have HG:Hid (bY w w2 B C):=(bY.Q3 (qE (mY w C 0 (.int .i64 ((i:Int)+1))) (.cells #[.string ⟨#[]⟩,.int .i64 0] 220))).trans (bY.of hg);rcases hcase with⟨p,c,hr,rfl⟩|⟨⟨n,k⟩,q1,v,hr,rfl,hv,hx⟩
 · exact⟨rfl,HG.out,.inl ⟨p,c,hr,rfl⟩⟩
 cases hv
 have HR1:=hd hr;have HX1:Hid (Cx w2 B lv ts sz q1 dp):=hx;have HC2:=hd (KC.grown hg (by omega));have HD2:=hd (KD.grown hg (by omega));have HK2:=hd (KR.grown hg (by omega));have m0:w2.cell? ⟨w.heap.size,0,none⟩=some (.string ⟨#[]⟩):=HK2.out.cell 0;have m1:w2.cell? ⟨w.heap.size,1,none⟩=some (.int .i64 0):=HK2.out.cell 1;have g0:=HK2.out.free 0;have g1:=HK2.out.free 1
 have hw0:w0.heap.size<=w.heap.size:=by omega
 clear hr hx hg ho KC KD KR hsc HE;go_wp2_with fail;have KF:=(HK2.out.set 0 (.string ⟨n.toArray⟩)).set 1 (.int .i64 (k:Int));have e0:=KF.cell 0;have e1:=KF.cell 1;simp at e0 e1;refine bodyPost_ret (v:=.agg #[.string ⟨n.toArray⟩,.int .i64 (k:Int)]) (by simp[results,Tryz.results118,go_sem,e0,e1]) rfl ?_;refine⟨?_,.inr ⟨n,k,q1,HR1.out,rfl,(HX1.out.far H0.out hw0 0 _).far H0.out hw0 1 _,(HC2.out.far ⟨w.heap.size,0,none⟩ _ x2).far ⟨w.heap.size,1,none⟩ _ x2,(HD2.out.far ⟨w.heap.size,0,none⟩ _ x4).far ⟨w.heap.size,1,none⟩ _ x4⟩⟩;refine⟨HG.out.os,HG.out.tape,HG.out.output,by simpa[World.setCell]using HG.out.size,fun j hj h1 h2=> ?_⟩;rw[Below.heap_setCell _ _ _ _ (by show j≠w.heap.size;omega),Below.heap_setCell _ _ _ _ (by show j≠w.heap.size;omega)];exact HG.out.block j hj h1 h2
theorem Tryz.info220:(Tryz.prog.info? 220).map (fun i=>(i.zero,i.size,i.bytes))=some (some (.agg #[.string ⟨#[]⟩,.int .i64 0]),2,24):=by kernel_rfl
def OZ(w:World)(B C:Nat)(lv:Value)(ts:List Lx.Tok)(sz:Nat)(dp:Bool)(q:List Lx.Tok)(x:Ending)(w':World):Prop:=
 bY w w' B C/\((∃p c,Px.Sep (Px.jh sz) q (.error (p,c))/\x=ku p c)\/∃l q' v,Px.Sep (Px.jh sz) q (.ok (l,q'))/\x=.returned v/\w'.ownsRow w.heap.size 220 2 v l.length (l.flatMap mO)/\Cx w' B lv ts sz q' dp)
theorem qb(B C D:Nat)(lv:Value)(ts:List Lx.Tok)(sz:Nat)(dp dp0:Bool)(w0 w:World)(q0 q:List Lx.Tok)(h0:Cx w0 B lv ts sz q0 dp0)(hC0:w0.heap.size<=C)(hD0:w0.heap.size<=D)(hCD:C≠D)(h:Cx w B lv ts sz q dp)(hC:af w C #[.int .i64 0] 3)(hD:af w D #[.pointer (some ⟨B,0,none⟩)] 148):
   Calls Tryz.prog 117 #[.pointer (some ⟨B,0,none⟩),.func (.func 118) #[] #[.pointer (some ⟨C,0,none⟩),.pointer (some ⟨D,0,none⟩)]] w (OZ w B C lv ts sz dp q):=by
 obtain⟨i0,hi,hz0,hz1,hz2⟩:=info_parts Tryz.info220;have HX:=hd h;have H0:=hd h0;have hlt:=h.lt;have hBlt:=h0.lt;have O0:=hC.lt;have hDlt:=hD.lt
 have sH:q.length<=2000:=by
  obtain⟨k,rfl,h⟩:=h;have:=h.len;simp;omega
 have HC:=hd hC;have HD:=hd hD;clear h h0 hC hD;go_enter Tryz.func117,Tryz.ntmps117;go_wp2_with fail;refine(mq B C D lv ts sz dp dp0 w0 w q0 q H0.out hC0 hD0 hCD HX.out 0 (by omega) HC.out HD.out).mono ?_;rintro x w1 ⟨hg,⟨p,c,hr,rfl⟩|⟨n,k,q1,hr,rfl,hx,kC,kD⟩⟩
 · exact⟨rfl,hg,.inl ⟨p,c,Px.Sep.err0 hr,rfl⟩⟩
 have HR1:=hd (Px.Reach.first (x:=Px.jh sz) hr);have hs1:=hg.size;have HO1:=hd (dC (nK w1 (.string ⟨n.toArray⟩) (.int .i64 (k:Int)) 220) hs1);have kM:=hd (hx.below ((Below.refl _ _).alloc (nlr _) (.cells #[.string ⟨n.toArray⟩,.int .i64 (k:Int)] 220)));have lJ:Hid (bY w (w1.alloc (.cells #[.string ⟨n.toArray⟩,.int .i64 (k:Int)] 220)) B C):=hg.trans (bY.of (qE (grownBy_refl w1 _) _));have HC1:=hd (kC.alloc (.cells #[.string ⟨n.toArray⟩,.int .i64 (k:Int)] 220));have HD1:=hd (kD.alloc (.cells #[.string ⟨n.toArray⟩,.int .i64 (k:Int)] 220));clear hr hx hg kC kD HC HD;go_wp2_with fail;go_loopw [5] (fun v wr=>∃(l:List (Lx.Bs×Nat)) (q1:List Lx.Tok),Hid (wr.ownsRow w.heap.size 220 2 v l.length (l.flatMap mO))/\Hid (Cx wr B lv ts sz q1 dp)/\Hid (bY w wr B C)/\Hid (Px.Reach (Px.jh sz) q l q1)/\Hid (af wr C #[.int .i64 (l.length:Int)] 3)/\Hid (af wr D #[.pointer (some ⟨B,0,none⟩)] 148)) (fun _ wr=>ts.length-rJ wr B)
 case atStart=>exact⟨[(n,k)],q1,HO1,kM,lJ,HR1,HC1,HD1⟩
 case round=>
  clear HR1 kM lJ HO1 HC1 HD1;obtain⟨l,q1,HO,HX1,HG1,HRe,HC1,HD1⟩:=hrel;have hll:q1.length+l.length<=q.length+1:=HRe.out.len (fun _=>Px.qF sz _)
  cases hs:Px.sees Px.iK q1 with
  |false=>
   go_wp2_with fail;refine(cB ⟨#[44]⟩ wr B lv ts sz q1 _ HX1.out hs (by simp)).mono ?_;rintro x w2 ⟨rfl,hb⟩;have HO2:=hd (dA HO.out hb);have HB:=hd hb;clear hb;go_wp2_with fail;go_ret;exact⟨HG1.out.trans (bY.of (Below.grownBy HB.out)),.inr ⟨l,q1,_,Px.Sep.stop HRe.out hs,rfl,HO2.out,HX1.out.below HB.out⟩⟩
  |true=>
   have hcl:=Px.aW hs;go_wp2_with fail;refine(mg ⟨#[44]⟩ wr B lv ts sz q1 _ HX1.out hs (by simp)).mono ?_;rintro x w2 ⟨rfl,hx2,hg2⟩;have HX2:=hd hx2;have HG2:=hd (HG1.out.trans (bY.of hg2))
   have HO2:=hd (HO.out.kept hg2 (by
    cases hv:u5.ownBlock with
    |none=>exact .inl rfl
    |some g=>right;have:=(HO.out.lt g hv).1;simp;omega))
   have HC2:=hd (HC1.out.grown hg2 (by omega));have HD2:=hd (HD1.out.grown hg2 (by omega));have hl1:=HX1.out.rJ;clear hx2 hg2 HG1 HO HC1 HD1;go_wp2_with fail;refine(mq B C D lv ts sz dp dp0 w0 w2 q0 q1.tail H0.out hC0 hD0 hCD HX2.out l.length (by omega) HC2.out HD2.out).mono ?_;rintro x w3 ⟨hg,⟨p,c,hr,rfl⟩|⟨n,k,q2,hr,rfl,hx,kC,kD⟩⟩
   · exact⟨rfl,HG2.out.trans hg,.inl ⟨p,c,Px.Sep.err HRe.out hs hr,rfl⟩⟩
   have HR3:=hd (HRe.out.step hs hr);have hsh:=Px.qF sz _ _ _ _ hr;have HG3:=hd (HG2.out.trans hg);have HO3:=hd (hg.own HO2.out (by omega) (by omega));have hs3:=HG3.out.size;have HX3':=hd (hx.below ((Below.refl _ _).alloc (nlr _) (.cells #[.string ⟨n.toArray⟩,.int .i64 (k:Int)] 220)));have bN:Hid (bY w (w3.alloc (.cells #[.string ⟨n.toArray⟩,.int .i64 (k:Int)] 220)) B C):=HG3.out.trans (bY.of (qE (grownBy_refl w3 _) _));have HC3:=hd (kC.alloc (.cells #[.string ⟨n.toArray⟩,.int .i64 (k:Int)] 220));have HD3:=hd (kD.alloc (.cells #[.string ⟨n.toArray⟩,.int .i64 (k:Int)] 220));clear hr hx hg kC kD HG2 HO2 HX1 HX2 HG3 HC2 HD2
   go_wp2_with(first
    |(at_builtin;refine wpList_append_own _ rfl _ _ 84 rfl w.heap.size 220 i0 (.agg #[.string ⟨#[]⟩,.int .i64 0]) 2 24 Tryz.underlying84 hi hz0 hz1 hz2 rfl (by decide) _ _ _ rfl (HO3.out.alloc _) ⟨w3.heap.size,0,none⟩ 1 1 [.string ⟨n.toArray⟩,.int .i64 (k:Int)] rfl rfl ?c1 ?c2 ?c3 ?c4 ?c5 ?_)
    |fail)
   case c1=>exact o8 w3 (.string ⟨n.toArray⟩) (.int .i64 (k:Int)) 220
   case c2=>intro u hu;simp at hu;rcases hu with rfl|rfl<;>rfl
   case c3=>unfold maxLen;omega
   case c4=>omega
   case c5=>simp;omega
   intro v' w4 hown' hgrow _
   have HO4:Hid (w4.ownsRow w.heap.size 220 2 v' (l++[(n,k)]).length ((l++[(n,k)]).flatMap mO)):=by
    rw[List.length_append,List.length_singleton,jA];exact hown'
   have hrow:∀o,u5.ownBlock=some o->w.heap.size<=o:=fun o ho=>(HO3.out.lt o ho).1
   have HX4:=hd (HX3'.out.kept HX.out hgrow hrow)
   have keepB:∀(b:Nat) (cs:Array Value) (t:TypeId),b<w.heap.size->af (w3.alloc (.cells #[.string ⟨n.toArray⟩,.int .i64 (k:Int)] 220)) b cs t->af w4 b cs t:=by
    intro b cs t hb hB;unfold af at hB⊢;rw[hgrow.block b (geA.1 hB).1 (by intro e;have:=hrow b e.symm;omega)];exact hB
   have HC4:Hid (af w4 C #[.int .i64 ((l++[(n,k)]).length:Int)] 3):=by
    have:=keepB C _ _ O0 HC3.out;show af _ _ _ _;rw[List.length_append,List.length_singleton,show((l.length+1:Nat):Int)=(l.length:Int)+1 by omega];exact this
   have HD4:=hd (keepB D _ _ hDlt HD3.out)
   have HG4:Hid (bY w w4 B C):=by
    refine⟨hgrow.os.trans bN.out.os,hgrow.tape.trans bN.out.tape,hgrow.output.trans bN.out.output,Nat.le_trans bN.out.size hgrow.size,fun j hj h1 h2=> ?_⟩
    rw[hgrow.block j (nlA hj bN.out.size) (by
     intro e;have:=hrow j e.symm
     omega)]
    exact bN.out.block j hj h1 h2
   have hl4:=HX4.out.rJ;clear hown' hgrow HX3' bN HO3 keepB hrow HC3 HD3;go_wp2_with fail;go_roundw
   case rel=>exact⟨l++[(n,k)],q2,HO4,HX4,HG4,HR3,HC4,HD4⟩
   case measure=>omega
def GA(B:Nat):Px.St->Value->World->Prop
 |.create t c,v,w=>∃u,v=.iface 86 (.agg #[.string ⟨t.toArray⟩,u])/\pE B 220 2 mO c u w
 |.drop t,v,_=>v=.iface 89 (.agg #[.string ⟨t.toArray⟩])
 |.insert t r,v,w=>∃u,v=.iface 93 (.agg #[.string ⟨t.toArray⟩,u])/\Be B r u w
 |.delete t o,v,_=>v=.iface 100 (.agg #[.string ⟨t.toArray⟩,ev? o])
 |.update t s o,v,w=>∃u,v=.iface 104 (.agg #[.string ⟨t.toArray⟩,u,ev? o])/\pE B 223 2 F5 s u w
 |.select i t o r l,v,w=>∃u u',v=.iface 109 (.agg #[u,.string ⟨t.toArray⟩,ev? o,u',.bool l.isSome,.int .i64 ((l.getD 0:Nat):Int)])/\pE B 225 2 itemC i u w/\pE B 227 2 bq r u' w
def xg(B:Nat)(T:TypeId)(s:Px.St)(v:Value)(w:World):Prop:=GA B s (.iface T v) w
def aS(s:Px.St):Bool:=s.exprs.any dV
theorem aY(s:ByteArray)(w:World)(g:Nat)(hgs:g=w.heap.size)(B:Nat)(lv:Value)(ts:List Lx.Tok)(sz:Nat)(q:List Lx.Tok)(dp:Bool)(h:Cx w B lv ts sz q dp)(hne:s.data.toList≠[]):
   Calls Tryz.prog 56 #[.pointer (some ⟨B,0,none⟩),.slice (some ⟨g,0,none⟩) 1 1] (w.alloc (.cells #[.string s] 9)) (ah w B lv ts sz dp (Px.bG sz s.data.toList) q II cu):=by
 subst hgs;exact bz s w B lv ts sz q dp h hne
theorem ev?_one(o:Option Px.E):ev? o=.nilIface\/∃t x,ev? o=.iface t x:=by
 cases o with
 |none=>exact .inl rfl
 |some e=>exact .inr (fZ e)
theorem yX(B:Nat)(lv:Value)(ts:List Lx.Tok)(sz:Nat)(dp:Bool)(w:World)(q:List Lx.Tok)(h:Cx w B lv ts sz q dp):
   Calls Tryz.prog 59 #[.pointer (some ⟨B,0,none⟩)] w (ah w B lv ts sz dp (Px.yu sz) q (xg B 100) aS):=by
 have HX:=hd h;have hlt:=h.lt;have HB0:Hid (Below w.heap.size w (w.alloc (.cells #[.string ⟨#[]⟩,.nilIface] 100))):=(Below.refl _ _).alloc (nlr _) _;have HKR:=hd (af.new w #[.string ⟨#[]⟩,.nilIface] 100);clear h;go_enter Tryz.func59,Tryz.ntmps59;go_wp2_with fail;refine(aY ⟨#[70,82,79,77]⟩ (w.alloc (.cells #[.string ⟨#[]⟩,.nilIface] 100)) _ (by simp) B lv ts sz q dp (HX.out.below HB0.out) (by simp)).mono ?_;rintro x w1 ho;obtain⟨hg,⟨p,c,hr,rfl⟩|⟨_,q1,v,hr,rfl,hv,hx⟩⟩:=ho.cases
 · exact⟨rfl,ah.err (av (Below.grownBy HB0.out) hg) (Px.Rg.err hr)⟩
 cases hv
 have HR1:=hd hr;have HX1:Hid (Cx w1 B lv ts sz q1 dp):=hx;have HG1:=hd (av (Below.grownBy HB0.out) hg);have HK1:=hd (HKR.out.grown hg (by omega));clear hr hx hg ho HB0 HKR;go_wp2_with fail;refine(dz w1 B lv ts sz q1 dp HX1.out).mono ?_;rintro x w2 ho;obtain⟨hg,⟨p,c,hr,rfl⟩|⟨n,q2,v,hr,rfl,hv,hx⟩⟩:=ho.cases
 · exact⟨rfl,ah.err (av HG1.out hg) (Px.Rg.go HR1.out (Px.Rg.err hr))⟩
 cases hv
 have HR2:=hd hr;have HX2:Hid (Cx w2 B lv ts sz q2 dp):=hx;have HG2:=hd (av HG1.out hg);have HK2:=hd (HK1.out.grown hg (by omega));clear hr hx hg ho HG1 HK1;go_wp2_with fail;refine(kJ B lv ts sz dp w2 q2 HX2.out).mono ?_;rintro x w3 ho;obtain⟨hg,⟨p,c,hr,rfl⟩|⟨o,q3,v,hr,rfl,hv,hx⟩⟩:=ho.cases
 · exact⟨rfl,ah.err (av HG2.out hg) (Px.Rg.go HR1.out (Px.Rg.go HR2.out (Px.Rg.err hr)))⟩
 have HR3:=hd hr
 have HX3:Hid (Cx w3 B lv ts sz q3 (aS (.delete n o)||dp)):=by
  show Cx _ _ _ _ _ _ _
  have:aS (.delete n o)=fF o:=by cases o<;>simp[aS,Px.St.exprs,fF]
  rw[this];exact hx
 have HG3:=hd (av HG2.out hg);have HK3:=hd (HK2.out.grown hg (by omega));have HV:=hd hv
 have hv1:v=.nilIface\/∃t x,v=.iface t x:=by
  have:=ev?_one o
  rwa [<-show v=ev? o from hv]at this
 have m0:w3.cell? ⟨w.heap.size,0,none⟩=some (.string ⟨#[]⟩):=HK3.out.cell 0;have m1:w3.cell? ⟨w.heap.size,1,none⟩=some .nilIface:=HK3.out.cell 1;have g0:=HK3.out.free 0;have g1:=HK3.out.free 1;clear hr hx hg ho HG2 HK2 hv;rcases hv1 with rfl|⟨et,ex,rfl⟩
 all_goals
  go_wp2_with fail
 · have KF:=(HK3.out.set 0 (.string ⟨n.toArray⟩)).set 1 .nilIface;have e0:=KF.cell 0;have e1:=KF.cell 1;simp at e0 e1;refine bodyPost_ret (v:=.agg #[.string ⟨n.toArray⟩,.nilIface]) (by simp[results,Tryz.results59,go_sem,e0,e1]) rfl ?_;exact ah.ok (a:=Px.St.delete n o) (q':=q3) (bC (bC HG3.out (nlr _) 0 _) (nlr _) 1 _) (Px.Rg.go HR1.out (Px.Rg.go HR2.out (Px.Rg.go HR3.out rfl))) (by show _=Value.iface _ (.agg #[_,ev? o]);rw[<-show(Value.nilIface)=ev? o from HV.out]) ((HX3.out.far HX.out (nlr _) 0 _).far HX.out (nlr _) 1 _)
 have KF:=(HK3.out.set 0 (.string ⟨n.toArray⟩)).set 1 (.iface et ex);have e0:=KF.cell 0;have e1:=KF.cell 1;simp at e0 e1;refine bodyPost_ret (v:=.agg #[.string ⟨n.toArray⟩,.iface et ex]) (by simp[results,Tryz.results59,go_sem,e0,e1]) rfl ?_;exact ah.ok (a:=Px.St.delete n o) (q':=q3) (bC (bC HG3.out (nlr _) 0 _) (nlr _) 1 _) (Px.Rg.go HR1.out (Px.Rg.go HR2.out (Px.Rg.go HR3.out rfl))) (by show _=Value.iface _ (.agg #[_,ev? o]);rw[<-show(Value.iface et ex)=ev? o from HV.out]) ((HX3.out.far HX.out (nlr _) 0 _).far HX.out (nlr _) 1 _)
theorem rV(a b:Value)(w:World):(Instr.typeAssert (.iface 86 (.agg #[a,b])) 52 86 true).run Tryz.prog w=.ok (.tuple #[.agg #[a,b],.bool true]) w:=by kernel_rfl
theorem uW(a b:Value)(w:World):(Instr.typeAssert (.iface 93 (.agg #[a,b])) 52 86 true).run Tryz.prog w=.ok (.tuple #[.agg #[.string ⟨#[]⟩,.slice none 0 0],.bool false]) w:=by kernel_rfl
theorem yF(a b:Value)(w:World):(Instr.typeAssert (.iface 93 (.agg #[a,b])) 52 89 true).run Tryz.prog w=.ok (.tuple #[.agg #[.string ⟨#[]⟩],.bool false]) w:=by kernel_rfl
theorem sK(a b:Value)(w:World):(Instr.typeAssert (.iface 93 (.agg #[a,b])) 52 93 true).run Tryz.prog w=.ok (.tuple #[.agg #[a,b],.bool true]) w:=by kernel_rfl
theorem vB(a b c d e f:Value)(w:World):(Instr.typeAssert (.iface 109 (.agg #[a,b,c,d,e,f])) 52 86 true).run Tryz.prog w=.ok (.tuple #[.agg #[.string ⟨#[]⟩,.slice none 0 0],.bool false]) w:=by kernel_rfl
theorem zH(a b c d e f:Value)(w:World):(Instr.typeAssert (.iface 109 (.agg #[a,b,c,d,e,f])) 52 89 true).run Tryz.prog w=.ok (.tuple #[.agg #[.string ⟨#[]⟩],.bool false]) w:=by kernel_rfl
theorem tQ(a b c d e f:Value)(w:World):(Instr.typeAssert (.iface 109 (.agg #[a,b,c,d,e,f])) 52 93 true).run Tryz.prog w=.ok (.tuple #[.agg #[.string ⟨#[]⟩,.slice none 0 0],.bool false]) w:=by kernel_rfl
theorem ug(a b c d e f:Value)(w:World):(Instr.typeAssert (.iface 109 (.agg #[a,b,c,d,e,f])) 52 100 true).run Tryz.prog w=.ok (.tuple #[.agg #[.string ⟨#[]⟩,.nilIface],.bool false]) w:=by kernel_rfl
theorem sj(a b c d e f:Value)(w:World):(Instr.typeAssert (.iface 109 (.agg #[a,b,c,d,e,f])) 52 104 true).run Tryz.prog w=.ok (.tuple #[.agg #[.string ⟨#[]⟩,.slice none 0 0,.nilIface],.bool false]) w:=by kernel_rfl
theorem tq(a b c d e f:Value)(w:World):(Instr.typeAssert (.iface 109 (.agg #[a,b,c,d,e,f])) 52 109 true).run Tryz.prog w=.ok (.tuple #[.agg #[a,b,c,d,e,f],.bool true]) w:=by kernel_rfl
section
namespace Tx
open Tb Tw
theorem Apart.over{A:Nat}{W W':World}(h:Apart a c w W)(h2:Apart A C W W')(hA:w.heap.size<=A):Apart a c w W':=
 ⟨h2.os.trans h.os,h2.tape.trans h.tape,h2.output.trans h.output,Nat.le_trans h.size h2.size,fun k hk hl=>(h2.block k (.inl (by omega)) (nlA hl h.size)).trans (h.block k hk hl)⟩
end Tx
end
theorem any_flatten:∀l:List (List Px.E),l.flatten.any dV=l.any BL
 |[]=>rfl
 |r::l=>by
  rw[List.flatten_cons,List.any_append,List.any_cons,any_flatten l]
  rfl
theorem sO{M:Nat}{l:List (List Px.E)}(h:Be B l v w)(i:Nat)(x:Value)(hM:∃cs t,w.heap[M]? =some (.cells cs t (0,0))/\t≠132/\t≠98):Be B l v (w.setCell ⟨M,i,none⟩ x):=by
 obtain⟨vs,h1,h2⟩:=h;obtain⟨cs,t,hh,ht1,ht2⟩:=hM
 have key:∀{e:TypeId} {size:Nat} {v:Value} {n:Nat} {xs:List Value},e≠t->w.ownsRow (B+1) e size v n xs->(w.setCell ⟨M,i,none⟩ x).ownsRow (B+1) e size v n xs:=by
  intro e size v n xs hne ho;refine ho.kept (mY w M i x) ?_
  cases hv:v.ownBlock with
  |none=>exact .inl rfl
  |some g=>
   right
   intro e1;simp only[Option.some.injEq]at e1;subst e1;obtain⟨c1,k1⟩:=oP ho _ hv;rw[k1]at hh;simp only[Option.some.injEq,Obj.cells.injEq]at hh;exact hne hh.2.1
 exact⟨vs,key (fun e=>ht1 e.symm) h1,h2.map fun r v hr=>key (fun e=>ht2 e.symm) hr⟩
theorem ae{α:Type}{M:Nat}{size:Nat}{cl:α->List Value}{l:List α}(h:pE B T size cl l v w)(i:Nat)(x:Value)(hM:∃cs t,w.heap[M]? =some (.cells cs t (0,0))/\t≠T):pE B T size cl l v (w.setCell ⟨M,i,none⟩ x):=by
 obtain⟨cs,t,hh,ht1⟩:=hM;refine World.ownsRow.kept h (mY w M i x) ?_
 cases hv:v.ownBlock with
 |none=>exact .inl rfl
 |some g=>
  right
  intro e1;simp only[Option.some.injEq]at e1;subst e1;obtain⟨c1,k1⟩:=oP h _ hv;rw[k1]at hh;simp only[Option.some.injEq,Obj.cells.injEq]at hh;exact ht1 hh.2.1.symm
theorem zB(B:Nat)(lv:Value)(ts:List Lx.Tok)(sz:Nat)(dp:Bool)(w:World)(q:List Lx.Tok)(h:Cx w B lv ts sz q dp):
   Calls Tryz.prog 58 #[.pointer (some ⟨B,0,none⟩)] w (ah w B lv ts sz dp (Px.yl sz) q (xg B 93) aS):=by
 have hmf:∀(fn:Fn) (first cap:Array Value) (w:World),(Instr.makeFunc fn first cap).run Tryz.prog w=.ok (.func fn first cap) w:=fun _ _ _ _=>rfl
 have HX:=hd h;have hlt:=h.lt;have HB0:Hid (Below w.heap.size w (w.alloc (.cells #[.string ⟨#[]⟩,.slice none 0 0] 93))):=(Below.refl _ _).alloc (nlr _) _;have HKR:=hd (af.new w #[.string ⟨#[]⟩,.slice none 0 0] 93);clear h;go_enter Tryz.func58,Tryz.ntmps58;go_wp2_with fail;refine(aY ⟨#[73,78,84,79]⟩ (w.alloc (.cells #[.string ⟨#[]⟩,.slice none 0 0] 93)) _ (by simp) B lv ts sz q dp (HX.out.below HB0.out) (by simp)).mono ?_;rintro x w1 ho;obtain⟨hg,⟨p,c,hr,rfl⟩|⟨_,q1,v,hr,rfl,hv,hx⟩⟩:=ho.cases
 · exact⟨rfl,ah.err (av (Below.grownBy HB0.out) hg) (Px.Rg.err hr)⟩
 cases hv
 have HR1:=hd hr;have HX1:Hid (Cx w1 B lv ts sz q1 dp):=hx;have HG1:=hd (av (Below.grownBy HB0.out) hg);have HK1:=hd (HKR.out.grown hg (by omega));clear hr hx hg ho HB0 HKR;go_wp2_with fail;refine(dz w1 B lv ts sz q1 dp HX1.out).mono ?_;rintro x w2 ho;obtain⟨hg,⟨p,c,hr,rfl⟩|⟨n,q2,v,hr,rfl,hv,hx⟩⟩:=ho.cases
 · exact⟨rfl,ah.err (av HG1.out hg) (Px.Rg.go HR1.out (Px.Rg.err hr))⟩
 cases hv
 have HR2:=hd hr;have hs2:=(av HG1.out hg).size
 have Lv:w.heap.size<w2.heap.size:=by have:=HK1.out.lt;have:=hg.size;omega
 have HX2:=hd (Cx.below (w':=w2.alloc (.cells #[.string ⟨n.toArray⟩,.slice none 0 0] 93)) (show Cx w2 B lv ts sz q2 dp from hx) ((Below.refl _ _).alloc (nlr _) _));have HG2:=hd (qE (av HG1.out hg) (.cells #[.string ⟨n.toArray⟩,.slice none 0 0] 93));have HK2:=hd ((HK1.out.grown hg (by omega)).alloc (.cells #[.string ⟨n.toArray⟩,.slice none 0 0] 93));have HL2:=hd (af.new w2 #[.string ⟨n.toArray⟩,.slice none 0 0] 93)
 have d1:¬w2.heap.size=w.heap.size:=by omega
 have d2:¬w.heap.size=w2.heap.size:=by omega
 clear hr hx hg ho HG1 HK1 HX1;go_wp2_with fail;refine(aY ⟨#[86,65,76,85,69,83]⟩ (w2.alloc (.cells #[.string ⟨n.toArray⟩,.slice none 0 0] 93)) _ (by simp) B lv ts sz q2 dp HX2.out (by simp)).mono ?_;rintro x w3 ho;obtain⟨hg,⟨p,c,hr,rfl⟩|⟨_,q3,v,hr,rfl,hv,hx⟩⟩:=ho.cases
 · exact⟨rfl,ah.err (av HG2.out hg) (Px.Rg.go HR1.out (Px.Rg.go HR2.out (Px.Rg.err hr)))⟩
 cases hv
 have HR3:=hd hr;have HX3:Hid (Cx w3 B lv ts sz q3 dp):=hx;have HG3:=hd (av HG2.out hg);have HK3:=hd (HK2.out.grown hg (by omega));have HL3:=hd (HL2.out.grown hg (by omega));clear hr hx hg ho HG2 HK2 HL2 HX2;go_wp2_with fail;refine(vY B lv ts sz dp w3 q3 HX3.out).mono ?_;rintro x w4 ho;obtain⟨hg,⟨p,c,hr,rfl⟩|⟨l,q4,v,hr,rfl,hv,hx⟩⟩:=ho.cases
 · exact⟨rfl,ah.err (av HG3.out hg) (Px.Rg.go HR1.out (Px.Rg.go HR2.out (Px.Rg.go HR3.out (Px.Rg.err hr))))⟩
 have HR4:=hd hr
 have HX4:Hid (Cx w4 B lv ts sz q4 (aS (.insert n l)||dp)):=by
  show Cx _ _ _ _ _ _ _;have:aS (.insert n l)=l.any BL:=any_flatten l;rw[this];exact hx
 have HG4:=hd (av HG3.out hg);have HK4:=hd (HK3.out.grown hg (by omega));have HL4:=hd (HL3.out.grown hg (by omega));have HV:=hd hv
 obtain⟨ao,m,cp,rfl⟩:∃ao m cp,v=.slice ao m cp:=by obtain⟨vs,h1,_⟩:=hv;exact Ev h1
 have m0:w4.cell? ⟨w.heap.size,0,none⟩=some (.string ⟨#[]⟩):=HK4.out.cell 0;have m1:w4.cell? ⟨w.heap.size,1,none⟩=some (.slice none 0 0):=HK4.out.cell 1;have g0:=HK4.out.free 0;have g1:=HK4.out.free 1;have n0:w4.cell? ⟨w2.heap.size,0,none⟩=some (.string ⟨n.toArray⟩):=HL4.out.cell 0;have n1:w4.cell? ⟨w2.heap.size,1,none⟩=some (.slice none 0 0):=HL4.out.cell 1;have f1:=HL4.out.free 1;clear hr hx hg ho HG3 HK3 HL3 hv;go_wp2_with fail;have KF:=((HK4.out.far ⟨w2.heap.size,1,none⟩ (.slice ao m cp) d1).set 0 (.string ⟨n.toArray⟩)).set 1 (.slice ao m cp);have e0:=KF.cell 0;have e1:=KF.cell 1;simp at e0 e1;refine bodyPost_ret (v:=.agg #[.string ⟨n.toArray⟩,.slice ao m cp]) (by simp[results,Tryz.results58,go_sem,e0,e1]) rfl ?_;refine ah.ok (a:=Px.St.insert n l) (q':=q4) (bC (bC (bC HG4.out (by omega) 1 _) (nlr _) 0 _) (nlr _) 1 _) (Px.Rg.go HR1.out (Px.Rg.go HR2.out (Px.Rg.go HR3.out (Px.Rg.go HR4.out rfl)))) ⟨_,rfl,?_⟩ (((HX4.out.far HX.out (by omega) 1 _).far HX.out (nlr _) 0 _).far HX.out (nlr _) 1 _);have s1:=sO HV.out 1 (.slice ao m cp) ⟨_,_,HL4.out,by decide,by decide⟩;have s2:=sO s1 0 (.string ⟨n.toArray⟩) ⟨_,_,HK4.out.far ⟨w2.heap.size,1,none⟩ (.slice ao m cp) d1,by decide,by decide⟩;exact sO s2 1 (.slice ao m cp) ⟨_,_,(HK4.out.far ⟨w2.heap.size,1,none⟩ (.slice ao m cp) d1).set 0 _,by decide,by decide⟩
theorem BF:∀(l:List (Lx.Bs×Px.E)),(l.map (·.2)).any dV=l.any xI
 |[]=>rfl
 |r::l=>by
  rw[List.map_cons,List.any_cons,List.any_cons,BF l]
  rfl
theorem Ef(o:Option Px.E):o.toList.any dV=fF o:=by cases o<;>simp[fF]
theorem yS(B:Nat)(lv:Value)(ts:List Lx.Tok)(sz:Nat)(dp:Bool)(w:World)(q:List Lx.Tok)(h:Cx w B lv ts sz q dp):
   Calls Tryz.prog 60 #[.pointer (some ⟨B,0,none⟩)] w (ah w B lv ts sz dp (Px.yo sz) q (xg B 104) aS):=by
 have hmf:∀(fn:Fn) (first cap:Array Value) (w:World),(Instr.makeFunc fn first cap).run Tryz.prog w=.ok (.func fn first cap) w:=fun _ _ _ _=>rfl
 have HX:=hd h;have hlt:=h.lt;have HB0:Hid (Below w.heap.size w (w.alloc (.cells #[.string ⟨#[]⟩,.slice none 0 0,.nilIface] 104))):=(Below.refl _ _).alloc (nlr _) _;have HKR:=hd (af.new w #[.string ⟨#[]⟩,.slice none 0 0,.nilIface] 104);clear h;go_enter Tryz.func60,Tryz.ntmps60;go_wp2_with fail;refine(dz _ B lv ts sz q dp (HX.out.below HB0.out)).mono ?_;rintro x w2 ho;obtain⟨hg,⟨p,c,hr,rfl⟩|⟨n,q2,v,hr,rfl,hv,hx⟩⟩:=ho.cases
 · exact⟨rfl,ah.err (av (Below.grownBy HB0.out) hg) (Px.Rg.err hr)⟩
 cases hv
 have HR2:=hd hr
 have Lv:w.heap.size<w2.heap.size:=by have:=hg.size;simp only[World.size_alloc]at this;omega
 have HX2:=hd (Cx.below (w':=w2.alloc (.cells #[.string ⟨n.toArray⟩,.slice none 0 0,.nilIface] 104)) (show Cx w2 B lv ts sz q2 dp from hx) ((Below.refl _ _).alloc (nlr _) _));have HG2:=hd (qE (av (Below.grownBy HB0.out) hg) (.cells #[.string ⟨n.toArray⟩,.slice none 0 0,.nilIface] 104));have HK2:=hd ((HKR.out.grown hg (by omega)).alloc (.cells #[.string ⟨n.toArray⟩,.slice none 0 0,.nilIface] 104));have HL2:=hd (af.new w2 #[.string ⟨n.toArray⟩,.slice none 0 0,.nilIface] 104)
 have d1:¬w2.heap.size=w.heap.size:=by omega
 have d2:¬w.heap.size=w2.heap.size:=by omega
 clear hr hx hg ho HB0 HKR;go_wp2_with fail;refine(aY ⟨#[83,69,84]⟩ (w2.alloc (.cells #[.string ⟨n.toArray⟩,.slice none 0 0,.nilIface] 104)) _ (by simp) B lv ts sz q2 dp HX2.out (by simp)).mono ?_;rintro x w3 ho;obtain⟨hg,⟨p,c,hr,rfl⟩|⟨_,q3,v,hr,rfl,hv,hx⟩⟩:=ho.cases
 · exact⟨rfl,ah.err (av HG2.out hg) (Px.Rg.go HR2.out (Px.Rg.err hr))⟩
 cases hv
 have HR3:=hd hr;have HX3:Hid (Cx w3 B lv ts sz q3 dp):=hx;have HG3:=hd (av HG2.out hg);have HK3:=hd (HK2.out.grown hg (by omega));have HL3:=hd (HL2.out.grown hg (by omega));clear hr hx hg ho HG2 HK2 HL2 HX2;go_wp2_with fail;refine(vQ B lv ts sz dp w3 q3 HX3.out).mono ?_;rintro x w4 ho;obtain⟨hg,⟨p,c,hr,rfl⟩|⟨l,q4,v,hr,rfl,hv,hx⟩⟩:=ho.cases
 · exact⟨rfl,ah.err (av HG3.out hg) (Px.Rg.go HR2.out (Px.Rg.go HR3.out (Px.Rg.err hr)))⟩
 have HR4:=hd hr;have HG4:=hd (av HG3.out hg);have HK4:=hd (HK3.out.grown hg (by omega));have HL4:=hd (HL3.out.grown hg (by omega));obtain⟨ao,m,cp,rfl⟩:=Ev hv;have n1:w4.cell? ⟨w2.heap.size,1,none⟩=some (.slice none 0 0):=HL4.out.cell 1;have f1:=HL4.out.free 1;have HX5:=hd (hx.far HX.out (M:=w2.heap.size) (by omega) 1 (.slice ao m cp));have HG5:=hd (bC HG4.out (M:=w2.heap.size) (by omega) 1 (.slice ao m cp));have HK5:=hd (HK4.out.far ⟨w2.heap.size,1,none⟩ (.slice ao m cp) d1);have HL5:Hid (af (w4.setCell ⟨w2.heap.size,1,none⟩ (.slice ao m cp)) w2.heap.size #[.string ⟨n.toArray⟩,.slice ao m cp,.nilIface] 104):=HL4.out.set 1 (.slice ao m cp);have HV5:=hd (ae hv 1 (.slice ao m cp) ⟨_,_,HL4.out,by decide⟩);clear hr hx hg ho HG3 HK3 HL3 hv HG4 HK4 HL4;go_wp2_with fail;refine(kJ B lv ts sz _ _ q4 HX5.out).mono ?_;rintro x w6 ho;obtain⟨hg,⟨p,c,hr,rfl⟩|⟨o,q6,v,hr,rfl,hv,hx⟩⟩:=ho.cases
 · exact⟨rfl,ah.err (av HG5.out hg) (Px.Rg.go HR2.out (Px.Rg.go HR3.out (Px.Rg.go HR4.out (Px.Rg.err hr))))⟩
 have HR6:=hd hr
 have HX6:Hid (Cx w6 B lv ts sz q6 (aS (.update n l o)||dp)):=by
  show Cx _ _ _ _ _ _ _
  have:(aS (.update n l o)||dp)=(fF o||(l.any xI||dp)):=by
   simp only[aS,Px.St.exprs,List.any_append,BF,Ef]
   cases l.any xI<;>cases fF o<;>rfl
  rw[this];exact hx
 have HG6:=hd (av HG5.out hg);have HK6:=hd (HK5.out.grown hg (by omega));have HL6:=hd (HL5.out.grown hg (by omega));have HV6:=hd (aA HV5.out hg);have HE:=hd hv
 have hv1:v=.nilIface\/∃t x,v=.iface t x:=by
  have:=ev?_one o
  rwa [<-show v=ev? o from hv]at this
 have m0:w6.cell? ⟨w.heap.size,0,none⟩=some (.string ⟨#[]⟩):=HK6.out.cell 0;have m1:w6.cell? ⟨w.heap.size,1,none⟩=some (.slice none 0 0):=HK6.out.cell 1;have m2:w6.cell? ⟨w.heap.size,2,none⟩=some .nilIface:=HK6.out.cell 2;have g0:=HK6.out.free 0;have g1:=HK6.out.free 1;have g2:=HK6.out.free 2;have p0:w6.cell? ⟨w2.heap.size,0,none⟩=some (.string ⟨n.toArray⟩):=HL6.out.cell 0;have p1:w6.cell? ⟨w2.heap.size,1,none⟩=some (.slice ao m cp):=HL6.out.cell 1;have p2:w6.cell? ⟨w2.heap.size,2,none⟩=some .nilIface:=HL6.out.cell 2;have r2:=HL6.out.free 2;clear hr hx hg ho HG5 HK5 HL5 HV5 hv HX5 n1 f1;rcases hv1 with rfl|⟨et,ex,rfl⟩
 all_goals go_wp2_with fail
 · have KF:=(((HK6.out.far ⟨w2.heap.size,2,none⟩ .nilIface d1).set 0 (.string ⟨n.toArray⟩)).set 1 (.slice ao m cp)).set 2 .nilIface;have e0:=KF.cell 0;have e1:=KF.cell 1;have e2:=KF.cell 2;simp at e0 e1 e2;refine bodyPost_ret (v:=.agg #[.string ⟨n.toArray⟩,.slice ao m cp,.nilIface]) (by simp[results,Tryz.results60,go_sem,e0,e1,e2]) rfl ?_;refine ah.ok (a:=Px.St.update n l o) (q':=q6) (bC (bC (bC (bC HG6.out (by omega) 2 _) (nlr _) 0 _) (nlr _) 1 _) (nlr _) 2 _) (Px.Rg.go HR2.out (Px.Rg.go HR3.out (Px.Rg.go HR4.out (Px.Rg.go HR6.out rfl)))) ⟨.slice ao m cp,by rw[<-show(Value.nilIface)=ev? o from HE.out],?_⟩ ((((HX6.out.far HX.out (by omega) 2 _).far HX.out (nlr _) 0 _).far HX.out (nlr _) 1 _).far HX.out (nlr _) 2 _);have s1:=ae HV6.out 2 .nilIface ⟨_,_,HL6.out,by decide⟩;have t1:=HK6.out.far ⟨w2.heap.size,2,none⟩ .nilIface d1;have s2:=ae s1 0 (.string ⟨n.toArray⟩) ⟨_,_,t1,by decide⟩;have s3:=ae s2 1 (.slice ao m cp) ⟨_,_,t1.set 0 _,by decide⟩;exact ae s3 2 .nilIface ⟨_,_,(t1.set 0 _).set 1 _,by decide⟩
 have KF:=(((HK6.out.far ⟨w2.heap.size,2,none⟩ (.iface et ex) d1).set 0 (.string ⟨n.toArray⟩)).set 1 (.slice ao m cp)).set 2 (.iface et ex);have e0:=KF.cell 0;have e1:=KF.cell 1;have e2:=KF.cell 2;simp at e0 e1 e2;refine bodyPost_ret (v:=.agg #[.string ⟨n.toArray⟩,.slice ao m cp,.iface et ex]) (by simp[results,Tryz.results60,go_sem,e0,e1,e2]) rfl ?_;refine ah.ok (a:=Px.St.update n l o) (q':=q6) (bC (bC (bC (bC HG6.out (by omega) 2 _) (nlr _) 0 _) (nlr _) 1 _) (nlr _) 2 _) (Px.Rg.go HR2.out (Px.Rg.go HR3.out (Px.Rg.go HR4.out (Px.Rg.go HR6.out rfl)))) ⟨.slice ao m cp,by rw[<-show(Value.iface et ex)=ev? o from HE.out],?_⟩ ((((HX6.out.far HX.out (by omega) 2 _).far HX.out (nlr _) 0 _).far HX.out (nlr _) 1 _).far HX.out (nlr _) 2 _);have s1:=ae HV6.out 2 (.iface et ex) ⟨_,_,HL6.out,by decide⟩;have t1:=HK6.out.far ⟨w2.heap.size,2,none⟩ (.iface et ex) d1;have s2:=ae s1 0 (.string ⟨n.toArray⟩) ⟨_,_,t1,by decide⟩;have s3:=ae s2 1 (.slice ao m cp) ⟨_,_,t1.set 0 _,by decide⟩;exact ae s3 2 (.iface et ex) ⟨_,_,(t1.set 0 _).set 1 _,by decide⟩
theorem bY.grown{w1 w2:World}(h:w.grownBy w1 (some B))(k:bY w1 w2 B C)(hC:w.heap.size<=C):w.grownBy w2 (some B):=
 ⟨k.os.trans h.os,k.tape.trans h.tape,k.output.trans h.output,Nat.le_trans h.size k.size,fun i hi hne=>(k.block i (nlA hi h.size) (by simpa using hne) (by omega)).trans (h.block i hi hne)⟩
theorem zM(B:Nat)(lv:Value)(ts:List Lx.Tok)(sz:Nat)(dp:Bool)(w:World)(q:List Lx.Tok)(h:Cx w B lv ts sz q dp):
   Calls Tryz.prog 55 #[.pointer (some ⟨B,0,none⟩)] w (ah w B lv ts sz dp (Px.yG sz) q (xg B 86) aS):=by
 have hmf:∀(fn:Fn) (first cap:Array Value) (w:World),(Instr.makeFunc fn first cap).run Tryz.prog w=.ok (.func fn first cap) w:=fun _ _ _ _=>rfl
 have HX:=hd h;have hlt:=h.lt;have HB0:Hid (Below w.heap.size w ((w.alloc (.cells #[.pointer (some ⟨B,0,none⟩)] 148)).alloc (.cells #[.string ⟨#[]⟩,.slice none 0 0] 86))):=((Below.refl _ _).alloc (nlr _) _).alloc (by simp) _;have HKD:=hd ((af.new w #[.pointer (some ⟨B,0,none⟩)] 148).alloc (.cells #[.string ⟨#[]⟩,.slice none 0 0] 86))
 have HKR:Hid (af ((w.alloc (.cells #[.pointer (some ⟨B,0,none⟩)] 148)).alloc (.cells #[.string ⟨#[]⟩,.slice none 0 0] 86)) (w.heap.size+1) #[.string ⟨#[]⟩,.slice none 0 0] 86):=by
  have:=af.new (w.alloc (.cells #[.pointer (some ⟨B,0,none⟩)] 148)) #[.string ⟨#[]⟩,.slice none 0 0] 86
  rwa [World.size_alloc]at this
 clear h;go_enter Tryz.func55,Tryz.ntmps55;go_wp2_with fail;refine(aY ⟨#[84,65,66,76,69]⟩ ((w.alloc (.cells #[.pointer (some ⟨B,0,none⟩)] 148)).alloc (.cells #[.string ⟨#[]⟩,.slice none 0 0] 86)) _ (by simp) B lv ts sz q dp (HX.out.below HB0.out) (by simp)).mono ?_;rintro x w1 ho;obtain⟨hg,⟨p,c,hr,rfl⟩|⟨_,q1,v,hr,rfl,hv,hx⟩⟩:=ho.cases
 · exact⟨rfl,ah.err (av (Below.grownBy HB0.out) hg) (Px.Rg.err hr)⟩
 cases hv
 have HR1:=hd hr;have HX1:Hid (Cx w1 B lv ts sz q1 dp):=hx;have HG1:=hd (av (Below.grownBy HB0.out) hg);have HK1:=hd (HKR.out.grown hg (by omega));have HD1:=hd (HKD.out.grown hg (by omega));have b1:w1.cell? ⟨w.heap.size,0,none⟩=some (.pointer (some ⟨B,0,none⟩)):=HD1.out.cell 0;clear hr hx hg ho HB0 HKR HKD;go_wp2_with fail;refine(dz w1 B lv ts sz q1 dp HX1.out).mono ?_;rintro x w2 ho;obtain⟨hg,⟨p,c,hr,rfl⟩|⟨n,q2,v,hr,rfl,hv,hx⟩⟩:=ho.cases
 · exact⟨rfl,ah.err (av HG1.out hg) (Px.Rg.go HR1.out (Px.Rg.err hr))⟩
 cases hv
 have HR2:=hd hr
 have Lv:w.heap.size+1<w2.heap.size:=by have:=HK1.out.lt;have:=hg.size;omega
 have HX2:=hd (Cx.below (w':=w2.alloc (.cells #[.string ⟨n.toArray⟩,.slice none 0 0] 86)) (show Cx w2 B lv ts sz q2 dp from hx) ((Below.refl _ _).alloc (nlr _) _));have HG2:=hd (qE (av HG1.out hg) (.cells #[.string ⟨n.toArray⟩,.slice none 0 0] 86));have HK2:=hd ((HK1.out.grown hg (by omega)).alloc (.cells #[.string ⟨n.toArray⟩,.slice none 0 0] 86));have HD20:=hd (HD1.out.grown hg (by omega));have HD2:=hd (HD20.out.alloc (.cells #[.string ⟨n.toArray⟩,.slice none 0 0] 86));have HL2:=hd (af.new w2 #[.string ⟨n.toArray⟩,.slice none 0 0] 86);have b2:w2.cell? ⟨w.heap.size,0,none⟩=some (.pointer (some ⟨B,0,none⟩)):=HD20.out.cell 0
 have d1:¬w2.heap.size=w.heap.size+1:=by omega
 have d2:¬w.heap.size+1=w2.heap.size:=by omega
 have d3:¬w2.heap.size=w.heap.size:=by omega
 have d4:¬w.heap.size=w2.heap.size:=by omega
 have lt4:w.heap.size<w2.heap.size:=by omega
 clear hr hx hg ho HG1 HK1 HX1 HD1 b1 HD20;go_wp2_with fail;refine(aY ⟨#[40]⟩ (w2.alloc (.cells #[.string ⟨n.toArray⟩,.slice none 0 0] 86)) _ (by simp) B lv ts sz q2 dp HX2.out (by simp)).mono ?_;rintro x w3 ho;obtain⟨hg,⟨p,c,hr,rfl⟩|⟨_,q3,v,hr,rfl,hv,hx⟩⟩:=ho.cases
 · exact⟨rfl,ah.err (av HG2.out hg) (Px.Rg.go HR1.out (Px.Rg.go HR2.out (Px.Rg.err hr)))⟩
 cases hv
 have HR3:=hd hr
 have hszw3:w2.heap.size<w3.heap.size:=by have:=hg.size;simp only[World.size_alloc]at this;omega
 have HX3:=hd (Cx.below (w':=w3.alloc (.cells #[.int .i64 0] 3)) (show Cx w3 B lv ts sz q3 dp from hx) ((Below.refl _ _).alloc (nlr _) _));have HG3:=hd (qE (av HG2.out hg) (.cells #[.int .i64 0] 3));have HK3:=hd ((HK2.out.grown hg (by omega)).alloc (.cells #[.int .i64 0] 3));have HL3:=hd ((HL2.out.grown hg (by omega)).alloc (.cells #[.int .i64 0] 3));have HD30:=hd (HD2.out.grown hg (by omega));have HD3:=hd (HD30.out.alloc (.cells #[.int .i64 0] 3));have HC3:=hd (af.new w3 #[.int .i64 0] 3);have b3:w3.cell? ⟨w.heap.size,0,none⟩=some (.pointer (some ⟨B,0,none⟩)):=HD30.out.cell 0
 have d5:¬w.heap.size=w3.heap.size:=by omega
 have d6:¬w3.heap.size=w.heap.size:=by omega
 have lt6:w.heap.size<w3.heap.size:=by omega
 clear hr hx hg ho HG2 HK2 HL2 HX2 HD2 b2 HD30;go_wp2_with fail;refine(qb B w3.heap.size w.heap.size lv ts sz dp dp w (w3.alloc (.cells #[.int .i64 0] 3)) q q3 HX.out (by omega) (nlr _) (by omega) HX3.out HC3.out HD3.out).mono ?_;rintro x w4 ⟨hg,⟨p,c,hr,rfl⟩|⟨l,q4,v,hr,rfl,hv,hx⟩⟩
 · exact⟨rfl,ah.err (bY.grown HG3.out hg (by omega)) (Px.Rg.go HR1.out (Px.Rg.go HR2.out (Px.Rg.go HR3.out (Px.Rg.err hr))))⟩
 have HR4:=hd hr;have HG4:=hd (bY.grown HG3.out hg (by omega));have HK4:=hd (hg.blk HK3.out (by omega) (by omega));have HL4:=hd (hg.blk HL3.out (by omega) (by omega));have HD4:=hd (hg.blk HD3.out (by omega) (by omega));have HV4:Hid (pE B 220 2 mO l v w4):=dC hv (by simp;omega)
 have hszw4:w3.heap.size<w4.heap.size:=by have:=hg.size;simp only[World.size_alloc]at this;omega
 obtain⟨ao,m,cp,rfl⟩:=Ev hv;have n1:w4.cell? ⟨w2.heap.size,1,none⟩=some (.slice none 0 0):=HL4.out.cell 1;have f1:=HL4.out.free 1;have b4:w4.cell? ⟨w.heap.size,0,none⟩=some (.pointer (some ⟨B,0,none⟩)):=HD4.out.cell 0;have HX5:=hd (hx.far HX.out (M:=w2.heap.size) (by omega) 1 (.slice ao m cp));have HG5:=hd (bC HG4.out (M:=w2.heap.size) (by omega) 1 (.slice ao m cp));have HK5:=hd (HK4.out.far ⟨w2.heap.size,1,none⟩ (.slice ao m cp) d1);have HL5:Hid (af (w4.setCell ⟨w2.heap.size,1,none⟩ (.slice ao m cp)) w2.heap.size #[.string ⟨n.toArray⟩,.slice ao m cp] 86):=HL4.out.set 1 (.slice ao m cp);have HV5:=hd (ae HV4.out 1 (.slice ao m cp) ⟨_,_,HL4.out,by decide⟩);clear hr hx hg HG3 HK3 HL3 hv HG4 HK4 HL4 HV4 HD3 HD4 HC3 HX3 b3;go_wp2_with fail;refine(aY ⟨#[41]⟩ (w4.setCell ⟨w2.heap.size,1,none⟩ (.slice ao m cp)) _ (by simp[World.setCell]) B lv ts sz q4 dp HX5.out (by simp)).mono ?_;rintro x w6 ho;obtain⟨hg,⟨p,c,hr,rfl⟩|⟨_,q6,v,hr,rfl,hv,hx⟩⟩:=ho.cases
 · exact⟨rfl,ah.err (av HG5.out hg) (Px.Rg.go HR1.out (Px.Rg.go HR2.out (Px.Rg.go HR3.out (Px.Rg.go HR4.out (Px.Rg.err hr)))))⟩
 cases hv
 have HR6:=hd hr;have HX6:Hid (Cx w6 B lv ts sz q6 dp):=hx;have HG6:=hd (av HG5.out hg);have HK6:=hd (HK5.out.grown hg (by omega));have HL6:=hd (HL5.out.grown hg (by omega));have HV6:=hd (aA HV5.out hg);have m0:w6.cell? ⟨w.heap.size+1,0,none⟩=some (.string ⟨#[]⟩):=HK6.out.cell 0;have m1:w6.cell? ⟨w.heap.size+1,1,none⟩=some (.slice none 0 0):=HK6.out.cell 1;have g0:=HK6.out.free 0;have g1:=HK6.out.free 1;have p0:w6.cell? ⟨w2.heap.size,0,none⟩=some (.string ⟨n.toArray⟩):=HL6.out.cell 0;have p1:w6.cell? ⟨w2.heap.size,1,none⟩=some (.slice ao m cp):=HL6.out.cell 1;clear hr hx hg ho HG5 HK5 HL5 HV5 HX5 n1 f1 b4;go_wp2_with fail;have KF:=(HK6.out.set 0 (.string ⟨n.toArray⟩)).set 1 (.slice ao m cp);have e0:=KF.cell 0;have e1:=KF.cell 1;simp at e0 e1;refine bodyPost_ret (v:=.agg #[.string ⟨n.toArray⟩,.slice ao m cp]) (by simp[results,Tryz.results55,go_sem,e0,e1]) rfl ?_;refine ah.ok (a:=Px.St.create n l) (q':=q6) (bC (bC HG6.out (by omega) 0 _) (by omega) 1 _) (Px.Rg.go HR1.out (Px.Rg.go HR2.out (Px.Rg.go HR3.out (Px.Rg.go HR4.out (Px.Rg.go HR6.out rfl))))) ⟨.slice ao m cp,rfl,?_⟩ ((HX6.out.far HX.out (by omega) 0 _).far HX.out (by omega) 1 _);have s1:=ae HV6.out 0 (.string ⟨n.toArray⟩) ⟨_,_,HK6.out,by decide⟩;exact ae s1 1 (.slice ao m cp) ⟨_,_,HK6.out.set 0 _,by decide⟩
end Go.Proofs.YthhhfcdakfbpkaaGreatDoor
