/- Parts of the proof -/
import Derived.Test.YthhhfcdakfbpkaaGreatDoorP17
import Derived.Test.YthhhfcdakfbpkaaGreatDoorP14
import Derived.Test.YthhhfcdakfbpkaaGreatDoorP16
import Derived.Test.YthhhfcdakfbpkaaGreatDoorP2
import Derived.Test.YthhhfcdakfbpkaaGreatDoorP11
import Derived.Lib.AppendZeros
import Derived.Lib.SliceRun
import Derived.Laws.AppendOwnNone
import Derived.RangeFuncRecord
import Derived.Test.YthhhfcdakfbpkaaGreatDoorP13
import Derived.Test.YthhhfcdakfbpkaaGreatDoorP3
import Derived.Deep.Draws
import Derived.Deep.RegionWith
import Derived.Deep.RegionHeld3
import Derived.Deep.DrawnRows
import Derived.Test.YthhhfcdakfbpkaaGreatDoorP5
import Derived.Deep.CutRange
import Derived.Stop.RegionWithIn
import Derived.Sort.CutIn
namespace Go.Proofs.YthhhfcdakfbpkaaGreatDoor
set_option linter.unusedSimpArgs false
set_option linter.unusedVariables false
set_option maxRecDepth 100000
set_option maxHeartbeats 16000000
open Go.RowKit
variable {cb fv iv v x xv:Value}{W W' W1 w w':World}{B N b b5 b6 b7 bs c g n p s y:Nat}{T:TypeId}{xs:List Value}{F:List Nat}{sc:Array Value}
section
namespace Tx
open Tb Tw
structure QZ(p b:Nat)(W W':World):Prop where
 os:W'.os=W.os
 tape:W'.tape=W.tape
 output:W'.output=W.output
 size:W.heap.size<=W'.heap.size
 block:∀k,k≠p->k≠b->k<W.heap.size->W'.heap[k]? =W.heap[k]?
theorem KE(w:World):Calls Tryz.prog 15 #[] w fun x w'=>x=.returned (.pointer (some ⟨w.heap.size,0,none⟩))/\w'=w.alloc (.cells (DJ 0 (.slice none 0 0) 0) 70):=by
 go_enter Tryz.func15,Tryz.ntmps15;go_wp2_with fail;go_ret;exact⟨rfl,rfl⟩
theorem sV{x:Ending}(h:Told (.returned v) x):x=.returned (.tuple #[v,.int .i64 0]):=by
 rcases h with⟨u,h1,rfl⟩|⟨c,h1,_⟩
 · injection h1 with h1;rw[h1]
 cases h1
theorem rT{a:Nat}(h:w.ownsRow B T s v n xs)(hA:Apart a c w w')(hc:c<=B):w'.ownsRow B T s v n xs:=by
 refine⟨h.1,?_⟩;rcases h.2 with h2|⟨g,cap,cur,h0,h1,h2,h3⟩
 · exact .inl h2
 exact .inr ⟨g,cap,cur,h0,h1,(hA.block g (.inr (by omega)) (geA.1 h2).1).trans h2,h3⟩
end Tx
end
section
namespace Tx
open Tb Tw Bt
theorem JX{wp w2 W3:World}(h1:Below w.heap.size w wp)(h2:aC F (wp.setCell ⟨b,0,none⟩ (.int .i32 1)) w2)(h3:Apart w.heap.size (w.heap.size+2) w2 W3)(h4:Apart w.heap.size (w.heap.size+2) (W3.setCell ⟨b,0,none⟩ (.int .i32 0)) w'):aC (b::F) w w':=by
 have s1:=h1.size;have s2:=h2.size;have s3:=h3.size;have s4:=h4.size;simp at s2 s4;refine⟨h4.os.trans (h3.os.trans (h2.os.trans h1.os)),h4.tape.trans (h3.tape.trans (h2.tape.trans h1.tape)),h4.output.trans (h3.output.trans (h2.output.trans h1.output)),by omega,fun k hk hn=> ?_⟩;simp only[List.mem_cons,not_or]at hn;rw[h4.block k (.inl hk) (by simp;omega),Below.heap_setCell _ _ _ _ (by show k≠b;exact hn.1),h3.block k (.inl hk) (by omega),h2.block k (by simp;omega) hn.2,Below.heap_setCell _ _ _ _ (by show k≠b;exact hn.1),h1.block k hk]
theorem kr.unlock{w2 W3:World}{A:Nat}{ge ce:Nat}{tn:Lx.Bs}{cs:Mg.ax}{M:aU}{nx:Int}{R:List Nat}(h:kr w2 b 1 p ge ce tn cs M nx F R)(hl:∀g∈b::ge::p::(F++R),g<A\/A+2<=g)(h3:Apart A (A+2) w2 W3)(h4:Apart A (A+2) (W3.setCell ⟨b,0,none⟩ (.int .i32 0)) w'):kr w' b 0 p ge ce tn cs M nx F R:=
 ((h.apart h3 hl).lock 0).apart h4 hl
theorem uE:∀{l:List (List Px.E)} {vs:List Value},fH w B l vs->∀(k:Nat) (h:k<l.length),∃u,vs[k]? =some u/\w.ownsRow B 98 1 u l[k].length (l[k].flatMap gI)
 |[],[],_,k,h=>by simp at h
 |r::l,v::vs,h,0,_=>⟨v,rfl,h.1⟩
 |r::l,v::vs,h,k+1,hk=>by
  obtain⟨u,h1,h2⟩:=uE h.2 k (by simpa using hk);exact⟨u,by simpa using h1,by simpa using h2⟩
theorem Ka{l:List (List Px.E)}(h:Be B l v w)(hb:b<B+1):mU (w.setCell ⟨b,0,none⟩ x) v l:=by
 obtain⟨vs,h1,h2⟩:=h;refine⟨vs,Ts.ai (Tw.aA h1 (p:=⟨b,0,none⟩) x hb) (Nat.zero_le _),fun k hk=> ?_⟩;obtain⟨u,h3,h4⟩:=uE h2 k hk;exact⟨u,h3,Ts.ai (Tw.aA h4 (p:=⟨b,0,none⟩) x hb) (Nat.zero_le _)⟩
theorem Kw{ge ce:Nat}{tn:Lx.Bs}{cs:Mg.ax}{M:aU}{nx:Int}{R:List Nat}(l:List (List Px.E))(s:ByteArray)(hp:Px.Reads s.data.toList (.insert tn l))(hm:s.size<=maxLen)(he:iZ w)(h:kr w b 0 p ge ce tn cs M nx F R)(hle:l.length<=1000000)(hdm:∀n,(Mg.aN n l).length<=1000000)(hrl:∀r∈l,r.length<=1000000)(hok:∀r∈l,∀e∈r,e.ok 2000)
   (hnx:nx+l.length<=1000000000000000000) (vs:List (List Mg.V)) (hvs:iO cs M.length l=.ok vs) (hok2:o7 cs (M++numb nx vs) (nx+(vs.length:Nat))):
   Calls Tryz.prog 9 #[.pointer (some ⟨b,0,none⟩),.string s] w fun x w'=>x=.returned (.tuple #[.agg #[.int .i64 0,.slice none 0 0,.int .i64 (vs.length:Nat)],.int .i64 0])/\aC (b::p::F) w w'/\
     ∃F' R',kr w' b 0 p ge ce tn cs (M++numb nx vs) (nx+(vs.length:Nat)) F' R'/\∀g∈F'++R',g∈F++R\/w.heap.size<=g:=by
 have hbl:=h.blk.lt
 have hFl:∀g∈p::F,g<w.heap.size:=fun g hg=>h.lt g (by simp only[List.mem_cons,List.mem_append]at hg⊢;rcases hg with rfl|hg;exact .inr (.inr (.inl rfl));exact .inr (.inr (.inr (.inl hg))))
 have hold:∀{F' R':List Nat} {n:Nat},(∀g∈F'++R',g∈F++R\/w.heap.size+2<=g)->∀g∈b::ge::p::(F'++R'),g<w.heap.size\/w.heap.size+2<=g:=fun{F' R' _} hs g hg=>by
  simp only[List.mem_cons]at hg;rcases hg with h1|h1|h1|h1
  · exact .inl (h.lt g (by simp[h1]))
  · exact .inl (h.lt g (by simp[h1]))
  · exact .inl (h.lt g (by simp[h1]))
  rcases hs g h1 with h1|h1
  · exact .inl (h.lt g (by simp only[List.mem_cons];exact .inr (.inr (.inr h1))))
  exact .inr h1
 refine(mP (.insert tn l) s hp hm b _ w he h.blk rfl
   (fun wp v x w2=>x=.returned (.agg #[.int .i64 0,.slice none 0 0,.int .i64 (vs.length:Nat)])/\aC (p::F) (wp.setCell ⟨b,0,none⟩ (.int .i32 1)) w2/\∃F' R',kr w2 b 1 p ge ce tn cs (M++numb nx vs) (nx+(vs.length:Nat)) F' R'/\∀g∈F'++R',g∈F++R\/w.heap.size+2<=g) ?_ ?_).mono ?_
 · intro wp v B hb hBB hst;obtain⟨u,rfl,hu⟩:=hst;refine(I1 ((h.below hb).lock 1) l hle hdm hrl hok hnx u (Ka hu (by omega)) vs hvs hok2).mono ?_;rintro x w2 ⟨rfl,hT,F',R',hS,hsub⟩;have hs1:=hb.size;simp at hsub;exact⟨rfl,hT,F',R',hS,fun g hg=>by rcases hsub g (by simpa using hg)with h|h;exact .inl (by simpa using h);exact .inr (by omega)⟩
 · rintro wp v x w2 hb ⟨rfl,hT,F',R',hS,hsub⟩;refine⟨.inl ⟨_,_,_,_,_,rfl⟩,fun k hk hl=> ?_,⟨_,hS.blk,rfl⟩,by simpa using hT.size⟩;rw[hT.block k (by simpa using hl) (fun hm=>by have:=hFl k hm;omega)];exact Below.heap_setCell _ _ _ _ (by show k≠b;omega)
 rintro x w' ⟨wp,v,x0,w2,W3,hb,hsz,⟨rfl,hT,F',R',hS,hsub⟩,hTd,hA3,hA4⟩;exact⟨sV hTd,JX hb hT hA3 hA4,F',R',hS.unlock (hold (n:=0) hsub) hA3 hA4,fun g hg=>by rcases hsub g hg with h|h;exact .inl h;exact .inr (by omega)⟩
theorem FQ(h:Apart b (b+1) w w'):aC [b] w w':=⟨h.os,h.tape,h.output,h.size,fun k hk hn=>h.block k (by simp at hn;omega) hk⟩
theorem LD(b:Nat)(w:World)(he:iZ w)(hB:af w b (DJ 0 (.slice none 0 0) 0) 70)(tn:Lx.Bs)(cl:Mg.ax)(s:ByteArray)(hp:Px.Reads s.data.toList (.create tn cl))(hm:s.size<=maxLen)(hc:Mg.dJ cl)(hnd:(cl.map Prod.fst).Nodup):
   Calls Tryz.prog 9 #[.pointer (some ⟨b,0,none⟩),.string s] w fun x w'=>x=.returned (.tuple #[.agg #[.int .i64 0,.slice none 0 0,.int .i64 0],.int .i64 0])/\aC [b] w w'/\
     ∃p ge ce R,kr w' b 0 p ge ce tn cl [] 0 [] R/\w.heap.size<=p/\w.heap.size<=ge/\∀g∈R,w.heap.size<=g:=by
 have hbl:=hB.lt
 refine(mP (.create tn cl) s hp hm b _ w he hB rfl
   (fun wp v x w2=>x=.returned (.agg #[.int .i64 0,.slice none 0 0,.int .i64 0])/\Apart b (b+1) (wp.setCell ⟨b,0,none⟩ (.int .i32 1)) w2/\∃p ge ce R,kr w2 b 1 p ge ce tn cl [] 0 [] R/\w.heap.size+2<=p/\w.heap.size+2<=ge/\∀g∈R,w.heap.size+2<=g) ?_ ?_).mono ?_
 · intro wp v B hb hBB hst;obtain⟨u,rfl,hu⟩:=hst;have hu':wp.ownsRow (B+1) 220 2 u cl.length (cl.flatMap mO):=hu
   have hK:af (wp.setCell ⟨b,0,none⟩ (.int .i32 1)) b (DJ 1 (.slice none 0 0) 0) 70:=by simpa[DJ]using(hB.below hb hB.lt).set 0 (.int .i32 1)
   have hu2:=Tw.aA hu' (p:=⟨b,0,none⟩) (.int .i32 1) (by show b<_;omega)
   have hul:∀g∈own u,w.heap.size+2<=g:=fun g hg=>by
    have:=(hu2.lt g (by simpa[own]using hg)).1;omega
   refine(I9 b _ tn cl hc hnd u hK (Ts.ai hu2 (by omega))).mono ?_;rintro x w2 ⟨rfl,hA,p,ge,ce,hp1,hge,hO⟩;have hs1:=hb.size;simp at hp1 hge;exact⟨rfl,hA,p,ge,ce,_,hO,by omega,by omega,hul⟩
 · rintro wp v x w2 hb ⟨rfl,hA,p,ge,ce,R,hO,_,_,_⟩;refine⟨.inl ⟨_,_,_,_,_,rfl⟩,fun k hk hl=> ?_,⟨_,hO.blk,rfl⟩,by simpa using hA.size⟩;rw[hA.block k (by omega) (by simpa using hl)];exact Below.heap_setCell _ _ _ _ (by show k≠b;omega)
 rintro x w' ⟨wp,v,x0,w2,W3,hb,hsz,⟨rfl,hA,p,ge,ce,R,hO,h1,h2,h3⟩,hTd,hA3,hA4⟩;refine⟨sV hTd,(JX hb (FQ hA) hA3 hA4).more (by simp),p,ge,ce,R,hO.unlock (fun g hg=> ?_) hA3 hA4,by omega,by omega,fun g hg=>by have:=h3 g hg;omega⟩;simp only[List.nil_append,List.mem_cons]at hg;rcases hg with rfl|rfl|rfl|hg
 · exact .inl hbl
 · exact .inr h2
 · exact .inr h1
 exact .inr (h3 g hg)
end Tx
end
section
namespace Tb
open Bt
def itE(cs:Mg.ax):Option Px.E->List Px.E
 |none=>cs.map fun c=> .nm c.1
 |some e=>[e]
def aF(cs:Mg.ax)(l:List (Option Px.E)):List Px.E:=l.flatMap (itE cs)
theorem uT:∀(l:List (Option Px.E)) (k:Nat) (h:k<l.length),(l.flatMap itemC)[k*2]? =some (.bool l[k].isNone)/\(l.flatMap itemC)[k*2+1]? =some (ev? l[k])
 |none::r,0,_=>by simp[itemC,ev?]
 |some e::r,0,_=>by simp[itemC,ev?]
 |d::r,k+1,h=>by
  have:=uT r k (by simpa using h);rw[show(k+1)*2=k*2+1+1 by omega]
  cases d<;>simpa[itemC]using this
theorem Gn(cs:Mg.ax)(l:List (Option Px.E))(k:Nat):(aF cs (l.take k)).length<=(aF cs l).length:=by
 conv=>rhs;rw[<-List.take_append_drop k l]
 unfold aF;rw[List.flatMap_append,List.length_append];omega
theorem vO(cs:Mg.ax)(hcn:cs.length<=1000)(sv:Value)(l:List (Option Px.E))(hn:(aF cs l).length<=1000000)(hl:l.length<=1000000)(p:Nat)(v:Value)(w:World)(hp:p<w.heap.size)(hpc:w.cell? ⟨p,0,none⟩=some sv)(hC:Mn.aL w sv cs)(hE:w.ownsRow 0 225 2 v l.length (l.flatMap itemC)):
   Calls Tryz.prog 90 #[.pointer (some ⟨p,0,none⟩),v] w fun x w'=>Below w.heap.size w w'/\∃u,x=.returned u/\w'.ownsRow w.heap.size 98 1 u (aF cs l).length ((aF cs l).flatMap gI):=by
 obtain⟨i0,hi,hz0,hz1,hz2⟩:=info_parts Tq.Tryz.info98;obtain⟨ao,cap,rfl,hEE⟩:=dm hE;obtain⟨co,cc,rfl,hCC⟩:=hC;have HE:=hd hEE;have HC:=hd hCC;have HTK:=hd (Gn cs l);clear hE hEE hCC;go_enter Tryz.func90,Tryz.ntmps90;go_wp2_with fail;go_loopw [5,12] (fun v i wr=>∃(k n:Nat),i=.int .i64 k/\k<=l.length/\Hid (n=(aF cs (l.take k)).length)/\Hid (Below w.heap.size w wr)/\Hid (wr.ownsRow w.heap.size 98 1 v n ((aF cs (l.take k)).flatMap gI))) (fun _ i _=>l.length-(intOf i).toNat)
 case atStart=>exact⟨0,0,rfl,Nat.zero_le _,by show _=_;simp[aF],Below.refl _ _,World.ownsRow_nil _ _ _ _⟩
 case round=>
  obtain⟨k,n,rfl,hk,HN,HW,HO⟩:=hrel;obtain⟨va,vc,rfl⟩:=au HO.out;by_cases hlt:k<l.length
  · obtain⟨g,hao,hg,c0⟩:=HE.out _ _ (uT l k hlt).1;obtain⟨g',hao',hg',c1⟩:=HE.out _ _ (uT l k hlt).2;rw[hao]at hao';injection hao' with hgg;injection hgg with hgg;subst hgg;have d0:=(HW.out.cell (p:=⟨g,k*2,none⟩) hg).trans c0;have d1:=(HW.out.cell (p:=⟨g,k*2+1,none⟩) hg).trans c1;have hg2:=nlA hg HW.out.size;have HT1:=hd (HTK.out (k+1))
    have hn1:n<=1000000:=by have:=HTK.out k;have:=HN.out;omega
    obtain⟨HC1,HC2⟩:=gH l k hlt;have HCU:=hd HC1;generalize l[k]=o at*;clear c0 c1 HC1 HC2;subst hao
    cases o with
    |some e=>
     obtain⟨et,ex,hev⟩:=fZ e;have vP:ev? (some e)=.iface et ex:=hev;rw[vP]at d1;have HEV:=hd hev;simp only[Option.isNone_some]at d0;clear hev vP;have HO2:=hd ((HO.out.alloc (.cells #[.bool false,.iface et ex] 225)).alloc (.cells #[.iface et ex] 98));have HW2:Hid (Below w.heap.size w ((wr.alloc (.cells #[.bool false,.iface et ex] 225)).alloc (.cells #[.iface et ex] 98))):=(HW.out.alloc HW.out.size _).alloc (HW.out.alloc HW.out.size _).size _
     go_wp2_with(first
      |(at_builtin;refine bu rfl _ _ 132 rfl w.heap.size 98 i0 .nilIface 1 16 Tryz.underlying132 hi hz0 hz1 hz2 rfl (by decide) _ _ _ rfl HO2.out ⟨wr.heap.size+1,0,none⟩ 1 1 [.iface et ex] rfl rfl ?c1 ?c2 ?c3 ?c4 ?c5 ?_)
      |fail)
     try(case c1=>have:=zh (wr.alloc (.cells #[.bool false,.iface et ex] 225)) (.iface et ex) 98;rwa [World.size_alloc]at this)
     case c2=>first|rfl|(intro u hu;simp at hu;subst hu;rfl)
     case c3=>simp only[maxLen];omega
     case c4=>omega
     case c5=>first|exact HW2.out.size|(have:=HW2.out.size;simp at this⊢;omega)
     intro v' w3 hown hgrow _;have HB3:Hid (Below w.heap.size w w3):=dB HW2.out hgrow (fun k hk=>(HO2.out.lt k hk).1) HW2.out.size
     have HO3:Hid (w3.ownsRow w.heap.size 98 1 v' (n+1) ((aF cs (l.take (k+1))).flatMap gI)):=by
      show World.ownsRow _ _ _ _ _ _ _;rw[HCU.out];unfold aF at hown⊢;rw[List.flatMap_append,List.flatMap_append];simp only[List.flatMap_cons,List.flatMap_nil,List.append_nil,itE,gI,HEV.out];exact hown
     have HN3:Hid (n+1=(aF cs (l.take (k+1))).length):=by show _=_;rw[HCU.out,HN.out];simp[aF,itE]
     obtain⟨va',vc',rfl⟩:=au hown;clear hown hgrow HO2;go_wp2_with fail;go_roundw
     case rel=>exact⟨k+1,n+1,rfl,by omega,HN3,HB3,HO3⟩
     case measure=>simp[intOf];omega
    |none=>
     simp only[Option.isNone_none,ev?]at d0 d1
     have HLN:Hid (n+cs.length=(aF cs (l.take (k+1))).length/\(aF cs (l.take (k+1)))=aF cs (l.take k)++cs.map fun c=> .nm c.1):=by
      show _/\_;rw[HCU.out,HN.out];simp[aF,itE]
     have hlim:n+cs.length<=1000000:=by have:=HLN.out.1;have:=HT1.out;omega
     have HW1:Hid (Below w.heap.size w (wr.alloc (.cells #[.bool true,.nilIface] 225))):=HW.out.alloc HW.out.size _;have e0:=(HW1.out.cell (p:=⟨p,0,none⟩) hp).trans hpc;have hp1:=nlA hp HW1.out.size;have HO1:=hd (HO.out.alloc (.cells #[.bool true,.nilIface] 225));go_wp2_with fail;go_loopw [5,29] (fun v i wr'=>∃(j:Nat),i=.int .i64 j/\j<=cs.length/\Hid (Below w.heap.size w wr')/\Hid (wr'.ownsRow w.heap.size 98 1 v (n+j) ((aF cs (l.take k)++(cs.map fun c=>Px.E.nm c.1).take j).flatMap gI))) (fun _ i _=>cs.length-(intOf i).toNat)
     case atStart=>exact⟨0,rfl,Nat.zero_le _,HW1,by show World.ownsRow _ _ _ _ _ _ _;simpa using HO1.out⟩
     case round=>
      obtain⟨j,rfl,hj,HV,HP⟩:=hrel;obtain⟨ua,uc,rfl⟩:=au HP.out;by_cases hjl:j<cs.length
      · obtain⟨gc,hco,hgc,x0,x1⟩:=HC.out j hjl;have y0:=(HV.out.cell (p:=⟨gc,j*2,none⟩) hgc).trans x0;have y1:=(HV.out.cell (p:=⟨gc,j*2+1,none⟩) hgc).trans x1;have hgc2:=nlA hgc HV.out.size;have HJ:=hd (gH cs j hjl).1;generalize cs[j]=c at*;obtain⟨cn,ct⟩:=c;simp only at y0 y1;clear x0 x1;subst hco;have HO2:=hd ((HP.out.alloc (.cells #[.string ⟨cn.toArray⟩,.int .i64 (ct:Nat)] 220)).alloc (.cells #[.iface 271 (.agg #[.string ⟨cn.toArray⟩])] 98));have HW2:Hid (Below w.heap.size w ((wr.alloc (.cells #[.string ⟨cn.toArray⟩,.int .i64 (ct:Nat)] 220)).alloc (.cells #[.iface 271 (.agg #[.string ⟨cn.toArray⟩])] 98))):=(HV.out.alloc HV.out.size _).alloc (HV.out.alloc HV.out.size _).size _
        go_wp2_with(first
         |(at_builtin;refine bu rfl _ _ 132 rfl w.heap.size 98 i0 .nilIface 1 16 Tryz.underlying132 hi hz0 hz1 hz2 rfl (by decide) _ _ _ rfl HO2.out ⟨wr.heap.size+1,0,none⟩ 1 1 [.iface 271 (.agg #[.string ⟨cn.toArray⟩])] rfl rfl ?e1 ?e2 ?e3 ?e4 ?e5 ?_)
         |fail)
        try(case e1=>have:=zh (wr.alloc (.cells #[.string ⟨cn.toArray⟩,.int .i64 (ct:Nat)] 220)) (.iface 271 (.agg #[.string ⟨cn.toArray⟩])) 98;rwa [World.size_alloc]at this)
        case e2=>first|rfl|(intro u hu;simp at hu;subst hu;rfl)
        case e3=>simp only[maxLen];omega
        case e4=>omega
        case e5=>first|exact HW2.out.size|(have:=HW2.out.size;simp at this⊢;omega)
        intro v' w3 hown hgrow _;have HB3:Hid (Below w.heap.size w w3):=dB HW2.out hgrow (fun k hk=>(HO2.out.lt k hk).1) HW2.out.size
        have HO3:Hid (w3.ownsRow w.heap.size 98 1 v' (n+(j+1)) ((aF cs (l.take k)++(cs.map fun c=>Px.E.nm c.1).take (j+1)).flatMap gI)):=by
         show World.ownsRow _ _ _ _ _ _ _;rw[<-List.map_take,HJ.out,List.map_append,List.map_take];simp only[List.flatMap_append,List.map_cons,List.map_nil,List.flatMap_cons,List.flatMap_nil,List.append_nil];exact hown
        obtain⟨va',vc',rfl⟩:=au hown;clear hown hgrow HO2;go_wp2_with fail;go_roundw
        case rel=>exact⟨j+1,rfl,by omega,HB3,HO3⟩
        case measure=>simp[intOf];omega
      obtain rfl:j=cs.length:=by omega
      have HO4:Hid (wr.ownsRow w.heap.size 98 1 (.slice ua (n+cs.length) uc) (n+cs.length) ((aF cs (l.take (k+1))).flatMap gI)):=by
       show World.ownsRow _ _ _ _ _ _ _;rw[HLN.out.2];have:=HP.out
       rwa [List.take_of_length_le (l:=cs.map fun c=>Px.E.nm c.1) (by simp)]at this
      clear HP;go_wp2_with fail;go_roundw
      case rel=>exact⟨k+1,n+cs.length,rfl,by omega,HLN.out.1,HV,HO4⟩
      case measure=>simp[intOf];omega
  obtain rfl:k=l.length:=by omega
  have HO4:Hid (wr.ownsRow w.heap.size 98 1 (.slice va n vc) (aF cs l).length ((aF cs l).flatMap gI)):=by
   show World.ownsRow _ _ _ _ _ _ _;have h1:=HO.out;have h2:=HN.out;rw[List.take_length]at h1 h2;rw[<-h2];exact h1
  clear HO;go_wp2_with fail;go_ret;exact⟨HW.out,_,rfl,HO4.out⟩
end Tb
end
section
namespace Tb
open Bt
theorem IZ(n:Nat)(h1:1<=n)(hn:n<=1000000)(w:World):Calls Tryz.prog 158 #[.slice none 0 0,.int .i64 n] w fun x w'=>Below w.heap.size w w'/\∃v,x=.returned v/\w'.ownsRow w.heap.size 191 2 v 0 []:=by
 obtain⟨i0,hi,hz0,hz1,hz2⟩:=info_parts Tryz.info191
 have hrz:=fun ty=>Lib.run_append_nil_zeros (P:=Tryz.prog) w 172 3 ty 191 i0 (.agg #[.nilIface,.int .i64 0]) .i64 .i64 Tryz.underlying172 Tryz.underlying3 hi hz0 n (by omega) (by omega) (by omega) (by rw[hz2];omega)
 have hG1:n<=grownCap w n 0 191:=grownCap_ge w _ _ _;have hG2:=grownCap_le_maxLen w n 0 191 (by unfold maxLen;omega);generalize grownCap w n 0 191=G at*
 have hG3:G<=9223372036854775807:=by unfold maxLen at hG2;omega
 have HG2:=hd hG2;have HB:Hid (Below w.heap.size w (w.drew.alloc (.cells (Builtin.zeroCells (Value.agg #[.nilIface,.int .i64 0]).cells n++Builtin.zeroCells (Value.agg #[.nilIface,.int .i64 0]).cells (G-n)) 191))):=((Below.refl w.heap.size w).drew).alloc (nlr _) _
 have HO:Hid ((w.drew.alloc (.cells (Builtin.zeroCells (Value.agg #[.nilIface,.int .i64 0]).cells n++Builtin.zeroCells (Value.agg #[.nilIface,.int .i64 0]).cells (G-n)) 191)).ownsRow w.heap.size 191 2 (.slice (some ⟨w.heap.size,0,none⟩) 0 G) 0 []):=by
  refine⟨rfl,.inr ⟨w.heap.size,G,_,rfl,nlr _,World.alloc_heap_new w.drew _,Nat.zero_le _,HG2.out,?_,by simp⟩⟩;rw[Array.size_append,size_zeroCells,size_zeroCells];simp[Value.cells];omega
 clear hG2 hi hz0 hz1 hz2;go_enter Tryz.func158,Tryz.ntmps158
 go_wp2_with(first
  |(at_builtin;refine Lib.wpList_append_run _ rfl _ _ 172 3 rfl (.slice none 0 0) (.int .i64 n) rfl rfl _ _ (hrz _) ?_)
  |fail)
 go_wp2_with fail;go_ret;exact⟨HB.out,_,rfl,HO.out⟩
theorem I8(ns:List Nat)(k:Nat)(h:k<ns.length):(ns.take (k+1)).sum=(ns.take k).sum+ns[k]:=by
 rw[(gH ns k h).1,List.sum_append];simp
theorem zq(ns:List Nat)(k:Nat):(ns.take k).sum<=ns.sum:=by
 conv=>rhs;rw[<-List.take_append_drop k ns]
 rw[List.sum_append];omega
theorem Cm(vs:List Value)(ns:List Nat)(xss:List (List Value))(hvl:vs.length=3)(hnl:ns.length=3)(hxl:xss.length=3)(h1:1<=ns.sum)(hs:ns.sum<=1000000)(gl cl:Nat)(w:World)(hgl:gl<w.heap.size)
   (hc:∀(k:Nat) (h:k<3),w.cell? ⟨gl,k,none⟩=some (vs[k]'(by omega))) (hE:∀(k:Nat) (h:k<3),w.ownsRow 0 191 2 (vs[k]'(by omega)) (ns[k]'(by omega)) (xss[k]'(by omega))) (h1c:∀xs∈xss,∀u∈xs,u.oneCell'=true):
   Calls Tryz.prog 92 #[.slice (some ⟨gl,0,none⟩) 3 cl] w fun x w'=>Below w.heap.size w w'/\∃v,x=.returned v/\w'.ownsRow w.heap.size 191 2 v ns.sum xss.flatten:=by
 obtain⟨i0,hi,hz0,hz1,hz2⟩:=info_parts Tryz.info191;have HC:=hd hc;have HE:=hd hE;have H1C:=hd h1c;have HNL:=hd hnl;have HXL:=hd hxl;clear hc hE h1c;go_enter Tryz.func92,Tryz.ntmps92;go_wp2_with fail;go_loopw [3,11] (fun n i wr=>w=wr/\∃k m:Nat,k<=3/\i=.int .i64 k/\n=.int .i64 m/\Hid (m=(ns.take k).sum)) (fun _ i _=>3-(intOf i).toNat)
 case atStart=>exact⟨rfl,0,0,by omega,rfl,rfl,by show _=_;simp⟩
 case round=>
  obtain⟨rfl,k,m,hk,rfl,rfl,HM⟩:=hrel
  have hm:m<=1000000:=by have:=HM.out;have:=zq ns k;omega
  by_cases hlt:k<3
  · have c0:=HC.out k hlt
    have hkn:k<ns.length:=by rw[HNL.out];exact hlt
    have HS:=hd (I8 ns k hkn);have hsum:=zq ns (k+1)
    have hle:(ns[k]'hkn)<=1000000:=by have:=HS.out;omega
    have HS2:Hid (m+(ns[k]'hkn)=(ns.take (k+1)).sum):=by show _=_;rw[HS.out,HM.out]
    obtain⟨ao,cap,hv,_⟩:=dm (HE.out k hlt);rw[hv]at c0;generalize ns[k]'hkn=nk at*;clear hv hsum;go_wp2_with fail;go_roundw
    case rel=>exact⟨trivial,k+1,m+nk,by omega,rfl,by go_num,HS2⟩
    case measure=>simp[intOf];omega
  obtain rfl:k=3:=by omega
  have HM3:Hid (m=ns.sum):=by show _=_;rw[HM.out,List.take_of_length_le (by rw[HNL.out];omega)]
  have hm1:1<=m:=by have:=HM3.out;omega
  go_wp2_with fail;refine(IZ m hm1 hm _).mono ?_;rintro x w1 ⟨hb,v0,rfl,hown⟩;have HB:=hd hb;have HO:=hd hown;clear hb hown;go_wp2_with fail;go_loopw [6,27] (fun v i w2=>Hid (Below w.heap.size w w2)/\∃k m':Nat,k<=3/\i=.int .i64 k/\Hid (m'=(ns.take k).sum)/\Hid (w2.ownsRow w.heap.size 191 2 v m' (xss.take k).flatten)) (fun _ i _=>3-(intOf i).toNat)
  case atStart=>exact⟨HB,0,0,by omega,rfl,by show _=_;simp,HO⟩
  case round=>
   obtain⟨HW,k,m',hk,rfl,HM',HO2⟩:=hrel;obtain⟨va,vc,rfl⟩:=au HO2.out;by_cases hlt:k<3
   · have hkn:k<ns.length:=by rw[HNL.out];exact hlt
     have hkx:k<xss.length:=by rw[HXL.out];exact hlt
     have d0:=(HW.out.cell (p:=⟨gl,k,none⟩) hgl).trans (HC.out k hlt);have hg2:=nlA hgl HW.out.size
     have hm':m'<=1000000:=by have:=HM'.out;have:=zq ns k;omega
     have hsum:=zq ns (k+1);have HS:=hd (I8 ns k hkn)
     have HS2:Hid (m'+(ns[k]'hkn)=(ns.take (k+1)).sum):=by show _=_;rw[HS.out,HM'.out]
     have hle:m'+(ns[k]'hkn)<=1000000:=by have:=HS2.out;omega
     have HX:=hd (gH xss k hkx).1;have HX1:=hd (H1C.out _ (List.getElem_mem hkx));have hown:=HE.out k hlt;rcases hown.2 with⟨hv,hn0⟩|⟨g,cap,cur,hv,_,hg,h2,h3,h4,h5⟩
     · rw[hv]at d0;have hx0:xss[k]=[]:=List.eq_nil_of_length_eq_zero (by rw[hown.1,hn0])
       have HO3:Hid (wr.ownsRow w.heap.size 191 2 (.slice va m' vc) m' (xss.take (k+1)).flatten):=by show World.ownsRow _ _ _ _ _ _ _;rw[HX.out,hx0];simpa using HO2.out
       have HS3:Hid (m'=(ns.take (k+1)).sum):=by show _=_;rw[<-HS2.out,hn0];omega
       clear hown hv hn0 hx0 hsum hle
       go_wp2_with(first
        |(at_builtin;refine wpList_append_own_none rfl _ _ 172 rfl w.heap.size 191 i0 2 Tryz.underlying172 hi _ _ _ rfl HO2.out rfl ?_)
        |fail)
       go_wp2_with fail;go_roundw
       case rel=>exact⟨HW,k+1,m',by omega,rfl,HS3,HO3⟩
       case measure=>simp[intOf];omega
     have Qe:=(geA.1 hg).1
     have HCL:Hid (∀j u,xss[k][j]? =some u->wr.cell? ((⟨g,0,none⟩:Addr).add j)=some u):=fun j u hu=>by
      have hc:=hown;rw[hv]at hc;have hcc:=hc.cells (g:=g) rfl j u hu;rw[Addr.add_lit,Nat.zero_add]at hcc⊢;exact(HW.out.cell (p:=⟨g,j,none⟩) Qe).trans hcc
     have HLN:=hd hown.1;rw[hv]at d0;generalize hnk:ns[k]'hkn=nk at*;generalize xss[k]=xk at*;clear hown hv h2 h3 h4 h5 hg hsum hnk
     go_wp2_with(first
      |(at_builtin;refine bu rfl _ _ 172 rfl w.heap.size 191 i0 (.agg #[.nilIface,.int .i64 0]) 2 24 Tryz.underlying172 hi hz0 hz1 hz2 rfl (by decide) _ _ _ rfl HO2.out ⟨g,0,none⟩ nk cap xk rfl HLN.out HCL.out HX1.out ?c3 ?c4 ?c5 ?_)
      |fail)
     case c3=>simp only[maxLen];omega
     case c4=>omega
     case c5=>exact HW.out.size
     intro v' w3 hown hgrow _;have HB3:Hid (Below w.heap.size w w3):=dB HW.out hgrow (fun k hk=>(HO2.out.lt k hk).1) HW.out.size
     have HO3:Hid (w3.ownsRow w.heap.size 191 2 v' (m'+nk) (xss.take (k+1)).flatten):=by show World.ownsRow _ _ _ _ _ _ _;rw[HX.out];simpa using hown
     obtain⟨va',vc',rfl⟩:=au hown;clear hown hgrow;go_wp2_with fail;go_roundw
     case rel=>exact⟨HB3,k+1,m'+nk,by omega,rfl,HS2,HO3⟩
     case measure=>simp[intOf];omega
   obtain rfl:k=3:=by omega
   have HO4:Hid (wr.ownsRow w.heap.size 191 2 (.slice va m' vc) ns.sum xss.flatten):=by
    show World.ownsRow _ _ _ _ _ _ _;have h1:=HO2.out;have h2:=HM'.out;rw[List.take_of_length_le (by rw[HXL.out];omega)]at h1;rw[List.take_of_length_le (by rw[HNL.out];omega)]at h2;rw[<-h2];exact h1
   clear HO2;go_wp2_with fail;go_ret;exact⟨HW.out,_,rfl,HO4.out⟩
end Tb
end
section
namespace So
variable {α:Type}
structure nQ(lt:α->α->Bool):Prop where
 irr:∀a,lt a a=false
 tr:∀a b c,lt a b=true->lt b c=true->lt a c=true
 nt:∀a b c,lt a c=true->lt a b=true\/lt b c=true
def cK(lt:α->α->Bool)(l:List α):Prop:=l.Pairwise (fun a b=>lt b a=false)
def eqv(lt:α->α->Bool)(x y:α):Bool:= !lt x y&& !lt y x
structure dF(lt:α->α->Bool)(l l':List α):Prop where
 perm:l'.Perm l
 same:∀x,l'.filter (eqv lt x)=l.filter (eqv lt x)
theorem dF.refl(lt:α->α->Bool)(l:List α):dF lt l l:=⟨List.Perm.refl _,fun _=>rfl⟩
theorem dF.trans{lt:α->α->Bool}{a b c:List α}(h:dF lt a b)(k:dF lt b c):dF lt a c:=⟨k.perm.trans h.perm,fun x=>(k.same x).trans (h.same x)⟩
theorem dF.app{lt:α->α->Bool}{a b c d:List α}(h:dF lt a b)(k:dF lt c d):dF lt (a++c) (b++d):=
 ⟨h.perm.append k.perm,fun x=>by rw[List.filter_append,List.filter_append,h.same,k.same]⟩
theorem dF.len{lt:α->α->Bool}{a b:List α}(h:dF lt a b):b.length=a.length:=h.perm.length_eq
theorem dF.mem{lt:α->α->Bool}{a b:List α}(h:dF lt a b){x:α}:x∈b↔x∈a:=h.perm.mem_iff
theorem dF.Q8{lt:α->α->Bool}(o:nQ lt){u v:List α}(h:∀a∈u,∀b∈v,lt b a=true):dF lt (u++v) (v++u):=by
 refine⟨List.perm_append_comm,fun x=> ?_⟩;rw[List.filter_append,List.filter_append];by_cases hu:u.filter (eqv lt x)=[]
 · rw[hu];simp
 have hv:v.filter (eqv lt x)=[]:=by
  obtain⟨a,ha⟩:=List.exists_mem_of_ne_nil _ hu;rw[List.mem_filter]at ha;rw[List.filter_eq_nil_iff];intro b hb hx;have h1:=h a ha.1 b hb;have h2:=ha.2;simp[eqv]at h2 hx;rcases o.nt b x a h1 with h3|h3
  · rw[hx.2]at h3;cases h3
  rw[h2.1]at h3;cases h3
 rw[hv];simp
theorem cK.app{lt:α->α->Bool}{u v:List α}(hu:cK lt u)(hv:cK lt v)(h:∀a∈u,∀b∈v,lt b a=false):cK lt (u++v):=List.pairwise_append.2 ⟨hu,hv,h⟩
theorem cK.left{lt:α->α->Bool}{u v:List α}(h:cK lt (u++v)):cK lt u:=(List.pairwise_append.1 h).1
theorem cK.right{lt:α->α->Bool}{u v:List α}(h:cK lt (u++v)):cK lt v:=(List.pairwise_append.1 h).2.1
theorem cK.across{lt:α->α->Bool}{u v:List α}(h:cK lt (u++v)):∀a∈u,∀b∈v,lt b a=false:=(List.pairwise_append.1 h).2.2
theorem cK.nil(lt:α->α->Bool):cK lt ([]:List α):=List.Pairwise.nil
theorem cK.one(lt:α->α->Bool)(a:α):cK lt [a]:=List.pairwise_singleton _ _
theorem nQ.Br{lt:α->α->Bool}(o:nQ lt){a b c:α}(h:lt b a=false)(k:lt c b=false):lt c a=false:=by
 cases e:lt c a with
 |false=>rfl
 |true=>rcases o.nt c b a e with h1|h1<;>simp_all
theorem nQ.asym{lt:α->α->Bool}(o:nQ lt){a b:α}(h:lt a b=true):lt b a=false:=by
 cases e:lt b a with
 |false=>rfl
 |true=>have:=o.tr a b a h e;rw[o.irr]at this;cases this
theorem nQ.L8{lt:α->α->Bool}(o:nQ lt){a b c:α}(h:lt a b=true)(k:lt c b=false):lt a c=true:=by
 rcases o.nt a c b h with h1|h1
 · exact h1
 rw[k]at h1;cases h1
theorem nQ.Oh{lt:α->α->Bool}(o:nQ lt){a b c:α}(h:lt b a=false)(k:lt b c=true):lt a c=true:=by
 rcases o.nt b a c k with h1|h1
 · rw[h]at h1;cases h1
 exact h1
theorem halves{lt:α->α->Bool}(o:nQ lt){u1 u2 v1 v2 x y:List α}(hu:cK lt (u1++u2))(hv:cK lt (v1++v2))(h1:∀a∈u1,∀b∈v2,lt b a=false)(h2:∀a∈u2,∀b∈v1,lt b a=true)
   (hx:cK lt x) (sx:dF lt (u1++v1) x) (hy:cK lt y) (sy:dF lt (u2++v2) y):cK lt (x++y)/\dF lt ((u1++u2)++(v1++v2)) (x++y):=by
 refine⟨hx.app hy fun a ha b hb=> ?_,?_⟩
 · rw[sx.mem,List.mem_append]at ha;rw[sy.mem,List.mem_append]at hb;rcases ha with ha|ha<;>rcases hb with hb|hb
   · exact hu.across a ha b hb
   · exact h1 a ha b hb
   · exact o.asym (h2 b hb a ha)
   exact hv.across a ha b hb
 have k:dF lt ((u1++u2)++(v1++v2)) (u1++v1++(u2++v2)):=by
  have:=((dF.refl lt u1).app (dF.Q8 o h2)).app (dF.refl lt v2);simpa only[laa]using this
 exact k.trans (sx.app sy)
theorem JI{lt:α->α->Bool}(o:nQ lt){l x1 x2:List α}{e:α}(hs:cK lt (x1++x2))(st:dF lt l (x1++x2))(h1:∀a∈x1,lt e a=false)(h2:∀a∈x2,lt e a=true):
   cK lt (x1++e::x2)/\dF lt (l++[e]) (x1++e::x2):=by
 have h:=halves o (u1:=x1) (u2:=x2) (v1:=[e]) (v2:=[]) (x:=x1++[e]) (y:=x2) hs (by simpa using cK.one lt e) (by simp) (by simpa using h2) (hs.left.app (cK.one _ _) (by simpa using h1)) (dF.refl _ _) hs.right (by simpa using dF.refl lt x2);refine⟨by simpa using h.1,?_⟩;have:=(st.app (dF.refl lt [e])).trans (by simpa using h.2);simpa using this
theorem kT{lt:α->α->Bool}(o:nQ lt){l:List α}(h:cK lt l){i j:Nat}(hij:i<=j)(hj:j<l.length):lt l[j] (l[i]'(by omega))=false:=by
 rcases Nat.lt_or_eq_of_le hij with h1|rfl
 · exact List.pairwise_iff_getElem.1 h i j (by omega) hj h1
 exact o.irr _
theorem GG{lt:α->α->Bool}{l:List α}(h:∀(i j:Nat) (hi:i<l.length) (hj:j<l.length),i<j->lt l[j] l[i]=false):cK lt l:=List.pairwise_iff_getElem.2 h
theorem MF{lt:α->α->Bool}(o:nQ lt){l:List α}(h:cK lt l){e:α}(k:∀a,l.getLast? =some a->lt e a=false):∀a∈l,lt e a=false:=by
 intro a ha;obtain⟨i,hi,rfl⟩:=List.getElem_of_mem ha;have h1:=kT o h (i:=i) (j:=l.length-1) (by omega) (by omega);have h2:=k (l[l.length-1]'(by omega)) (by rw[List.getLast?_eq_getElem?,List.getElem?_eq_getElem (by omega)]);exact o.Br h1 h2
end So
end
section
namespace Mg
open Lx (Bs)
open Px (E)
structure iG{α:Type}(f:α->α->Int):Prop where
 anti:∀a b,f b a= -f a b
 tr:∀a b c,f a b<=0->f b c<=0->f a c<=0
theorem iG.refl{α:Type}{f:α->α->Int}(h:iG f)(a:α):f a a=0:=by have:=h.anti a a;omega
theorem iG.swo{α:Type}{f:α->α->Int}(h:iG f):So.nQ (fun a b=>decide (f a b<0)):=by
 refine⟨fun a=> ?_,fun a b c h1 h2=> ?_,fun a b c h1=> ?_⟩
 · have:=h.refl a;simp;omega
 · simp at h1 h2⊢;have a1:=h.tr a b c (by omega) (by omega);have a2:=h.anti a c;have a3:=h.anti b c;by_cases hz:f a c=0
   · have:=h.tr c a b (by omega) (by omega);omega
   omega
 simp at h1⊢;by_cases hz:f a b<0
 · exact .inl hz
 right
 have a1:=h.anti a b;by_cases hy:f b c<0
 · exact hy
 have a2:=h.anti b c;have:=h.tr c b a (by omega) (by omega);have a3:=h.anti a c;omega
theorem iG.lex{α:Type}{f g:α->α->Int}(hf:iG f)(hg:iG g):iG (fun a b=>if f a b=0 then g a b else f a b):=by
 refine⟨fun a b=> ?_,fun a b c h1 h2=> ?_⟩
 · have h1:=hf.anti a b;have h2:=hg.anti a b
   split<;>split<;>omega
 have a1:=hf.tr a b c;have a2:=hf.tr c a b;have a3:=hf.tr b c a;have b1:=hf.anti a b;have b2:=hf.anti b c;have b3:=hf.anti a c;have c1:=hg.tr a b c
 split at h1<;>split at h2<;>split<;>omega
theorem iG.neg{α:Type}{f:α->α->Int}(h:iG f):iG (fun a b=> -f a b):=by
 refine⟨fun a b=>by have:=h.anti a b;omega,fun a b c h1 h2=> ?_⟩;have a1:=h.anti a b;have a2:=h.anti b c;have a3:=h.anti a c;have:=h.tr c b a (by omega) (by omega);omega
theorem iG.on{α β:Type}{f:α->α->Int}(h:iG f)(k:β->α):iG (fun a b=>f (k a) (k b)):=⟨fun a b=>h.anti _ _,fun a b c=>h.tr _ _ _⟩
theorem iG.zero{α:Type}:iG (fun(_ _:α)=>(0:Int)):=⟨fun _ _=>rfl,fun _ _ _ _ _=>by simp⟩
theorem Gt:iG jb:=by
 refine⟨fun a b=> ?_,fun a b c h1 h2=> ?_⟩
 · unfold jb;split<;>split<;>(try split)<;>omega
 unfold jb at*;split at h1<;>split at h2<;>(try split at h1)<;>(try split at h2)<;>split<;>(try split)<;>omega
theorem jF:∀a:Bs,Op.bytesLess a a=false
 |[]=>rfl
 |x::a=>by simp[Op.bytesLess,jF a]
theorem pV:∀a b:Bs,Op.bytesLess a b=true->Op.bytesLess b a=false
 |[],[],h=>by simp[Op.bytesLess]at h
 |[],_::_,_=>by simp[Op.bytesLess]
 |_::_,[],h=>by simp[Op.bytesLess]at h
 |x::a,y::b,h=>by
  simp only[Op.bytesLess,Bool.or_eq_true,Bool.and_eq_true,decide_eq_true_eq,beq_iff_eq]at h;simp only[Op.bytesLess,Bool.or_eq_false_iff,Bool.and_eq_false_imp,decide_eq_false_iff_not,beq_iff_eq];rcases h with h|⟨rfl,h⟩
  · refine⟨fun h2=>absurd (UInt8.lt_trans h h2) (UInt8.lt_irrefl _),fun h2=> ?_⟩;subst h2;exact absurd h (UInt8.lt_irrefl _)
  exact⟨UInt8.lt_irrefl _,fun _=>pV a b h⟩
theorem BR:∀a b:Bs,Op.bytesLess a b=false->Op.bytesLess b a=false->a=b
 |[],[],_,_=>rfl
 |[],_::_,h,_=>by simp[Op.bytesLess]at h
 |_::_,[],_,h=>by simp[Op.bytesLess]at h
 |x::a,y::b,h1,h2=>by
  simp only[Op.bytesLess,Bool.or_eq_false_iff,Bool.and_eq_false_imp,decide_eq_false_iff_not,beq_iff_eq]at h1 h2
  have hxy:x=y:=by
   have:=h1.1;have:=h2.1;exact UInt8.le_antisymm (UInt8.not_lt.1 h2.1) (UInt8.not_lt.1 h1.1)
  subst hxy;rw[BR a b (h1.2 rfl) (h2.2 rfl)]
theorem Eo:∀a b c:Bs,Op.bytesLess a b=true->Op.bytesLess b c=true->Op.bytesLess a c=true
 |[],[],_,h,_=>by simp[Op.bytesLess]at h
 |[],_::_,[],_,h=>by simp[Op.bytesLess]at h
 |[],_::_,_::_,_,_=>by simp[Op.bytesLess]
 |_::_,[],_,h,_=>by simp[Op.bytesLess]at h
 |_::_,_::_,[],_,h=>by simp[Op.bytesLess]at h
 |x::a,y::b,z::c,h1,h2=>by
  simp only[Op.bytesLess,Bool.or_eq_true,Bool.and_eq_true,decide_eq_true_eq,beq_iff_eq]at h1 h2⊢;rcases h1 with h1|⟨rfl,h1⟩
  · rcases h2 with h2|⟨rfl,h2⟩
    · exact .inl (UInt8.lt_trans h1 h2)
    exact .inl h1
  rcases h2 with h2|⟨rfl,h2⟩
  · exact .inl h2
  exact .inr ⟨rfl,Eo a b c h1 h2⟩
theorem Ij:iG oW:=by
 have key:∀a b,(oW a b= -1/\Op.bytesLess a b=true)\/(oW a b=0/\a=b)\/(oW a b=1/\Op.bytesLess b a=true):=by
  intro a b;unfold oW;by_cases h1:Op.bytesLess a b=true
  · left;rw[if_pos h1];exact⟨rfl,h1⟩
  rw[if_neg h1];by_cases h2:(a==b)=true
  · right;left;rw[if_pos h2];exact⟨rfl,by simpa using h2⟩
  right;right
  rw[if_neg h2];refine⟨rfl,?_⟩
  cases h3:Op.bytesLess b a with
  |true=>rfl
  |false=>exact absurd (by simpa using BR a b (by simpa using h1) h3) h2
 refine⟨fun a b=> ?_,fun a b c h1 h2=> ?_⟩
 · rcases key a b with⟨h1,h2⟩|⟨h1,rfl⟩|⟨h1,h2⟩
   · have:=pV a b h2;rcases key b a with⟨k1,k2⟩|⟨k1,rfl⟩|⟨k1,k2⟩
     · rw[k2]at this;cases this
     · rw[jF]at h2;cases h2
     omega
   · omega
   have:=pV b a h2;rcases key b a with⟨k1,k2⟩|⟨k1,rfl⟩|⟨k1,k2⟩
   · omega
   · rw[jF]at h2;cases h2
   rw[k2]at this;cases this
 rcases key a b with⟨k1,k2⟩|⟨k1,rfl⟩|⟨k1,k2⟩
 · rcases key b c with⟨l1,l2⟩|⟨l1,rfl⟩|⟨l1,l2⟩
   · have:=Eo a b c k2 l2;unfold oW;rw[if_pos this];omega
   · omega
   omega
 · exact h2
 omega
def dK(a b:V):Int:=
 if isNull a=true/\isNull b=true then 0 else if isNull a=true then-1 else if isNull b=true then 1
 else if a.kind=17/\b.kind=17 then oW a.text b.text else if a.kind=17 then 1 else if b.kind=17 then-1 else jb a.int b.int
theorem En:iG dK:=by
 refine⟨fun a b=> ?_,fun a b c h1 h2=> ?_⟩
 · have i1:=Gt.anti a.int b.int;have i2:=Ij.anti a.text b.text;unfold dK;by_cases p:isNull a=true<;>by_cases q:isNull b=true<;>by_cases r:a.kind=17<;>by_cases s:b.kind=17<;>simp[p,q,r,s]<;>omega
 have i1:=Gt.tr a.int b.int c.int;have i2:=Ij.tr a.text b.text c.text;unfold dK at*;by_cases p:isNull a=true<;>by_cases q:isNull b=true<;>by_cases p':isNull c=true<;>by_cases r:a.kind=17<;>by_cases s:b.kind=17<;>by_cases t:c.kind=17<;>simp[p,q,p',r,s,t]at h1 h2⊢ <;>first|omega|exact i1 h1 h2|exact i2 h1 h2
theorem IU{a b:V}{t:Nat}(ha:Has a t)(hb:Has b t):dK a b=qX a b:=by
 unfold dK qX;by_cases p:isNull a=true<;>by_cases q:isNull b=true<;>simp[p,q]
 have ka:a.kind≠14:=by simpa[isNull]using p
 have kb:b.kind≠14:=by simpa[isNull]using q
 have hab:a.kind=17↔b.kind=17:=by
  rcases ha with h|⟨h1,h2⟩|⟨h1,h2⟩|⟨h1,h2⟩<;>rcases hb with k|⟨k1,k2⟩|⟨k1,k2⟩|⟨k1,k2⟩<;>omega
 by_cases r:a.kind=17
 · have:=hab.1 r;simp[r,this]
 have:¬b.kind=17:=fun h=>r (hab.2 h)
 simp[r,this]
def cmpO:List Bool->List V->List V->Int
 |d::ds,a::az,b::bs=>if(if d=true then-dK a b else dK a b)=0 then cmpO ds az bs else(if d=true then-dK a b else dK a b)
 |_,_,_=>0
theorem Em:∀(ds:List Bool) (az bs:List V) (k:Nat) (h1:k<ds.length) (h2:k<az.length) (h3:k<bs.length),(∀(j:Nat) (j1:j<az.length) (j2:j<bs.length),j<k->dK az[j] bs[j]=0)->dK az[k] bs[k]≠0->cmpO ds az bs=if ds[k]=true then-dK az[k] bs[k]else dK az[k] bs[k]
 |d::ds,a::az,b::bs,0,_,_,_,_,h=>by
  simp only[cmpO,List.getElem_cons_zero]at h⊢;rw[if_neg]
  split<;>omega
 |d::ds,a::az,b::bs,k+1,h1,h2,h3,hz,h=>by
  have h0:=hz 0 (by simp) (by simp) (by omega);simp only[List.getElem_cons_zero]at h0;simp only[cmpO,List.getElem_cons_succ];rw[if_pos (by rw[h0];simp)];exact Em ds az bs k (by simpa using h1) (by simpa using h2) (by simpa using h3) (fun j j1 j2 hj=>by have:=hz (j+1) (by simpa using j1) (by simpa using j2) (by omega);simpa using this) (by simpa using h)
 |[],_,_,_,h1,_,_,_,_=>by simp at h1
 |_::_,[],_,_,_,h2,_,_,_=>by simp at h2
 |_::_,_::_,[],_,_,_,h3,_,_=>by simp at h3
theorem xE:∀(ds:List Bool) (az bs:List V),(∀(j:Nat) (j0:j<ds.length) (j1:j<az.length) (j2:j<bs.length),dK az[j] bs[j]=0)->cmpO ds az bs=0
 |[],_,_,_=>by simp[cmpO]
 |_::_,[],_,_=>by simp[cmpO]
 |_::_,_::_,[],_=>by simp[cmpO]
 |d::ds,a::az,b::bs,h=>by
  have h0:=h 0 (by simp) (by simp) (by simp);simp only[List.getElem_cons_zero]at h0;simp only[cmpO];rw[if_pos (by rw[h0];simp)]
  exact xE ds az bs fun j j0 j1 j2=>by have:=h (j+1) (by simpa using j0) (by simpa using j1) (by simpa using j2);simpa using this
def cmpN(ds:List Bool)(n:Nat)(az bs:Nat->V):Int:=match n,ds with
 |n+1,d::ds=>if(if d=true then-dK (az 0) (bs 0)else dK (az 0) (bs 0))=0 then cmpN ds n (fun i=>az (i+1)) (fun i=>bs (i+1))else(if d=true then-dK (az 0) (bs 0)else dK (az 0) (bs 0))
 |_,_=>0
theorem CW:∀(ds:List Bool) (n:Nat),iG (cmpN ds n)
 |[],n=>by cases n<;>exact iG.zero
 |_::_,0=>iG.zero
 |true::ds,n+1=>by
  have:=((En.neg).on (fun az:Nat->V=>az 0)).lex ((CW ds n).on (fun az:Nat->V=>fun i=>az (i+1)));simpa[cmpN]using this
 |false::ds,n+1=>by
  have:=((En).on (fun az:Nat->V=>az 0)).lex ((CW ds n).on (fun az:Nat->V=>fun i=>az (i+1)));simpa[cmpN]using this
theorem Ho:∀(ds:List Bool) (az bs:List V),az.length=ds.length->bs.length=ds.length->cmpO ds az bs=cmpN ds ds.length (fun i=>az.getD i aJ) (fun i=>bs.getD i aJ)
 |[],az,bs,_,_=>by simp[cmpO,cmpN]
 |d::ds,a::az,b::bs,h1,h2=>by
  have:=Ho ds az bs (by simpa using h1) (by simpa using h2);simp only[cmpO,cmpN,List.length_cons,this];simp
 |_::_,[],_,h,_=>by simp at h
 |_::_,_::_,[],_,h=>by simp at h
end Mg
end
section
namespace So
variable {α:Type}
theorem cK.take{lt:α->α->Bool}{l:List α}(h:cK lt l)(n:Nat):cK lt (l.take n):=List.Pairwise.sublist (List.take_sublist _ _) h
theorem cK.drop{lt:α->α->Bool}{l:List α}(h:cK lt l)(n:Nat):cK lt (l.drop n):=List.Pairwise.sublist (List.drop_sublist _ _) h
theorem kN{l:List α}{a:α}(h:a∈l.take n):∃i,∃hi:i<l.length,i<n/\l[i]=a:=by
 obtain⟨i,hi,rfl⟩:=List.getElem_of_mem h;simp at hi;exact⟨i,by omega,by omega,by rw[List.getElem_take]⟩
theorem iW{l:List α}{a:α}(h:a∈l.drop n):∃i,∃hi:i<l.length,n<=i/\l[i]=a:=by
 obtain⟨i,hi,rfl⟩:=List.getElem_of_mem h;simp at hi;exact⟨n+i,by omega,by omega,by rw[List.getElem_drop]⟩
theorem cut{lt:α->α->Bool}(o:nQ lt){u v:List α}(hu:cK lt u)(hv:cK lt v){i j:Nat}(hi:i<=u.length)(hj:j<=v.length)
   (A:∀(h1:0<i) (h2:j<v.length),lt v[j] (u[i-1]'(by omega))=false) (B:∀(h1:i<u.length) (h2:0<j),lt (v[j-1]'(by omega)) u[i]=true):
   (∀a∈u.take i,∀b∈v.drop j,lt b a=false)/\(∀a∈u.drop i,∀b∈v.take j,lt b a=true):=by
 constructor
 · intro a ha b hb;obtain⟨x,hx,hxi,rfl⟩:=kN ha;obtain⟨y,hy,hyj,rfl⟩:=iW hb;have h:=A (by omega) (by omega);have h1:=kT o hu (i:=x) (j:=i-1) (by omega) (by omega);have h2:=kT o hv (i:=j) (j:=y) hyj hy;exact o.Br (o.Br h1 h) h2
 intro a ha b hb;obtain⟨x,hx,hxi,rfl⟩:=iW ha;obtain⟨y,hy,hyj,rfl⟩:=kN hb;have h:=B (by omega) (by omega);have h1:=kT o hu (i:=i) (j:=x) hxi hx;have h2:=kT o hv (i:=y) (j:=j-1) (by omega) (by omega);exact o.Oh h2 (o.L8 h h1)
theorem merged{lt:α->α->Bool}(o:nQ lt){u v x y:List α}(hu:cK lt u)(hv:cK lt v){i j:Nat}(hi:i<=u.length)(hj:j<=v.length)
   (A:∀(h1:0<i) (h2:j<v.length),lt v[j] (u[i-1]'(by omega))=false) (B:∀(h1:i<u.length) (h2:0<j),lt (v[j-1]'(by omega)) u[i]=true)
   (hx:cK lt x) (sx:dF lt (u.take i++v.take j) x) (hy:cK lt y) (sy:dF lt (u.drop i++v.drop j) y):cK lt (x++y)/\dF lt (u++v) (x++y):=by
 obtain⟨h1,h2⟩:=cut o hu hv hi hj A B;have h:=halves o (u1:=u.take i) (u2:=u.drop i) (v1:=v.take j) (v2:=v.drop j) (by rw[List.take_append_drop];exact hu) (by rw[List.take_append_drop];exact hv) h1 h2 hx sx hy sy
 rwa [List.take_append_drop,List.take_append_drop]at h
def BS(lt:α->α->Bool)(bs:Nat)(l:List α):Prop:=∀(i j:Nat) (hi:i<l.length) (hj:j<l.length),i<j->i/bs=j/bs->lt l[j] l[i]=false
theorem BS.Qa{lt:α->α->Bool}{l:List α}(h:BS lt bs l)(hl:l.length<=bs):cK lt l:=
 GG fun i j hi hj hij=>h i j hi hj hij (by rw[Nat.div_eq_of_lt (by omega),Nat.div_eq_of_lt (by omega)])
theorem BS.nil(lt:α->α->Bool)(bs:Nat):BS lt bs ([]:List α):=fun i j hi=>by simp at hi
theorem BS.app{lt:α->α->Bool}{k:Nat}{x y:List α}(hb:0<bs)(h:BS lt bs x)(hk:x.length=bs*k)(hy:cK lt y)(hl:y.length<=bs):BS lt bs (x++y):=by
 intro i j hi hj hij he;simp only[List.length_append]at hi hj;by_cases h1:j<x.length
 · rw[List.getElem_append_left h1,List.getElem_append_left (by omega)];exact h i j _ _ hij he
 have h2:¬i<x.length:=fun h2=>by
  have e1:i/bs<k:=Nat.div_lt_of_lt_mul (by omega);have e2:k<=j/bs:=(Nat.le_div_iff_mul_le hb).2 (by rw[Nat.mul_comm];omega);omega
 rw[List.getElem_append_right (by omega),List.getElem_append_right (by omega)];exact List.pairwise_iff_getElem.1 hy _ _ _ _ (by omega)
theorem BS.take{lt:α->α->Bool}{l:List α}(h:BS lt bs l):cK lt (l.take bs):=by
 refine GG fun i j hi hj hij=> ?_
 simp at hi hj;rw[List.getElem_take,List.getElem_take];exact h i j _ _ hij (by rw[Nat.div_eq_of_lt (by omega),Nat.div_eq_of_lt (by omega)])
theorem BS.drop{lt:α->α->Bool}{l:List α}(hb:0<bs)(h:BS lt bs l):BS lt bs (l.drop bs):=by
 intro i j hi hj hij he;simp at hi hj;rw[List.getElem_drop,List.getElem_drop];refine h (bs+i) (bs+j) _ _ (by omega) ?_;rw[Nat.add_div_left _ hb,Nat.add_div_left _ hb,he]
end So
end
section
namespace So
open Bt
theorem Ej(x:Int)(h1: -1000000<=x)(h2:x<=1000000):IntKind.i64.wrap x=x:=by
 rw[IntKind.wrap_i64];omega
theorem CX{α:Type}:∀(p:List α) (a x:α) (s:List α),(p++a::s).set p.length x=p++x::s
 |[],_,_,_=>rfl
 |c::p,a,x,s=>by simp[CX p a x s]
theorem get_at{α:Type}(p:List α)(a:α)(s:List α)(h:p.length<(p++a::s).length):(p++a::s)[p.length]=a:=by
 rw[List.getElem_append_right (nlr _)];simp
theorem wO:∀(l:List (Value×Value)) (i:Nat) (a b:Value),flatE (l.set i (a,b))=((flatE l).set (i*2) a).set (i*2+1) b
 |[],_,_,_=>rfl
 |e::r,0,a,b=>by simp[flatE]
 |e::r,i+1,a,b=>by
  rw[show(i+1)*2=i*2+1+1 by omega];simp[flatE,wO r i a b]
def bR(T:TypeId)(w:World)(g:Nat)(l:List (Value×Value)):Prop:=∃cur:Array Value,w.heap[g]? =some (.cells cur T (0,0))/\cur.toList.take (l.length*2)=flatE l/\l.length*2<=cur.size
theorem bR.lt{l:List (Value×Value)}(h:bR T w g l):g<w.heap.size:=by
 obtain⟨cur,h1,_⟩:=h;exact(geA.1 h1).1
theorem bR.at{l:List (Value×Value)}(h:bR T w g l)(i:Nat)(hi:i<l.length):w.cell? ⟨g,i*2,none⟩=some l[i].1/\w.cell? ⟨g,i*2+1,none⟩=some l[i].2:=by
 obtain⟨cur,h1,h2,h3⟩:=h;have k:=gT l i hi;have v:=gX l i hi;rw[<-h2]at k v;rw[List.getElem?_take]at k v;rw[if_pos (by omega)]at k v;have q:af w g cur T:=h1;exact⟨by rw[q.cell];simpa using k,by rw[q.cell];simpa using v⟩
theorem bR.free{l:List (Value×Value)}(h:bR T w g l)(i:Nat):w.frozen? ⟨g,i,none⟩=false:=by
 obtain⟨cur,h1,_⟩:=h;exact af.free (show af w g cur T from h1) i
theorem bR.put{l:List (Value×Value)}(h:bR T w g l)(i:Nat)(a b:Value):bR T ((w.setCell ⟨g,i*2,none⟩ a).setCell ⟨g,i*2+1,none⟩ b) g (l.set i (a,b)):=by
 obtain⟨cur,h1,h2,h3⟩:=h;have q:=(af.set (af.set (show af w g cur T from h1) (i*2) a) (i*2+1) b);refine⟨_,q,?_,by simpa using h3⟩;rw[wO,List.length_set,<-h2,Array.toList_setIfInBounds,Array.toList_setIfInBounds];rw[List.take_set,List.take_set]
theorem bR.keep{l:List (Value×Value)}(h:bR T w g l)(hk:w'.heap[g]? =w.heap[g]?):bR T w' g l:=by
 obtain⟨cur,h1,h2⟩:=h;exact⟨cur,by rw[hk];exact h1,h2⟩
theorem bR.drew{l:List (Value×Value)}(h:bR T w g l):bR T w.drew g l:=h
theorem bR.below{l:List (Value×Value)}(h:bR T w g l)(hb:Below w.heap.size w w'):bR T w' g l:=h.keep (hb.block g h.lt)
theorem bR.own{base cap:Nat}{l:List (Value×Value)}(h:w.ownsRow base T 2 (.slice (some ⟨g,0,none⟩) n cap) n (flatE l)):bR T w g l:=by
 rcases h.2 with⟨h1,_⟩|⟨g',cap',cur,h1,_,h3,h4,_,h5,h6⟩
 · cases h1
 injection h1 with h1 _ h7;injection h1 with h1;injection h1 with h1;subst h1 h7
 have hl:n*2=l.length*2:=by have:=h.1;rw[lW]at this;omega
 exact⟨cur,h3,by rw[<-hl];exact h6,by rw[<-hl,h5];exact Nat.mul_le_mul_right _ h4⟩
theorem A8(A B C:List (Value×Value))(a b:Value×Value):((A++a::(B++b::C)).set A.length b).set (A.length+1+B.length) a=A++b::(B++a::C):=by
 rw[CX];have h:=CX (A++b::B) b a C;simp only[laa,List.cons_append,List.length_append,List.length_cons]at h;rw[show A.length+1+B.length=A.length+(B.length+1) by omega];exact h
theorem bR.two{A B C:List (Value×Value)}{a b:Value×Value}(h:bR T w g (A++a::(B++b::C))){i j:Nat}(hi:A.length=i)(hj:i+1+B.length=j):
   (w.cell? ⟨g,i*2,none⟩=some a.1/\w.cell? ⟨g,i*2+1,none⟩=some a.2/\w.cell? ⟨g,j*2,none⟩=some b.1/\w.cell? ⟨g,j*2+1,none⟩=some b.2)/\
     bR T ((((w.setCell ⟨g,i*2,none⟩ b.1).setCell ⟨g,i*2+1,none⟩ b.2).setCell ⟨g,j*2,none⟩ a.1).setCell ⟨g,j*2+1,none⟩ a.2) g (A++b::(B++a::C))/\
     bR T ((((w.setCell ⟨g,j*2,none⟩ a.1).setCell ⟨g,j*2+1,none⟩ a.2).setCell ⟨g,i*2,none⟩ b.1).setCell ⟨g,i*2+1,none⟩ b.2) g (A++b::(B++a::C)):=by
 subst hi;subst hj;have h1:=h.at A.length (by simp);have h2:=h.at (A.length+1+B.length) (by simp;omega);have e1:(A++a::(B++b::C))[A.length]'(by simp)=a:=get_at _ _ _ _
 have e2:(A++a::(B++b::C))[A.length+1+B.length]'(by simp;omega)=b:=by
  have h3:=get_at (A++a::B) b C (by simp);simp only[laa,List.cons_append,List.length_append,List.length_cons]at h3;simp only[show A.length+1+B.length=A.length+(B.length+1) by omega];exact h3
 rw[e1]at h1;rw[e2]at h2;refine⟨⟨h1.1,h1.2,h2.1,h2.2⟩,?_,?_⟩
 · have h3:=(h.put A.length b.1 b.2).put (A.length+1+B.length) a.1 a.2;rw[show(b.1,b.2)=b from rfl,show(a.1,a.2)=a from rfl,A8]at h3;exact h3
 have h3:=(h.put (A.length+1+B.length) a.1 a.2).put A.length b.1 b.2;rw[show(b.1,b.2)=b from rfl,show(a.1,a.2)=a from rfl,List.set_comm _ _ (by omega),A8]at h3;exact h3
theorem FX{wr:World}(h:aC [g] w wr)(a b c d:Nat)(x y z u:Value):aC [g] w ((((wr.setCell ⟨g,a,none⟩ x).setCell ⟨g,b,none⟩ y).setCell ⟨g,c,none⟩ z).setCell ⟨g,d,none⟩ u):=
 (((h.set ⟨g,a,none⟩ x (.inl (by simp))).set ⟨g,b,none⟩ y (.inl (by simp))).set ⟨g,c,none⟩ z (.inl (by simp))).set ⟨g,d,none⟩ u (.inl (by simp))
end So
end
section
namespace So
open Bt
def Two(e:Value×Value):Prop:=∃a n c b m d,e=(.slice a n c,.slice b m d)
theorem ja(p x q y s:List (Value×Value))(pn bn xn:Nat)(hP:p.length=pn)(hX:x.length=xn)(hY:y.length=xn)(hb:bn=pn+xn+q.length)(g N cap:Nat)(fv:Value)(w:World)(hL:bR 195 w g (p++x++q++y++s))(hN:N=(p++x++q++y++s).length)(hm:N<=1000000)(h2x:∀e∈x,Two e)(h2y:∀e∈y,Two e):
   Calls Tryz.prog 321 #[.slice (some ⟨g,0,none⟩) N cap,.int .i64 pn,.int .i64 bn,.int .i64 xn,fv] w fun e w'=>e=.returned (.tuple #[])/\aC [g] w w'/\bR 195 w' g (p++y++q++x++s):=by
 have HL:=hd hL;have H2X:=hd h2x;have H2Y:=hd h2y
 have hlen:N=bn+xn+s.length:=by rw[hN];simp;omega
 have HP:=hd hP;have HX:=hd hX;have HY:=hd hY;have HN:=hd hN;have HLN:=hd hlen;have HBN:=hd hb;clear h2x h2y hL hP hX hN hY hlen hb;go_enter Tryz.func321,Tryz.ntmps321;go_wp2_with fail;go_loopw [10] (fun i wr=>∃k:Nat,k<=xn/\i=.int .i64 k/\Hid (aC [g] w wr)/\Hid (bR 195 wr g (p++(y.take k++x.drop k)++q++(x.take k++y.drop k)++s))) (fun i _=>xn-(intOf i).toNat)
 case atStart=>exact⟨0,by omega,rfl,aC.refl _ _,by show bR _ _ _ _;simpa using HL.out⟩
 case round=>
  obtain⟨k,hk,rfl,HT,HK⟩:=hrel;by_cases hlt:k<xn
  · have hkx:k<x.length:=by rw[HX.out];exact hlt
    have hky:k<y.length:=by rw[HY.out];omega
    have he:p++(y.take k++x.drop k)++q++(x.take k++y.drop k)++s=(p++y.take k)++x[k]::((x.drop (k+1)++q++x.take k)++y[k]::(y.drop (k+1)++s)):=by
     rw[List.drop_eq_getElem_cons hkx,List.drop_eq_getElem_cons hky];simp only[laa,List.cons_append]
    have hA:(p++y.take k).length=pn+k:=by rw[List.length_append,List.length_take,HP.out,HY.out];omega
    have hB:(p++y.take k).length+1+(x.drop (k+1)++q++x.take k).length=bn+k:=by
     rw[hA];simp only[List.length_append,List.length_take,List.length_drop];have:=HBN.out;rw[HX.out];omega
    rw[he]at HK
    have hen:p++y.take k++y[k]::(x.drop (k+1)++q++x.take k++x[k]::(y.drop (k+1)++s))=p++(y.take (k+1)++x.drop (k+1))++q++(x.take (k+1)++y.drop (k+1))++s:=by
     rw[List.take_succ_eq_append_getElem hkx,List.take_succ_eq_append_getElem hky];simp only[laa,List.cons_append,List.nil_append]
    obtain⟨⟨a0,a1,b0,b1⟩,l1,l2⟩:=HK.out.two (j:=bn+k) hA (by rw[<-hA];exact hB);rw[hen]at l1 l2;have HL1:=hd l1;have HL2:=hd l2;have hg:=HK.out.lt
    have hpb:pn<bn:=by have:=HBN.out;omega
    have hi1:pn+k<N:=by have:=HLN.out;have:=HBN.out;omega
    have hi2:bn+k<N:=by have:=HLN.out;omega
    have f0:=HK.out.free ((pn+k)*2);have f1:=HK.out.free ((pn+k)*2+1);have f2:=HK.out.free ((bn+k)*2);have f3:=HK.out.free ((bn+k)*2+1);have t1:=H2X.out _ (List.getElem_mem hkx);have t2:=H2Y.out _ (List.getElem_mem hky);generalize x[k]=a at*;generalize y[k]=b at*;obtain⟨q1,q2,q3,q4,q5,q6,rfl⟩:=t1;obtain⟨r1,r2,r3,r4,r5,r6,rfl⟩:=t2;simp only at a0 a1 b0 b1;clear l1 l2 he hen hA hB hkx hky;go_wp2_with fail
    go_region
    all_goals
     go_wp2_with fail;go_roundw
     case rel=>exact⟨k+1,by omega,by go_num,(FX HT.out _ _ _ _ _ _ _ _).drew,HL1.out⟩
     case measure=>simp[intOf];omega
  go_wp2_with fail
  go_end0
  have hkx:k=xn:=by omega
  refine⟨rfl,HT.out,?_⟩;have h:=HK.out;rw[List.take_of_length_le (by rw[HY.out];omega),List.drop_of_length_le (by rw[HX.out];omega),List.take_of_length_le (by rw[HX.out];omega),List.drop_of_length_le (by rw[HY.out];omega)]at h;simpa using h
end So
end
section
namespace So
open Bt
structure EF(w wr:World)(g N m i j:Nat)(F:List (Value×Value)):Prop where
 qO:aC [g] w wr
 ex:∃P U V S:List (Value×Value),U.length=i/\V.length=j/\P.length+i=m/\bR 195 wr g (P++U++V++S)/\P++V++U++S=F/\N=(P++U++V++S).length/\∀e∈P++U++V++S,Two e
theorem Dq(p u v s:List (Value×Value))(an mn bn:Nat)(hP:p.length=an)(hm:mn=an+u.length)(hb:bn=mn+v.length)(hu:u≠[])(hv:v≠[])(g N cap:Nat)(fv:Value)(w:World)(hL:bR 195 w g (p++u++v++s))(hN:N=(p++u++v++s).length)(hNm:N<=1000000)(h2:∀e∈p++u++v++s,Two e):
   Calls Tryz.prog 273 #[.slice (some ⟨g,0,none⟩) N cap,.int .i64 an,.int .i64 mn,.int .i64 bn,fv] w fun e w'=>e=.returned (.tuple #[])/\aC [g] w w'/\bR 195 w' g (p++v++u++s):=by
 have hul:0<u.length:=List.length_pos_iff.2 hu;have hvl:0<v.length:=List.length_pos_iff.2 hv
 have hbN:bn<=N:=by rw[hN];simp;omega
 have HST:Hid (EF w w g N mn u.length v.length (p++v++u++s)):=⟨aC.refl _ _,p,u,v,s,rfl,rfl,by omega,hL,rfl,hN,h2⟩;generalize QO:u.length=ul at*;generalize Qw:v.length=vl at*;generalize p++v++u++s=F at*
 have ha:(mn:Int)-(an:Int)=(ul:Int):=by omega
 have hb':(bn:Int)-(mn:Int)=(vl:Int):=by omega
 have hum:ul<=mn:=by omega
 have hvm:mn+vl<=N:=by omega
 clear hP hb hm hL hN h2 QO Qw hu hv hbN;go_enter Tryz.func273,Tryz.ntmps273;go_wp2_with fail;go_loopw [10,11] (fun i j wr=>∃a b:Nat,i=.int .i64 a/\j=.int .i64 b/\0<a/\0<b/\a<=mn/\mn+b<=N/\Hid (EF w wr g N mn a b F)) (fun i j _=>(intOf i).toNat+(intOf j).toNat)
 case atStart=>exact⟨ul,vl,rfl,rfl,hul,hvl,hum,hvm,HST⟩
 case round=>
  obtain⟨a,b,rfl,rfl,ha0,hb0,hap,hbp,HR⟩:=hrel;rcases Nat.lt_trichotomy a b with hab|hab|hab
  · have e1:(mn:Int)-(a:Int)=((mn-a:Nat):Int):=by omega
    have e2:(mn:Int)+(b:Int)-(a:Int)=((mn+b-a:Nat):Int):=by omega
    have e3:(b:Int)-(a:Int)=((b-a:Nat):Int):=by omega
    have h1:¬((a:Int)=(b:Int)):=by omega
    have h2:¬((b:Int)<(a:Int)):=by omega
    generalize hpa:mn-a=pa at*;generalize hba:mn+b-a=ba at*;generalize hda:b-a=da at*
    have HE:Hid (pa+a=mn/\ba+a=mn+b/\da+a=b/\da<b/\0<da):=by refine⟨?_,?_,?_,?_,?_⟩<;>omega
    clear hpa hba hda;go_wp2_with fail;obtain⟨P,U,V,S,hU,hV,hPm,hLs,hF,hNN,hT2⟩:=HR.out.ex;have hVt:V.take da++V.drop da=V:=List.take_append_drop _ _;have HE':=HE.out;refine(ja P U (V.take da) (V.drop da) S pa ba a (by omega) hU (by rw[List.length_drop];omega) (by rw[List.length_take];omega) g N cap fv wr (by rw[laa (P++U),hVt];exact hLs) (by rw[laa (P++U),hVt];exact hNN) hNm (fun e he=>hT2 e (by simp[he])) (fun e he=>hT2 e (by simp[List.mem_of_mem_drop he]))).mono ?_;rintro x w1 ⟨rfl,ht,hl⟩
    have HR1:Hid (EF w w1 g N mn a da F):=⟨HR.out.qO.trans ht (by simp),P,V.drop da,V.take da,U++S,by rw[List.length_drop];omega,by rw[List.length_take];omega,by omega,by simpa only[laa]using hl,by rw[<-hF];simp only[laa];rw[<-laa (V.take da),hVt],by rw[hNN];simp only[List.length_append,List.length_take,List.length_drop];omega,fun e he=>hT2 e (by
     simp only[List.mem_append]at he⊢;rcases he with((h|h)|h)|h|h
     · simp[h]
     · simp[List.mem_of_mem_drop h]
     · simp[List.mem_of_mem_take h]
     · simp[h]
     simp[h])⟩
    have hd1:da<b:=HE.out.2.2.2.1;have hd2:0<da:=HE.out.2.2.2.2;clear ht hl hU hV hPm hLs hF hNN hT2 hVt HE' HE HR;go_wp2_with fail;go_roundw
    case rel=>exact⟨a,da,rfl,rfl,ha0,hd2,hap,by omega,HR1⟩
    case measure=>simp[intOf];omega
  · subst hab
    have e1:(mn:Int)-(a:Int)=((mn-a:Nat):Int):=by omega
    generalize hpa:mn-a=pa at*
    have HE:Hid (pa+a=mn):=by show _=_;omega
    clear hpa;go_wp2_with fail;obtain⟨P,U,V,S,hU,hV,hPm,hLs,hF,hNN,hT2⟩:=HR.out.ex;have HE':=HE.out;refine(ja P U [] V S pa mn a (by omega) hU hV (by simp;omega) g N cap fv wr (by simpa using hLs) (by simpa using hNN) hNm (fun e he=>hT2 e (by simp[he])) (fun e he=>hT2 e (by simp[he]))).mono ?_;rintro x w1 ⟨rfl,ht,hl⟩;have HR1:Hid (aC [g] w w1/\bR 195 w1 g F):=⟨HR.out.qO.trans ht (by simp),by rw[<-hF];simpa using hl⟩;clear ht hl hU hV hPm hLs hF hNN hT2 HE' HE HR;go_wp2_with fail
    go_end0
    exact⟨rfl,HR1.out⟩
  have e1:(mn:Int)-(a:Int)=((mn-a:Nat):Int):=by omega
  have e3:(a:Int)-(b:Int)=((a-b:Nat):Int):=by omega
  have h1:¬((a:Int)=(b:Int)):=by omega
  have h2:(b:Int)<(a:Int):=by omega
  generalize hpa:mn-a=pa at*;generalize hda:a-b=da at*
  have HE:Hid (pa+a=mn/\da+b=a/\0<da):=by refine⟨?_,?_,?_⟩<;>omega
  clear hpa hda;go_wp2_with fail;obtain⟨P,U,V,S,hU,hV,hPm,hLs,hF,hNN,hT2⟩:=HR.out.ex;have hUt:U.take b++U.drop b=U:=List.take_append_drop _ _;have HE':=HE.out;refine(ja P (U.take b) (U.drop b) V S pa mn b (by omega) (by rw[List.length_take];omega) hV (by rw[List.length_drop];omega) g N cap fv wr (by rw[laa P,hUt];exact hLs) (by rw[laa P,hUt];exact hNN) hNm (fun e he=>hT2 e (by simp[List.mem_of_mem_take he])) (fun e he=>hT2 e (by simp[he]))).mono ?_;rintro x w1 ⟨rfl,ht,hl⟩
  have HR1:Hid (EF w w1 g N mn da b F):=⟨HR.out.qO.trans ht (by simp),P++V,U.drop b,U.take b,S,by rw[List.length_drop];omega,by rw[List.length_take];omega,by rw[List.length_append];omega,by simpa only[laa]using hl,by rw[<-hF];simp only[laa];rw[<-laa (U.take b),hUt],by rw[hNN];simp only[List.length_append,List.length_take,List.length_drop];omega,fun e he=>hT2 e (by
   simp only[List.mem_append]at he⊢;rcases he with(((h|h)|h)|h)|h
   · simp[h]
   · simp[h]
   · simp[List.mem_of_mem_drop h]
   · simp[List.mem_of_mem_take h]
   simp[h])⟩
  have hd1:da+b=a:=HE.out.2.1;have hd2:0<da:=HE.out.2.2;clear ht hl hU hV hPm hLs hF hNN hT2 hUt HE' HE HR;have HD1:=hd hd1;clear hd1;go_wp2_with fail;go_roundw
  case rel=>exact⟨da,b,rfl,rfl,hd2,hb0,by have:=HD1.out;omega,hbp,HR1⟩
  case measure=>have:=HD1.out;simp[intOf];omega
end So
end
section
namespace So
open Bt
variable {α:Type}
def wP(enc:α->Value×Value)(c:α->α->Int)(K:α->Prop)(cb:Value)(g:Nat)(w:World):Prop:=
 ∀W,aC [g] w W->∀a b,K a->K b->Calls Tryz.prog 95 #[.agg #[(enc a).1,(enc a).2],.agg #[(enc b).1,(enc b).2],cb] W fun e W'=>e=.returned (.int .i64 (c a b))/\Below W.heap.size W W'
def dx(c:α->α->Int)(a b:α):Bool:=decide (c a b<0)
theorem wP.qO{enc:α->Value×Value}{c:α->α->Int}{K:α->Prop}(h:wP enc c K cb g w)(ht:aC [g] w w'):wP enc c K cb g w':=
 fun W hW a b ha hb=>h W (ht.trans hW (fun _ hx=> .inl hx)) a b ha hb
structure Ay(enc:α->Value×Value)(c:α->α->Int)(p x s:List α)(w wr:World)(g k:Nat):Prop where
 qO:aC [g] w wr
 ex:∃y,cK (dx c) y/\dF (dx c) (x.take k) y/\bR 195 wr g ((p++y++x.drop k++s).map enc)
structure AO(enc:α->Value×Value)(c:α->α->Int)(p x s:List α)(w wr:World)(g k j:Nat)(e:α):Prop where
 qO:aC [g] w wr
 ex:∃y1 y2,cK (dx c) (y1++y2)/\dF (dx c) (x.take k) (y1++y2)/\(∀a∈y2,dx c e a=true)/\p.length+y1.length=j/\bR 195 wr g ((p++y1++e::y2++x.drop (k+1)++s).map enc)
theorem AO.done{enc:α->Value×Value}{c:α->α->Int}(o:nQ (dx c)){p x s:List α}{w wr:World}{g k:Nat}{e:α}(he:x[k]? =some e)(ht:aC [g] w wr){y1 y2:List α}(h1:cK (dx c) (y1++y2))(h2:dF (dx c) (x.take k) (y1++y2))(h3:∀a∈y2,dx c e a=true)(h4:∀a∈y1,dx c e a=false)
   (hl:bR 195 wr g ((p++y1++e::y2++x.drop (k+1)++s).map enc)):Ay enc c p x s w wr g (k+1):=by
 obtain⟨a1,a2⟩:=JI o h1 h2 h4 h3;refine⟨ht,y1++e::y2,a1,?_,by simpa only[laa]using hl⟩;rw[List.take_add_one,he];exact a2
theorem ma(enc:α->Value×Value)(c:α->α->Int)(K:α->Prop)(o:nQ (dx c))(p x s:List α)(an bn:Nat)(hP:p.length=an)(hb:bn=an+x.length)(g N cap:Nat)(cb:Value)(w:World)(hcb:∃a,cb=.pointer (some a))(hL:bR 195 w g ((p++x++s).map enc))(hN:N=(p++x++s).length)(hNm:N<=1000000)(hK:∀a∈p++x++s,K a)(hT:∀a,K a->Two (enc a))(hC:wP enc c K cb g w):
   Calls Tryz.prog 214 #[.slice (some ⟨g,0,none⟩) N cap,.int .i64 an,.int .i64 bn,.func (.func 95) #[] #[cb]] w fun e w'=>e=.returned (.tuple #[])/\aC [g] w w'/\∃y,cK (dx c) y/\dF (dx c) x y/\bR 195 w' g ((p++y++s).map enc):=by
 obtain⟨ca,rfl⟩:=hcb
 have HST:Hid (Ay enc c p x s w w g 1):=by
  refine⟨aC.refl _ _,x.take 1,?_,dF.refl _ _,?_⟩
  · cases x with
    |nil=>simpa using cK.nil _
    |cons a r=>simpa using cK.one _ a
  have:p++x.take 1++x.drop 1++s=p++x++s:=by rw[laa p,List.take_append_drop]
  rw[this];exact hL
 have HC:=hd hC;have HK:=hd hK;have HT:=hd hT;have HO:=hd o;have HP:=hd hP
 have hlen:N=an+x.length+s.length:=by rw[hN];simp;omega
 have HLN:=hd hlen;have HBN:=hd hb
 have hbN:bn<=N:=by omega
 have hab:an<=bn:=by omega
 clear hC hK hT o hP hlen hb hL hN;go_enter Tryz.func214,Tryz.ntmps214;go_wp2_with fail;go_loopw [8] (fun i wr=>∃k:Nat,i=.int .i64 (an+k:Nat)/\1<=k/\(k<=x.length\/(k=1/\x.length=0))/\Hid (Ay enc c p x s w wr g k)) (fun i _=>an+x.length+1-(intOf i).toNat)
 case atStart=>exact⟨1,by go_num,by omega,by omega,HST⟩
 case round=>
  obtain⟨k,rfl,hk1,hk2,HI⟩:=hrel;generalize hik:an+k=ik at*;have HIK:=hd hik;clear hik;by_cases hlt:ik<bn
  · have hkx:k<x.length:=by have:=HBN.out;have:=HIK.out;omega
    have HIN:Hid (AO enc c p x s w wr g k ik x[k]):=by
     obtain⟨y,hy,sy,hl⟩:=HI.out.ex;refine⟨HI.out.qO,y,[],by simpa using hy,by simpa using sy,by simp,?_,?_⟩
     · have:=sy.len;rw[List.length_take]at this;have:=HP.out;have:=HIK.out;omega
     rw[List.drop_eq_getElem_cons hkx]at hl;simpa using hl
    have HKE:Hid (K x[k]):=HK.out _ (by simp);have HXE:Hid (x[k]? =some x[k]):=List.getElem?_eq_getElem hkx;generalize x[k]=e at*;clear HI;go_wp2_with fail;go_loopw [9] (fun j wr=>∃jn:Nat,j=.int .i64 jn/\an<=jn/\jn<=ik/\Hid (AO enc c p x s w wr g k jn e)) (fun j _=>(intOf j).toNat)
    case atStart=>exact⟨ik,rfl,by have:=HIK.out;omega,nlr _,HIN⟩
    case round=>
     obtain⟨jn,rfl,hj1,hj2,HJ⟩:=hrel
     have z1:(0:Int)<=(jn:Int):=by omega
     by_cases hja:jn=an
     · have hdec:decide (an<jn)=false:=by simp;omega
       have HD:Hid (Ay enc c p x s w wr g (k+1)):=by
        obtain⟨y1,y2,h1,h2,h3,h4,h5⟩:=HJ.out.ex;have hy:y1=[]:=List.eq_nil_of_length_eq_zero (by have:=HP.out;omega);subst hy;exact AO.done HO.out HXE.out HJ.out.qO h1 h2 h3 (by simp) h5
       have HJA:=hd hja;clear hja hj1;go_wp2_with fail
       go_quiet (fail)
       all_goals
        go_wp2_with fail;go_roundw
        case rel=>exact⟨k+1,by rw[<-Nat.add_assoc,HIK.out];simp,by omega,by omega,⟨HD.out.qO.drewN _,HD.out.ex⟩⟩
        case measure=>have:=HIK.out;simp[intOf];omega
     have hjl:an<jn:=by omega
     have hdec:decide (an<jn)=true:=by simp;omega
     obtain⟨j1,hj⟩:∃j1,jn=j1+1:=⟨jn-1,by omega⟩
     have e1:(jn:Int)-1=(j1:Int):=by omega
     obtain⟨y1,y2,h1,h2,h3,h4,h5⟩:=HJ.out.ex
     obtain⟨z,d,rfl⟩:∃z d,y1=z++[d]:=by
      rcases List.eq_nil_or_concat y1 with h|⟨z,d,h⟩
      · subst h;have:=HP.out;simp at h4;omega
      exact⟨z,d,by simpa using h⟩
     have hlist:p++(z++[d])++e::y2++x.drop (k+1)++s=(p++z)++d::([]++e::(y2++x.drop (k+1)++s)):=by simp
     have hl6:=h5;rw[hlist,List.map_append,List.map_cons,List.nil_append,List.map_cons]at hl6
     have hzl:((p++z).map enc).length=j1:=by have:=HP.out;simp at h4⊢;omega
     have HKD:Hid (K d):=by
      show K d
      have hm:d∈x.take k:=by rw[<-h2.mem];simp
      exact HK.out _ (by simp[List.mem_of_mem_take hm])
     have hte:=HT.out e HKE.out;have htd:=HT.out d HKD.out
     have HCC:Hid (∀W,aC [g] wr W->Calls Tryz.prog 95 #[.agg #[(enc e).1,(enc e).2],.agg #[(enc d).1,(enc d).2],.pointer (some ca)] W fun x W'=>x=.returned (.int .i64 (c e d))/\Below W.heap.size W W'):=
      fun W hW=>HC.out W (HJ.out.qO.trans hW (fun _ hx=> .inl hx)) e d HKE.out HKD.out
     have H1:=hd h1;have H2:=hd h2;have H3:=hd h3;have H4:=hd h4;have H5:=hd h5;have HTE:=hd hte;have HTD:=hd htd;obtain⟨q1,q2,q3,q4,q5,q6,hde⟩:=hte;obtain⟨r1,r2,r3,r4,r5,r6,hdd⟩:=htd;rw[hde,hdd]at HCC hl6;obtain⟨⟨a0,a1,b0,b1⟩,_,_⟩:=bR.two (A:=(p++z).map enc) (B:=[]) hl6 (i:=j1) (j:=jn) hzl (by simp;omega);have HL6:=hd hl6;have HTW:=hd HJ.out.qO;have HDE:=hd hde;have HDD:=hd hdd;have HHJ:=hd hj;have HZL:=hd hzl
     have hj1N:jn<N:=by have:=HLN.out;have:=HBN.out;omega
     have hj0:j1<N:=by omega
     have hgl:=hl6.lt
     have i1:(jn:Int)<(N:Int):=by omega
     have i2:(j1:Int)<(N:Int):=by omega
     have i3:(0:Int)<=(j1:Int):=by omega
     have w1:IntKind.i64.wrap ((jn:Int)-1)=(j1:Int):=by rw[e1];exact Ej _ (by omega) (by omega)
     have HE1:=hd e1;clear e1;simp only at a0 a1 b0 b1 HCC;clear h1 h2 h3 h4 h5 hlist hl6 hj hja HJ hde hdd hzl
     have hcd:c e d<0\/¬c e d<0:=by omega
     generalize hco:c e d=co at*;have HCO:=hd hco;clear hco;rcases hcd with hcd|hcd
     · have hcx:decide (co<0)=true:=by simpa using hcd
       go_wp2_with fail
       go_region_held3 (fun w'=>w'.cell? ⟨g,jn*2,none⟩=some (.slice q1 q2 q3)/\w'.cell? ⟨g,jn*2+1,none⟩=some (.slice q4 q5 q6)/\w'.cell? ⟨g,j1*2,none⟩=some (.slice r1 r2 r3)/\w'.cell? ⟨g,j1*2+1,none⟩=some (.slice r4 r5 r6)) (go_keep)
         (first
          |(go_at_call 95
            refine(HCC.out _ ((aC.refl _ _).drew)).mono ?_;rintro x W1 ⟨rfl,hb1⟩;have c1:=(hb1.cell (p:=⟨g,jn*2,none⟩) hgl).trans b0;have c2:=(hb1.cell (p:=⟨g,jn*2+1,none⟩) hgl).trans b1;have c3:=(hb1.cell (p:=⟨g,j1*2,none⟩) hgl).trans a0
            have c4:=(hb1.cell (p:=⟨g,j1*2+1,none⟩) hgl).trans a1))
       have HL7:=hd (HL6.out.drew.below hb1);have HT7:Hid (aC [g] w W1):=HTW.out.trans (aC.of (F:=[g]) hb1).eF (fun _ h=> .inl h);obtain⟨⟨d0,d1,d2,d3⟩,_,l2⟩:=bR.two (A:=(p++z).map enc) (B:=[]) HL7.out (i:=j1) (j:=jn) HZL.out (by have:=HHJ.out;simp;omega);have HL8:=hd l2;have hgl7:=HL7.out.lt;have f0:=HL7.out.free (jn*2);have f1:=HL7.out.free (jn*2+1);have f2:=HL7.out.free (j1*2);have f3:=HL7.out.free (j1*2+1)
       have hjne:j1<jn:=by have:=HHJ.out;omega
       clear l2 a0 a1 b0 b1 c1 c2 c3 c4 hb1;simp only at d0 d1 d2 d3 HL8;go_wp2_with fail
       go_region
       all_goals
        go_wp2_with fail;go_roundw
        case rel=>
         refine⟨j1,rfl,by have:=HHJ.out;omega,by omega,(FX HT7.out _ _ _ _ _ _ _ _).drew,z,d::y2,by simpa using H1.out,by simpa using H2.out,?_,?_,?_⟩
         · intro a ha;rcases List.mem_cons.1 ha with rfl|ha
           · unfold dx;rw[HCO.out];exact hcx
           exact H3.out a ha
         · have h4:=H4.out;have:=HHJ.out;simp at h4;omega
         have h8:=HL8.out;rw[<-HDE.out,<-HDD.out]at h8
         have he:(p++z++e::(d::y2)++x.drop (k+1)++s)=(p++z)++e::([]++d::(y2++x.drop (k+1)++s)):=by simp
         rw[he,List.map_append,List.map_cons,List.nil_append,List.map_cons];exact h8
        case measure=>have:=HHJ.out;simp[intOf];omega
     have hcx:decide (co<0)=false:=by simpa using hcd
     go_wp2_with fail
     go_region_held3 (fun w'=>w'.cell? ⟨g,jn*2,none⟩=some (.slice q1 q2 q3)/\w'.cell? ⟨g,jn*2+1,none⟩=some (.slice q4 q5 q6)/\w'.cell? ⟨g,j1*2,none⟩=some (.slice r1 r2 r3)/\w'.cell? ⟨g,j1*2+1,none⟩=some (.slice r4 r5 r6)) (go_keep)
       (first
        |(go_at_call 95
          refine(HCC.out _ ((aC.refl _ _).drew)).mono ?_;rintro x W1 ⟨rfl,hb1⟩;have c1:=(hb1.cell (p:=⟨g,jn*2,none⟩) hgl).trans b0;have c2:=(hb1.cell (p:=⟨g,jn*2+1,none⟩) hgl).trans b1;have c3:=(hb1.cell (p:=⟨g,j1*2,none⟩) hgl).trans a0
          have c4:=(hb1.cell (p:=⟨g,j1*2+1,none⟩) hgl).trans a1))
     have HT7:Hid (aC [g] w W1):=HTW.out.trans (aC.of (F:=[g]) hb1).eF (fun _ h=> .inl h)
     have HD:Hid (Ay enc c p x s w W1 g (k+1)):=by
      refine AO.done HO.out HXE.out HT7.out H1.out H2.out H3.out ?_ (H5.out.drew.below hb1)
      refine MF HO.out H1.out.left fun a ha=> ?_
      rw[List.getLast?_concat]at ha;injection ha with ha;subst ha;unfold dx;rw[HCO.out];exact hcx
     clear a0 a1 b0 b1 c1 c2 c3 c4 hb1;go_wp2_with fail;go_roundw
     case rel=>exact⟨k+1,by rw[<-Nat.add_assoc,HIK.out];simp,by omega,by omega,HD⟩
     case measure=>have:=HIK.out;simp[intOf];omega
  go_wp2_with fail
  go_end0
  obtain⟨y,h1,h2,h3⟩:=HI.out.ex
  have hkl:x.length<=k:=by have:=HBN.out;have:=HIK.out;omega
  rw[List.take_of_length_le hkl]at h2;rw[List.drop_of_length_le hkl]at h3;exact⟨rfl,HI.out.qO,y,h1,h2,by simpa using h3⟩
end So
end
section
namespace Mg
theorem Jb(a b:Int):jb a b= -1\/jb a b=0\/jb a b=1:=by unfold jb;split<;>(try split)<;>omega
theorem IM(a b:Lx.Bs):oW a b= -1\/oW a b=0\/oW a b=1:=by unfold oW;split<;>(try split)<;>omega
theorem Iq(a b:V):qX a b= -1\/qX a b=0\/qX a b=1:=by
 unfold qX
 split
 · omega
 split
 · omega
 split
 · omega
 split
 · exact IM _ _
 exact Jb _ _
end Mg
namespace Tb
open Bt
def Alike(xa xb:List Mg.V):Prop:=∀(j:Nat) (j1:j<xa.length) (j2:j<xb.length),∃t,Mg.Has xa[j] t/\Mg.Has xb[j] t
theorem ze(os:List (Px.E×Bool))(hn:os.length<=1000000)(xa xb:List Mg.V)(ha:xa.length=os.length)(hb:xb.length=os.length)(hal:Alike xa xb)(v va vb:Value)(w:World)(hE:w.ownsRow 0 227 2 v os.length (os.flatMap bq))(hA:Mn.dM w va xa)(hB:Mn.dM w vb xb):
   Calls Tryz.prog 96 #[v,va,vb] w fun x w'=>x=.returned (.int .i64 (Mg.cmpO (os.map Prod.snd) xa xb))/\Below w.heap.size w w':=by
 obtain⟨ao,cap,rfl,hEE⟩:=dm hE;obtain⟨aa,ac,rfl,hAA⟩:=hA;obtain⟨ba,bc,rfl,hBB⟩:=hB;have HE:=hd hEE;have HA:=hd hAA;have HB:=hd hBB;have HAL:=hd hal;have HLA:=hd ha;have HLB:=hd hb;clear hE hEE hAA hBB hal;rw[ha,hb];clear ha hb;go_enter Tryz.func96,Tryz.ntmps96;go_wp2_with fail;go_loopw [12] (fun i wr=>∃(k:Nat),i=.int .i64 k/\k<=os.length/\Hid (Below w.heap.size w wr)/\Hid (∀(j:Nat) (j1:j<xa.length) (j2:j<xb.length),j<k->Mg.dK xa[j] xb[j]=0)) (fun i _=>os.length-(intOf i).toNat)
 case atStart=>exact⟨0,rfl,Nat.zero_le _,Below.refl _ _,fun j _ _ h=>by omega⟩
 case round=>
  obtain⟨k,rfl,hk,HW,HZ⟩:=hrel;by_cases hlt:k<os.length
  · obtain⟨g,hao,hg,c0⟩:=HE.out _ _ (jE os k hlt).1;obtain⟨g',hao',hg',c1⟩:=HE.out _ _ (jE os k hlt).2;rw[hao]at hao';injection hao' with hgg;injection hgg with hgg;subst hgg;obtain⟨et,ex,hev⟩:=fZ os[k].1;have d0:=(HW.out.cell (p:=⟨g,k*2,none⟩) hg).trans c0;have d1:=(HW.out.cell (p:=⟨g,k*2+1,none⟩) hg).trans c1;have hg2:=nlA hg HW.out.size
    have hka:k<xa.length:=by rw[HLA.out];exact hlt
    have hkb:k<xb.length:=by rw[HLB.out];exact hlt
    have HEX:Hid (Mg.dK xa[k] xb[k]≠0->Mg.cmpO (os.map Prod.snd) xa xb=if os[k].2=true then-Mg.dK xa[k] xb[k]else Mg.dK xa[k] xb[k]):=by
     intro hne;have:=Mg.Em (os.map Prod.snd) xa xb k (by simpa using hlt) hka hkb HZ.out hne;simpa using this
    have HNX:Hid (Mg.dK xa[k] xb[k]=0->∀(j:Nat) (j1:j<xa.length) (j2:j<xb.length),j<k+1->Mg.dK xa[j] xb[j]=0):=by
     intro hz j j1 j2 hj;rcases Nat.lt_or_eq_of_le (Nat.le_of_lt_succ hj)with h|rfl
     · exact HZ.out j j1 j2 h
     exact hz
    obtain⟨t,t1,t2⟩:=HAL.out k hka hkb;have hv2:=Mg.IU t1 t2;obtain⟨ga,hga,Lu,a0,a1,a2⟩:=HA.out k hka;obtain⟨gb,hgb,LK,b0,b1,b2⟩:=HB.out k hkb;rw[hv2]at HEX HNX;generalize xa[k]=ak at*;generalize xb[k]=bk at*;have hcp:=Mn.qU ak bk;have LA:=Mg.Iq ak bk;generalize Mg.qX ak bk=c at*;obtain⟨ak0,ak1,ak2⟩:=ak;obtain⟨bk0,bk1,bk2⟩:=bk;simp only at a0 a1 a2 b0 b1 b2;unfold Mn.vV at hcp;simp only at hcp;have HCP:=hd hcp;generalize os[k]=o at*;obtain⟨e,dsc⟩:=o;simp only at hev d0 d1 HEX;rw[hev]at d0;have HW1:Hid (Below w.heap.size w (wr.alloc (.cells #[.iface et ex,.bool dsc] 227))):=HW.out.alloc HW.out.size _;have HOB:=hd (af.new wr #[.iface et ex,.bool dsc] 227);have hlo:=HOB.out.lt;have x0:=(HW1.out.cell (p:=⟨ga,k*3,none⟩) Lu).trans a0;have x1:=(HW1.out.cell (p:=⟨ga,k*3+1,none⟩) Lu).trans a1;have x2:=(HW1.out.cell (p:=⟨ga,k*3+2,none⟩) Lu).trans a2;have y0:=(HW1.out.cell (p:=⟨gb,k*3,none⟩) LK).trans b0;have y1:=(HW1.out.cell (p:=⟨gb,k*3+1,none⟩) LK).trans b1;have y2:=(HW1.out.cell (p:=⟨gb,k*3+2,none⟩) LK).trans b2;have l1:=nlA Lu HW1.out.size;have l2:=nlA LK HW1.out.size;clear hev c0 c1 hcp hv2 t1 t2 a0 a1 a2 b0 b1 b2;subst hao hga hgb;by_cases hz:c=0
    · have HNZ:=hd (HNX.out hz);subst hz;clear HEX LA
      cases dsc
      all_goals
       go_wp2_with fail
       go_region_with (
         go_at_call 160
         refine(HCP.out _).mono ?_;rintro x w1 ⟨rfl,hb⟩;have HW2:Hid (Below w.heap.size w w1):=HW1.out.drew.trans (hb.mono HW1.out.drew.size);have K1:=HOB.out.drew.below hb hlo;have z1:=K1.cell 1;have lz:=K1.lt;simp at z1
         clear hb K1)
       all_goals
        go_wp2_with fail;go_roundw
        case rel=>exact⟨k+1,rfl,by omega,HW2,HNZ⟩
        case measure=>simp[intOf];omega
    have HRE:=hd (HEX.out hz);clear HEX HNX;rcases(show c= -1\/c=1 by omega)with rfl|rfl
    all_goals
     cases dsc
     all_goals
      go_wp2_with fail
      go_region_with (
        go_at_call 160
        refine(HCP.out _).mono ?_;rintro x w1 ⟨rfl,hb⟩;have HW2:Hid (Below w.heap.size w w1):=HW1.out.drew.trans (hb.mono HW1.out.drew.size);have K1:=HOB.out.drew.below hb hlo;have z1:=K1.cell 1;have lz:=K1.lt;simp at z1
        clear hb K1)
      all_goals
       go_wp2_with fail;go_ret;exact⟨by rw[HRE.out];rfl,HW2.out⟩
  obtain rfl:k=os.length:=by omega
  have HZ0:Hid (Mg.cmpO (os.map Prod.snd) xa xb=0):=Mg.xE _ _ _ fun j j0 j1 j2=>HZ.out j j1 j2 (by simpa using j0)
  go_wp2_with fail;go_ret;exact⟨by rw[HZ0.out];rfl,HW.out⟩
end Tb
end
section
namespace Mg
open Px (E)
def foundM(cs:ax)(items orders:List E)(o:Option E):List (List V)->Except Nat (List (List V×List V))
 |[]=> .ok []
 |r::l=>match chooses cs r o with
  |.error c=> .error c
  |.ok false=>foundM cs items orders o l
  |.ok true=>match vals cs r items with
   |.error c=> .error c
   |.ok a=>match vals cs r orders with
    |.error c=> .error c
    |.ok b=>match foundM cs items orders o l with
     |.error c=> .error c
     |.ok fs=> .ok ((a,b)::fs)
theorem jB{cs:ax}{items orders:List E}{o:Option E}{s:List (List V)}:∀{l:List (List V)} {fs:List (List V×List V)},foundM cs items orders o l=.ok fs->foundM cs items orders o (l++s)=match foundM cs items orders o s with
   |.error c=> .error c
   |.ok gs=> .ok (fs++gs)
 |[],fs,h=>by
  simp only[foundM]at h
  cases h
  simp only[List.nil_append]
  cases foundM cs items orders o s<;>rfl
 |r::l,fs,h=>by
  simp only[foundM]at h;simp only[List.cons_append,foundM]
  cases hc:chooses cs r o with
  |error c=>rw[hc]at h;cases h
  |ok b=>
   rw[hc]at h
   cases b with
   |false=>simp only at h⊢;exact jB h
   |true=>
    simp only at h⊢
    cases ha:vals cs r items with
    |error c=>rw[ha]at h;cases h
    |ok a=>
     rw[ha]at h;simp only at h⊢
     cases hb:vals cs r orders with
     |error c=>rw[hb]at h;cases h
     |ok b=>
      rw[hb]at h;simp only at h⊢
      cases hl:foundM cs items orders o l with
      |error c=>rw[hl]at h;cases h
      |ok gs=>
       rw[hl]at h;simp only at h
       cases h
       rw[jB hl]
       cases foundM cs items orders o s<;>rfl
theorem Cq{cs:ax}{items orders:List E}{o:Option E}{r:List V}{l:List (List V)}{fs:List (List V×List V)}(h:foundM cs items orders o l=.ok fs)(hc:chooses cs r o=.ok false):foundM cs items orders o (l++[r])=.ok fs:=by
 rw[jB h];simp[foundM,hc]
theorem Ce{cs:ax}{items orders:List E}{o:Option E}{r:List V}{l:List (List V)}{fs:List (List V×List V)}{a b:List V}(h:foundM cs items orders o l=.ok fs)(hc:chooses cs r o=.ok true)(ha:vals cs r items=.ok a)(hb:vals cs r orders=.ok b):foundM cs items orders o (l++[r])=.ok (fs++[(a,b)]):=by
 rw[jB h];simp[foundM,hc,ha,hb]
theorem lT{cs:ax}{items orders:List E}{o:Option E}{r:List V}{l s:List (List V)}{fs:List (List V×List V)}(h:foundM cs items orders o l=.ok fs)(he:chooses cs r o=.error c\/(chooses cs r o=.ok true/\(vals cs r items=.error c\/∃a,vals cs r items=.ok a/\vals cs r orders=.error c))):foundM cs items orders o (l++r::s)=.error c:=by
 rw[jB h];rcases he with he|⟨hc,he|⟨a,ha,he⟩⟩
 · simp[foundM,he]
 · simp[foundM,hc,he]
 simp[foundM,hc,ha,he]
def je(cs:ax)(l:List (Option E))(o:Option E)(os:List (E×Bool)):List (E×Nat):=(Tb.aF cs l).map (fun e=>(e,0))++Tb.demW o++(os.map Prod.fst).map (fun e=>(e,0))
def vS(ds:List Bool)(a b:List V×List V):Int:=cmpN ds ds.length (fun i=>a.2.getD i aJ) (fun i=>b.2.getD i aJ)
theorem Jl(ds:List Bool):iG (vS ds):=(CW ds ds.length).on fun(a:List V×List V)=>fun i=>a.2.getD i aJ
end Mg
end
section
open Go.RowKit Go.Shelf
attribute [local go_sem] Oper.semAt_some
namespace Tw
open Bt
structure Sg(w W:World)(p:Nat)(sc:Array Value)(b5 b6:Nat)(iv xv:Value)(items orders:List Px.E):Prop where
 low:Below w.heap.size w W
 k0:af W w.heap.size #[.pointer (some ⟨p,0,none⟩)] 94
 k1:af W (w.heap.size+1) sc 109
 k2:af W (w.heap.size+1+1) #[.int .i64 0,.slice none 0 0,.int .i64 0] 29
 k5:af W b5 #[iv] 132
 k6:af W b6 #[xv] 132
 o5:W.ownsRow (w.heap.size+1+1+1) 98 1 iv items.length (items.flatMap gI)
 o6:W.ownsRow (w.heap.size+1+1+1) 98 1 xv orders.length (orders.flatMap gI)
 lt:w.heap.size+1+1<b5/\w.heap.size+1+1<b6/\b5≠b6
def Pp(w:World)(cs:Mg.ax)(M:Tb.aU)(l:List (Option Px.E))(o:Option Px.E)(os:List (Px.E×Bool))(lb:Bool)(ln:Nat)(x:Ending)(w':World):Prop:=Below w.heap.size w w'/\match Mg.bO cs (Mg.je cs l o os)with
 |.error c=>x=ku 0 c
 |.ok _=>match Mg.foundM cs (Tb.aF cs l) (os.map Prod.fst) o (M.map Prod.snd)with
  |.error c=>x=ku 0 c
  |.ok fs=>∃xs v,So.cK (fun a b=>decide (Mg.vS (os.map Prod.snd) a b<0)) xs/\So.dF (fun a b=>decide (Mg.vS (os.map Prod.snd) a b<0)) fs xs/\x=.returned (.agg #[.int .i64 ((Tb.aF cs l).length:Nat),v,.int .i64 0])/\
    w'.ownsRow w.heap.size 39 3 v (((if lb=true then xs.take ln else xs).flatMap Prod.fst)).length (((if lb=true then xs.take ln else xs).flatMap Prod.fst).flatMap Mg.vC)
theorem Sg.below{items orders:List Px.E}(h:Sg w W p sc b5 b6 iv xv items orders)(hb:Below W.heap.size W W'):Sg w W' p sc b5 b6 iv xv items orders:=
 ⟨h.low.trans (hb.mono h.low.size),h.k0.below hb h.k0.lt,h.k1.below hb h.k1.lt,h.k2.below hb h.k2.lt,h.k5.below hb h.k5.lt,h.k6.below hb h.k6.lt,dA h.o5 hb,dA h.o6 hb,h.lt⟩
theorem ML{P:Program}{o:Oper}{a:Act}{K:Act->World->Prop}{Q:Exit->Act->World->Prop}(s x:Operand)(t:TypeId)
   (ho:o.op=.call {callee:=.builtin .append,args:=#[s,x],argTypes:=#[t,t]})
   (base:Nat) (e:TypeId) (i:TypeInfo) (z:Value) (size bytes:Nat) (ht:P.underlying t=some (.slice e)) (hi:P.info? e=some i) (hz:i.zero=some z)
   (hsize:i.size=size) (hby:i.bytes=bytes) (hzs:z.cells.size=size) (hsz:0<size)
   (v:Value) (n:Nat) (xs:List Value) (hs:a.eval s=v) (hown:w.ownsRow base e size v n xs)
   (ad:Addr) (m c:Nat) (news:List Value) (hx:a.eval x=.slice (some ad) m c) (hl:news.length=m*size) (hnews:∀j u,news[j]? =some u->w.cell? (ad.add j)=some u) (h1:∀u∈news,u.oneCell'=true)
   (h63:n+m<=maxLen) (hbytes:(n+m)*bytes<=140737488355328) (hbase:base<=w.heap.size)
   (h:∀v' w',w'.ownsRow base e size v' (n+m) (xs++news)->w.grownBy w' v.ownBlock->(∀g∈own v',g∈own v\/w.heap.size<=g)->K (a.put o.dst v') w'):Oper.wp P o a w K Q:=by
 obtain⟨v',w',hr,h2,h3,h4⟩:=uY (P:=P) w base t o.type e i z size bytes ht hi hz hsize hby hzs hsz v n xs hown ad m c news hl hnews h1 h63 hbytes hbase;unfold Oper.wp execOp;simp only[ho,resolve,invoke,builtin,Sem.run_bind,Sem.run_pure,Result.andThen_ok,List.map_toArray,List.map_cons,List.map_nil,hs,hx,hr];exact h v' w' h2 h3 h4
theorem _root_.Go.Proofs.YthhhfcdakfbpkaaGreatDoor.Mg.uq{cs:Mg.ax}{items orders:List Px.E}{o:Option Px.E}:∀{l:List (List Mg.V)} {fs:List (List Mg.V×List Mg.V)},Mg.foundM cs items orders o l=.ok fs->fs.length<=l.length
 |[],fs,h=>by simp only[Mg.foundM]at h;cases h;simp
 |r::l,fs,h=>by
  simp only[Mg.foundM]at h
  split at h
  · cases h
  · have:=Mg.uq h;simp;omega
  split at h
  · cases h
  split at h
  · cases h
  split at h
  · cases h
  rename_i hl
  cases h
  have:=Mg.uq hl;simp;omega
theorem Gg(tp:Option Addr)(o:Option Px.E)(w:World):Calls Tryz.prog 85 #[.pointer tp,ev? o] w fun x w'=>x=.returned (.func (.func 151) #[] #[.pointer (some ⟨w.heap.size,0,none⟩),.pointer (some ⟨w.heap.size+1,0,none⟩)])/\w'=(w.alloc (.cells #[.pointer tp] 94)).alloc (.cells #[ev? o] 98):=by
 cases o with
 |none=>exact Tq.Df tp w
 |some e=>
  obtain⟨et,ex,hev⟩:=fZ e;have vP:ev? (some e)=.iface et ex:=hev;rw[vP];go_enter Tryz.func85,Tryz.ntmps85;go_wp2_with fail;go_ret;exact⟨rfl,rfl⟩
structure KJ(w W:World)(p:Nat)(sc:Array Value):Prop where
 low:Below w.heap.size w W
 k0:af W w.heap.size #[.pointer (some ⟨p,0,none⟩)] 94
 k1:af W (w.heap.size+1) sc 109
 k2:af W (w.heap.size+1+1) #[.int .i64 0,.slice none 0 0,.int .i64 0] 29
theorem KJ.below(h:KJ w W p sc)(hb:Below W.heap.size W W'):KJ w W' p sc:=
 ⟨h.low.trans (hb.mono h.low.size),h.k0.below hb h.k0.lt,h.k1.below hb h.k1.lt,h.k2.below hb h.k2.lt⟩
theorem KJ.set{i:Nat}(h:KJ w W p sc)(hb:w.heap.size+1+1<b):KJ w (W.setCell ⟨b,i,none⟩ x) p sc:=
 ⟨h.low.setCell (by show w.heap.size<=b;omega) _,h.k0.far _ _ (by show b≠_;omega),h.k1.far _ _ (by show b≠_;omega),h.k2.far _ _ (by show b≠_;omega)⟩
theorem KJ.held{a b c d e f:Value}(h:KJ w W p #[a,b,c,d,e,f]):W.cell? ⟨w.heap.size,0,none⟩=some (.pointer (some ⟨p,0,none⟩))/\W.cell? ⟨w.heap.size+1,0,none⟩=some a/\W.cell? ⟨w.heap.size+1,3,none⟩=some d:=⟨h.k0.cell 0,h.k1.cell 0,h.k1.cell 3⟩
theorem _root_.Go.Proofs.YthhhfcdakfbpkaaGreatDoor.Tb.Nn{cs:Mg.ax}(hc:1<=cs.length/\cs.length<=6):∀l:List (Option Px.E),(Tb.aF cs l).length<=l.length*6
 |[]=>by simp[Tb.aF]
 |a::r=>by
  have ih:=Tb.Nn hc r
  have e:Tb.aF cs (a::r)=Tb.itE cs a++Tb.aF cs r:=by simp[Tb.aF]
  have h1:(Tb.itE cs a).length<=6:=by cases a<;>simp[Tb.itE]<;>omega
  rw[e,List.length_append,List.length_cons];omega
theorem _root_.Go.Proofs.YthhhfcdakfbpkaaGreatDoor.Tb.Jj{ds:List (Px.E×Nat)}{u:Value}(h:u∈ds.flatMap Tb.eu):u.oneCell'=true:=by
 obtain⟨d,_,hd⟩:=List.mem_flatMap.1 h;obtain⟨t,x,hx⟩:=fZ d.1;simp only[Tb.eu,List.mem_cons,List.not_mem_nil,or_false,hx]at hd;rcases hd with rfl|rfl<;>rfl
theorem _root_.Go.Proofs.YthhhfcdakfbpkaaGreatDoor.Tb.IP{cs:Mg.ax}{l:List (Option Px.E)}{o:Option Px.E}{os:List (Px.E×Bool)}(h:w.ownsRow b 191 2 v [(Tb.aF cs l).length,(Tb.demW o).length,os.length].sum [((Tb.aF cs l).map fun e=>(e,0)).flatMap Tb.eu,(Tb.demW o).flatMap Tb.eu,((os.map Prod.fst).map fun e=>(e,0)).flatMap Tb.eu].flatten):
   w.ownsRow b 191 2 v (Mg.je cs l o os).length ((Mg.je cs l o os).flatMap Tb.eu):=by
 unfold Mg.je;simpa[List.flatMap_append,Nat.add_assoc]using h
def Qd(K:Act->World->Prop)(R:Ending->World->Prop):Exit->Act->World->Prop
 |.normal,a,w=>K a w
 |.panic c,a,w=>a.defers=[]/\R (.panicked c) w
 |_,_,_=>False
theorem EA{K:Act->World->Prop}{R:Ending->World->Prop}{P:Program}{fn:Func}:∀(e:Exit) (a:Act) (w:World),Qd K R e a w->Exit.then K (bodyPostM Fence.wide n P fn R) e a w:=by
 intro e a w h
 cases e with
 |normal=>exact h
 |panic c=>
  show LeavesInM _ _ _ _ _ _ _ _ _;rw[h.1];exact h.2
 |_=>exact h.elim
theorem nX{T':TypeId}{cs:Array Value}(h:w.ownsRow b T s v n xs)(hB:af w b5 cs T')(hT:T≠T'):(w.setCell ⟨b5,0,none⟩ x).ownsRow b T s v n xs:=by
 refine bM h fun g hg=>Below.heap_setCell _ _ _ _ (fun e=> ?_)
 have e':g=b5:=e;subst e';rcases h.2 with⟨rfl,_⟩|⟨g1,_,_,rfl,_,h1,_⟩
 · simp[own,Value.ownBlock]at hg
 simp[own,Value.ownBlock]at hg;subst hg;have:=h1.symm.trans hB;injection this with this;injection this with _ this;exact hT this
theorem _root_.Go.Proofs.YthhhfcdakfbpkaaGreatDoor.Tb.D8{cs:Mg.ax}{l:List (Option Px.E)}(hc:1<=cs.length/\cs.length<=6)(hl:l.length<=2000/\n<=2000/\1<=l.length):(Tb.aF cs l).length<=1000000/\1<=(Tb.aF cs l).length:=by
 have key:∀l:List (Option Px.E),(Tb.aF cs l).length<=l.length*6/\l.length<=(Tb.aF cs l).length:=by
  intro l
  induction l with
  |nil=>simp[Tb.aF]
  |cons a r ih=>
   have e:Tb.aF cs (a::r)=Tb.itE cs a++Tb.aF cs r:=by simp[Tb.aF]
   have h1:(Tb.itE cs a).length<=6/\1<=(Tb.itE cs a).length:=by cases a<;>simp[Tb.itE]<;>omega
   rw[e,List.length_append,List.length_cons];omega
 have:=key l;omega
theorem Sg.keep{items orders:List Px.E}(h:Sg w W p sc b5 b6 iv xv items orders)(N:Nat)(h1:w.heap.size+1+1<N/\b5<N/\b6<N/\(∀g∈own iv,g<N)/\∀g∈own xv,g<N)(hos:W'.os=W.os)(htp:W'.tape=W.tape)(hou:W'.output=W.output)(hs:W.heap.size<=W'.heap.size)(hk:∀k,k<N->k<W.heap.size->W'.heap[k]? =W.heap[k]?):Sg w W' p sc b5 b6 iv xv items orders:=by
 have hb:∀{b:Nat} {cs:Array Value} {T:TypeId},af W b cs T->b<N->af W' b cs T:=fun{b cs T} hB hn=>by
  have:=hk b hn hB.lt;unfold af at*;rw[this];exact hB
 have hls:=h.low.size;exact⟨⟨hos.trans h.low.os,htp.trans h.low.tape,hou.trans h.low.output,Nat.le_trans hls hs,fun k hkk=>(hk k (by omega) (by omega)).trans (h.low.block k hkk)⟩,hb h.k0 (by omega),hb h.k1 (by omega),hb h.k2 h1.1,hb h.k5 h1.2.1,hb h.k6 h1.2.2.1,bM h.o5 fun g hg=>hk g (h1.2.2.2.1 g hg) (aZ h.o5 g hg),bM h.o6 fun g hg=>hk g (h1.2.2.2.2 g hg) (aZ h.o6 g hg),h.lt⟩
structure Fg(w W1 W:World)(p:Nat)(sc:Array Value)(b5 b6 b7:Nat)(iv xv:Value)(items orders:List Px.E)(cs:Mg.ax)(o:Option Px.E)(Q:List (List Mg.V))(fs:List (List Mg.V×List Mg.V))(fv:Value)(es:List (Value×Value))(y:Nat):Prop where
 sg:Sg w W p sc b5 b6 iv xv items orders
 k7:af W b7 #[fv] 193
 ow:W.ownsRow (W1.heap.size+4) 195 2 fv es.length (flatE es)
 len:es.length=fs.length
 cells:∀(j:Nat) (h1:j<es.length) (h2:j<fs.length),W.ownsRow (W1.heap.size+4) 39 3 es[j].1 fs[j].1.length (fs[j].1.flatMap Mg.vC)/\W.ownsRow (W1.heap.size+4) 39 3 es[j].2 fs[j].2.length (fs[j].2.flatMap Mg.vC)
 found:Mg.foundM cs items orders o Q=.ok fs
 size:W1.heap.size<=W.heap.size
 kept:∀k,b7<k->k<W1.heap.size->k≠y->W.heap[k]? =W1.heap[k]?
theorem Fg.below{items orders:List Px.E}{cs:Mg.ax}{o:Option Px.E}{Q:List (List Mg.V)}{fs:List (List Mg.V×List Mg.V)}{es:List (Value×Value)}(h:Fg w W1 W p sc b5 b6 b7 iv xv items orders cs o Q fs fv es y)(hb:Below W.heap.size W W'):Fg w W1 W' p sc b5 b6 b7 iv xv items orders cs o Q fs fv es y:=
 ⟨h.sg.below hb,h.k7.below hb h.k7.lt,dA h.ow hb,h.len,fun j h1 h2=>⟨dA (h.cells j h1 h2).1 hb,dA (h.cells j h1 h2).2 hb⟩,h.found,Nat.le_trans h.size hb.size,fun k h1 h2 h3=>(hb.block k (nlA h2 h.size)).trans (h.kept k h1 h2 h3)⟩
theorem CE{a:Nat}(h:w.ownsRow B T s v n xs)(hA:Apart a c w w')(hc:c<=B):w'.ownsRow B T s v n xs:=
 bM h fun g hg=>hA.block g (.inr (by have:=(h.lt g (by simpa[own]using hg)).1;omega)) (aZ h g hg)
theorem Fg.apart{items orders:List Px.E}{cs:Mg.ax}{o:Option Px.E}{Q:List (List Mg.V)}{fs:List (List Mg.V×List Mg.V)}{es:List (Value×Value)}(h:Fg w W1 W p sc b5 b6 b7 iv xv items orders cs o Q fs fv es y)(hlt:w.heap.size+1+1<W1.heap.size/\b5<W1.heap.size/\b6<W1.heap.size/\(∀g∈own iv,g<W1.heap.size)/\∀g∈own xv,g<W1.heap.size)(h7:b7<W1.heap.size)(ha:Apart W1.heap.size (W1.heap.size+4) W W'):Fg w W1 W' p sc b5 b6 b7 iv xv items orders cs o Q fs fv es y:=
 ⟨h.sg.keep W1.heap.size hlt ha.os ha.tape ha.output ha.size (fun k h1 h2=>ha.block k (.inl h1) h2),by have:=ha.block b7 (.inl h7) h.k7.lt;have hk:=h.k7;unfold af at*;rw[this];exact hk,CE h.ow ha (nlr _),h.len,fun j h1 h2=>⟨CE (h.cells j h1 h2).1 ha (nlr _),CE (h.cells j h1 h2).2 ha (nlr _)⟩,h.found,Nat.le_trans h.size ha.size,fun k h1 h2 h3=>(ha.block k (.inl h2) (nlA h2 h.size)).trans (h.kept k h1 h2 h3)⟩
theorem Fg.turn{items orders:List Px.E}{cs:Mg.ax}{o:Option Px.E}{Q:List (List Mg.V)}{fs:List (List Mg.V×List Mg.V)}{es:List (Value×Value)}(h:Fg w W1 W p sc b5 b6 b7 iv xv items orders cs o Q fs fv es y)(hlt:w.heap.size+1+1<b7/\b5<b7/\b6<b7/\(∀g∈own iv,g<b7)/\∀g∈own xv,g<b7){l:Nat}(h7:b7<l)(hl:l<W1.heap.size)(ob:Obj)(y':Nat)(hy:∀k,b7<k->k<W1.heap.size->k≠y'->(W.putObj l ob).heap[k]? =W1.heap[k]?):Fg w W1 (W.putObj l ob) p sc b5 b6 b7 iv xv items orders cs o Q fs fv es y':=by
 have hs:(W.putObj l ob).heap.size=W.heap.size:=by simp[World.putObj]
 have hk:∀k,k≠l->(W.putObj l ob).heap[k]? =W.heap[k]?:=fun k hk=>World.putObj_heap_other hk
 have hsz:=h.size
 have hown:∀{T:TypeId} {s:Nat} {v:Value} {n:Nat} {xs:List Value},W.ownsRow (W1.heap.size+4) T s v n xs->(W.putObj l ob).ownsRow (W1.heap.size+4) T s v n xs:=fun{T s v n xs} ho=>bM ho fun g hg=>hk g (by have:=(ho.lt g (by simpa[own]using hg)).1;omega)
 refine⟨h.sg.keep b7 hlt rfl rfl rfl (by rw[hs];exact nlr _) (fun k h1 _=>hk k (by omega)),?_,hown h.ow,h.len,fun j h1 h2=>⟨hown (h.cells j h1 h2).1,hown (h.cells j h1 h2).2⟩,h.found,by rw[hs];exact hsz,hy⟩;have:=hk b7 (by omega);have hk7:=h.k7;unfold af at*;rw[this];exact hk7
theorem Fg.add{w5:World}{items orders:List Px.E}{cs:Mg.ax}{o:Option Px.E}{Q:List (List Mg.V)}{fs:List (List Mg.V×List Mg.V)}{es:List (Value×Value)}(h:Fg w W1 W p sc b5 b6 b7 iv xv items orders cs o Q fs fv es y)(hlt:w.heap.size+1+1<b7/\b5<b7/\b6<b7/\(∀g∈own iv,g<b7)/\∀g∈own xv,g<b7)(h7:b7<W1.heap.size){x1 x2 v':Value}{a b:List Mg.V}{r:List Mg.V}
   (hg:(W.alloc (.cells #[x1,x2] 195)).grownBy w5 fv.ownBlock) (hown:w5.ownsRow (W1.heap.size+4) 195 2 v' (es.length+1) (flatE es++[x1,x2])) (h1:W.ownsRow (W1.heap.size+4) 39 3 x1 a.length (a.flatMap Mg.vC)) (h2:W.ownsRow (W1.heap.size+4) 39 3 x2 b.length (b.flatMap Mg.vC)) (hf:Mg.foundM cs items orders o (Q++[r])=.ok (fs++[(a,b)])):
   Fg w W1 (w5.setCell ⟨b7,0,none⟩ v') p sc b5 b6 b7 iv xv items orders cs o (Q++[r]) (fs++[(a,b)]) v' (es++[(x1,x2)]) y:=by
 have T:aC (own fv) (W.alloc (.cells #[x1,x2] 195)) w5:=aC.grown hg (fun k hk=>by simp[own,hk])
 have hfv:∀g∈own fv,W1.heap.size+4<=g:=fun g hg=>(h.ow.lt g (by simpa[own]using hg)).1
 have hA:Below W.heap.size W (W.alloc (.cells #[x1,x2] 195)):=(Below.refl _ W).alloc (nlr _) _;have hsz:=h.size;have hs5:W.heap.size<=w5.heap.size:=Nat.le_trans hA.size T.size
 have hk5:∀k,k<W1.heap.size->w5.heap[k]? =W.heap[k]?:=fun k hk=>(T.block k (nlA (by omega) hA.size) (fun hx=>by have:=hfv k hx;omega)).trans (hA.block k (by omega))
 have hkb:∀k,k<W1.heap.size->k≠b7->(w5.setCell ⟨b7,0,none⟩ v').heap[k]? =W.heap[k]?:=fun k hk hne=>(Below.heap_setCell _ _ _ _ (by show k≠b7;exact hne)).trans (hk5 k hk)
 have hval:∀{u:Value} {n:Nat} {xs:List Value},W.ownsRow (W1.heap.size+4) 39 3 u n xs->(w5.setCell ⟨b7,0,none⟩ v').ownsRow (W1.heap.size+4) 39 3 u n xs:=fun{u n xs} hu=>by
  have q:=aG (hu.alloc (.cells #[x1,x2] 195)) T (Tb.own_ne hu h.ow (by decide))
  exact bM q fun g hg=>Below.heap_setCell _ _ _ _ (by have:=(q.lt g (by simpa[own]using hg)).1;show g≠b7;omega)
 have hK7:af w5 b7 #[fv] 193:=by
  have:=hk5 b7 h7;have hk:=h.k7;unfold af at*;rw[this];exact hk
 refine⟨h.sg.keep b7 hlt (T.os.trans rfl) (T.tape.trans rfl) (T.output.trans rfl) (by simpa using hs5) (fun k h1 _=>hkb k (by omega) (by omega)),af.set1 (u:=fv) hK7,?_,by simp[h.len],fun j j1 j2=> ?_,hf,by simp;omega,fun k h1 h2 h3=>(hkb k h2 (by omega)).trans (h.kept k h1 h2 h3)⟩
 · rw[List.length_append,ji]
   exact bM hown fun g hg=>Below.heap_setCell _ _ _ _ (by have:=(hown.lt g (by simpa[own]using hg)).1;show g≠b7;omega)
 rcases Nat.lt_or_ge j es.length with hj|hj
 · rw[List.getElem_append_left hj,List.getElem_append_left (by rw[<-h.len];exact hj)];exact⟨hval (h.cells j hj (by rw[<-h.len];exact hj)).1,hval (h.cells j hj (by rw[<-h.len];exact hj)).2⟩
 have hje:j=es.length:=by simp at j1;omega
 subst hje;rw[List.getElem_append_right (nlr _),List.getElem_append_right (by rw[h.len];exact nlr _)];simp only[h.len,Nat.sub_self,List.getElem_cons_zero];exact⟨hval h1,hval h2⟩
theorem Fg.mid{w5:World}{items orders:List Px.E}{cs:Mg.ax}{o:Option Px.E}{Q:List (List Mg.V)}{fs:List (List Mg.V×List Mg.V)}{es:List (Value×Value)}(h:Fg w W1 W p sc b5 b6 b7 iv xv items orders cs o Q fs fv es y)(hlt:w.heap.size+1+1<W1.heap.size/\b5<W1.heap.size/\b6<W1.heap.size/\(∀g∈own iv,g<W1.heap.size)/\∀g∈own xv,g<W1.heap.size)(h7:b7<W1.heap.size){x1 x2:Value}
   (hg:(W.alloc (.cells #[x1,x2] 195)).grownBy w5 fv.ownBlock):Sg w w5 p sc b5 b6 iv xv items orders/\af w5 b7 #[fv] 193/\W.heap.size+1<=w5.heap.size/\(∀k,k<W.heap.size->k∉own fv->w5.heap[k]? =W.heap[k]?)/\∀g∈own fv,W1.heap.size+4<=g:=by
 have T:aC (own fv) (W.alloc (.cells #[x1,x2] 195)) w5:=aC.grown hg (fun k hk=>by simp[own,hk])
 have hfv:∀g∈own fv,W1.heap.size+4<=g:=fun g hg=>(h.ow.lt g (by simpa[own]using hg)).1
 have hA:Below W.heap.size W (W.alloc (.cells #[x1,x2] 195)):=(Below.refl _ W).alloc (nlr _) _;have hsz:=h.size
 have hs5:W.heap.size+1<=w5.heap.size:=by have:=T.size;rw[World.size_alloc]at this;exact this
 have hk5:∀k,k<W.heap.size->k∉own fv->w5.heap[k]? =W.heap[k]?:=fun k hk hx=>(T.block k (nlA hk hA.size) hx).trans (hA.block k hk)
 have hlow:∀k,k<W1.heap.size->w5.heap[k]? =W.heap[k]?:=fun k hk=>hk5 k (by omega) (fun hx=>by have:=hfv k hx;omega)
 refine⟨h.sg.keep W1.heap.size hlt (T.os.trans rfl) (T.tape.trans rfl) (T.output.trans rfl) (by omega) (fun k h1 _=>hlow k h1),?_,hs5,hk5,hfv⟩;have:=hlow b7 h7;have hk:=h.k7;unfold af at*;rw[this];exact hk
def rowOf(M:Tb.aU)(e:Value×Value):List Mg.V:=match e.1 with
 |.int _ z=>((M.find? fun m=>m.1==z).map Prod.snd).getD []
 |_=>[]
theorem BI{M:Tb.aU}(hr:M.Pairwise fun a b=>a.1<b.1){m:Int×List Mg.V}(hm:m∈M){e:Value×Value}(he:e.1=.int .i64 m.1):rowOf M e=m.2:=by
 unfold rowOf;rw[he];simp only
 have:M.find? (fun x=>x.1==m.1)=some m:=by
  induction M with
  |nil=>simp at hm
  |cons a r ih=>
   rcases List.mem_cons.1 hm with rfl|hm
   · simp
   have h1:=List.rel_of_pairwise_cons hr hm;rw[List.find?_cons_of_neg (by simp;omega)];exact ih hr.of_cons hm
 rw[this];rfl
theorem wC{M0:Tb.aU}(hr:M0.Pairwise fun a b=>a.1<b.1):∀{L:List (Value×Value)} {M:Tb.aU},Tb.bg w L M->(∀m∈M,m∈M0)->L.map (rowOf M0)=M.map Prod.snd
 |[],[],_,_=>rfl
 |e::L,m::M,h,hs=>by
  simp only[List.map_cons];rw[BI hr (hs m (by simp)) h.1.1,wC hr h.2 fun m hm=>hs m (by simp[hm])]
 |[],_::_,h,_=>h.elim
 |_::_,[],h,_=>h.elim
end Tw
end
section
namespace So
open Bt
variable {α:Type}
structure Data(enc:α->Value×Value)(c:α->α->Int)(K:α->Prop)(cb:Value)(g N:Nat)(w:World)(l:List α):Prop where
 lies:bR 195 w g (l.map enc)
 len:N=l.length
 small:N<=1000000
 ok:∀a∈l,K a
 two:∀a,K a->Two (enc a)
 cmp:wP enc c K cb g w
theorem Data.next{enc:α->Value×Value}{c:α->α->Int}{K:α->Prop}{l l':List α}(h:Data enc c K cb g N w l)(ht:aC [g] w w')(hl:bR 195 w' g (l'.map enc))(hp:l'.Perm l):Data enc c K cb g N w' l':=
 ⟨hl,by rw[hp.length_eq];exact h.len,h.small,fun a ha=>h.ok a (hp.mem_iff.1 ha),h.two,h.cmp.qO ht⟩
theorem Data.pair{enc:α->Value×Value}{c:α->α->Int}{K:α->Prop}{l:List α}(h:Data enc c K cb g N w l)(i j:Nat)(hi:i<l.length)(hj:j<l.length):
   ∃q1 q2 q3 q4 q5 q6 r1 r2 r3 r4 r5 r6,w.cell? ⟨g,i*2,none⟩=some (.slice q1 q2 q3)/\w.cell? ⟨g,i*2+1,none⟩=some (.slice q4 q5 q6)/\w.cell? ⟨g,j*2,none⟩=some (.slice r1 r2 r3)/\w.cell? ⟨g,j*2+1,none⟩=some (.slice r4 r5 r6)/\
     (∀W,aC [g] w W->Calls Tryz.prog 95 #[.agg #[.slice q1 q2 q3,.slice q4 q5 q6],.agg #[.slice r1 r2 r3,.slice r4 r5 r6],cb] W fun x W'=>x=.returned (.int .i64 (c l[i] l[j]))/\Below W.heap.size W W'):=by
 have k1:=h.ok _ (List.getElem_mem hi);have k2:=h.ok _ (List.getElem_mem hj);obtain⟨q1,q2,q3,q4,q5,q6,e1⟩:=h.two _ k1;obtain⟨r1,r2,r3,r4,r5,r6,e2⟩:=h.two _ k2;have a:=h.lies.at i (by simpa using hi);have b:=h.lies.at j (by simpa using hj)
 have hc:=fun W hW=>h.cmp W hW _ _ k1 k2
 simp only[List.getElem_map]at a b;rw[e1]at a;rw[e2]at b;simp only[e1,e2]at hc;exact⟨q1,q2,q3,q4,q5,q6,r1,r2,r3,r4,r5,r6,a.1,a.2,b.1,b.2,hc⟩
theorem Data.QW{enc:α->Value×Value}{c:α->α->Int}{K:α->Prop}{A C:List α}{a b:α}(h:Data enc c K cb g N w (A++a::b::C)){i j:Nat}(hi:A.length=i)(hj:j=i+1):
   ∃q1 q2 q3 q4 q5 q6 r1 r2 r3 r4 r5 r6,(w.cell? ⟨g,i*2,none⟩=some (.slice q1 q2 q3)/\w.cell? ⟨g,i*2+1,none⟩=some (.slice q4 q5 q6)/\w.cell? ⟨g,j*2,none⟩=some (.slice r1 r2 r3)/\w.cell? ⟨g,j*2+1,none⟩=some (.slice r4 r5 r6))/\
     Data enc c K cb g N ((((w.setCell ⟨g,i*2,none⟩ (.slice r1 r2 r3)).setCell ⟨g,i*2+1,none⟩ (.slice r4 r5 r6)).setCell ⟨g,j*2,none⟩ (.slice q1 q2 q3)).setCell ⟨g,j*2+1,none⟩ (.slice q4 q5 q6)) (A++b::a::C)/\
     Data enc c K cb g N ((((w.setCell ⟨g,j*2,none⟩ (.slice q1 q2 q3)).setCell ⟨g,j*2+1,none⟩ (.slice q4 q5 q6)).setCell ⟨g,i*2,none⟩ (.slice r1 r2 r3)).setCell ⟨g,i*2+1,none⟩ (.slice r4 r5 r6)) (A++b::a::C):=by
 obtain⟨q1,q2,q3,q4,q5,q6,e1⟩:=h.two a (h.ok a (by simp));obtain⟨r1,r2,r3,r4,r5,r6,e2⟩:=h.two b (h.ok b (by simp));have hl:=h.lies;rw[List.map_append,List.map_cons,List.map_cons]at hl;obtain⟨h1,h2,h3⟩:=bR.two (A:=A.map enc) (B:=[]) (a:=enc a) (b:=enc b) (C:=C.map enc) hl (i:=i) (j:=j) (by simpa using hi) (by simp;omega);have hp:(A++b::a::C).Perm (A++a::b::C):=List.Perm.append_left _ (List.Perm.swap _ _ _);rw[e1,e2]at h1
 have hm:(A++b::a::C).map enc=A.map enc++enc b::([]++enc a::C.map enc):=by simp
 rw[<-hm,e1,e2]at h2 h3;exact⟨q1,q2,q3,q4,q5,q6,r1,r2,r3,r4,r5,r6,h1,h.next (FX (aC.refl _ _) _ _ _ _ _ _ _ _) h2 hp,h.next (FX (aC.refl _ _) _ _ _ _ _ _ _ _) h3 hp⟩
theorem EJ{lt:α->α->Bool}(o:nQ lt){v:List α}{e:α}(hv:cK lt v){t:Nat}(ht:t<=v.length)(A:∀h:t<v.length,lt v[t] e=false)(B:∀h:0<t,lt (v[t-1]'(by omega)) e=true):
   cK lt (v.take t++e::v.drop t)/\dF lt ([e]++v) (v.take t++e::v.drop t):=by
 have hy:cK lt (e::v.drop t):=by
  refine List.Pairwise.cons ?_ (hv.drop t);intro a ha;obtain⟨y,hy,hty,rfl⟩:=iW ha;exact o.Br (A (by omega)) (kT o hv hty hy)
 have h:=merged o (u:=[e]) (v:=v) (x:=v.take t) (y:=e::v.drop t) (cK.one _ _) hv (i:=0) (j:=t) (by simp) ht (fun h1=>absurd h1 (by omega)) (fun _ h2=>B h2) (hv.take t) (by simpa using dF.refl lt (v.take t)) hy (by simpa using dF.refl lt (e::v.drop t));exact h
theorem JS{lt:α->α->Bool}(o:nQ lt){u:List α}{e:α}(hu:cK lt u){t:Nat}(ht:t<=u.length)(A:∀h:0<t,lt e (u[t-1]'(by omega))=false)(B:∀h:t<u.length,lt e u[t]=true):
   cK lt (u.take t++e::u.drop t)/\dF lt (u++[e]) (u.take t++e::u.drop t):=by
 refine JI o (by rw[List.take_append_drop];exact hu) (by rw[List.take_append_drop];exact dF.refl _ _) ?_ ?_
 · intro a ha;obtain⟨y,hy,hty,rfl⟩:=kN ha;exact o.Br (kT o hu (i:=y) (j:=t-1) (by omega) (by omega)) (A (by omega))
 intro a ha;obtain⟨y,hy,hty,rfl⟩:=iW ha;exact o.L8 (B (by omega)) (kT o hu hty hy)
end So
end
end Go.Proofs.YthhhfcdakfbpkaaGreatDoor
