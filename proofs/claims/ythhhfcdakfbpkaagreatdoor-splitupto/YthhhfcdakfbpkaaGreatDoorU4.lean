/- Parts of the proof -/
import Derived.Test.YthhhfcdakfbpkaaGreatDoorU3
open Go.Value renaming int -> Yg, string -> Yi, agg -> Yj, pointer -> Ym, iface -> Yo, slice -> Yp
open Go.IntKind renaming i64 -> Yh
open Go.Obj renaming cells -> Yk
open Go.Ending renaming returned -> Yl
open Go.Proofs.YthhhfcdakfbpkaaGreatDoor.Lx renaming Bs -> Y6
open Go.Proofs.YthhhfcdakfbpkaaGreatDoor.Mg renaming ay -> abS, fD -> abT, aO -> abU, aZ -> abY, V -> abZ, jH -> acb, Gm -> acd, isNull -> ace, place -> acf, knows -> acm, value -> acn, fits -> acr, gK -> acv, zi -> acx, vI -> acA, typ -> acD, sound -> acG
open Go.Proofs.Tryz renaming prog -> Zc, func201 -> abV, ntmps201 -> abW, results201 -> abX, func147 -> aci, ntmps147 -> acj, results147 -> ack, func143 -> aco, ntmps143 -> acp, func144 -> acs, ntmps144 -> acu, func195 -> acy, ntmps195 -> acz, func196 -> acB, ntmps196 -> acC, func145 -> acE, ntmps145 -> acF
open Go.World renaming size_alloc -> ZC, drew -> abA
open ByteArray renaming size -> aca
open Go.RowKit.Below renaming refl -> Zh
open Nat renaming lt_or_eq_of_le -> acg, le_of_lt_succ -> ach
open List renaming getElem?_eq_getElem -> YP, getElem_mem -> acw
open Go.Proofs.YthhhfcdakfbpkaaGreatDoor.Px renaming E -> ZU
open Option renaming none -> Y1, some -> Y2
open Go renaming Value -> Y3, World -> Y4, Calls -> aaT, bodyPost_ret -> aaU, results -> aaW
open Go.RowKit renaming Below -> aaS
namespace Go.Proofs.YthhhfcdakfbpkaaGreatDoor
set_option linter.unusedSimpArgs false
set_option linter.unusedVariables false
set_option maxRecDepth 100000
set_option maxHeartbeats 16000000
open Go.RowKit
variable {w:Y4}{v:Y3}
namespace Mg
theorem xy{n:Y6}:∀{cs:ay} {k:Nat} (h:k<cs.length),(∀(t:Nat) (ht:t<cs.length),t<k->cs[t].1≠n)->cs[k].1=n->place cs n=Y2 k
 |c::r,0,_,_,h2=>by
  have h3:c.1=n:=h2;simp only[place];rw[if_pos h3]
 |c::r,k+1,h,h1,h2=>by
  have h0:c.1≠n:=h1 0 (by simp) (by omega);simp only[place];rw[if_neg h0,xy (cs:=r) (k:=k) (by simpa using h) (fun t ht hk=>h1 (t+1) (by simpa using ht) (by omega)) h2]
  rfl
theorem zT{n:Y6}:∀{cs:ay},(∀(t:Nat) (ht:t<cs.length),cs[t].1≠n)->place cs n=Y1
 |[],_=>rfl
 |c::r,h1=>by
  have h0:c.1≠n:=h1 0 (by simp);simp only[place];rw[if_neg h0,zT (cs:=r) (fun t ht=>h1 (t+1) (by simpa using ht))]
  rfl
def iN(cs:ay)(n:Y6):Int:=match place cs n with
 |some i=>i
 |none=> -1
end Mg
namespace Mn
def bA(w:Y4)(v:Y3)(cs:abS):Prop:=∃ao cap,v=Yp ao cs.length cap/\
 ∀(k:Nat) (hk:k<cs.length),∃g,ao=Y2 ⟨g,0,Y1⟩/\g<w.heap.size/\w.cell? ⟨g,k*2,Y1⟩=Y2 (Yi ⟨cs[k].1.toArray⟩)/\w.cell? ⟨g,k*2+1,Y1⟩=Y2 (Yg Yh (cs[k].2:Nat))
theorem bA.below{w':Y4}{cs:abS}(h:bA w v cs)(hb:aaS w.heap.size w w'):bA w' v cs:=by
 obtain⟨ao,cap,h1,h2⟩:=h;refine⟨ao,cap,h1,fun k hk=> ?_⟩;obtain⟨g,h3,h4,h5,h6⟩:=h2 k hk;exact⟨g,h3,nlA h4 hb.size,(hb.cell (p:=⟨g,k*2,Y1⟩) h4).trans h5,(hb.cell (p:=⟨g,k*2+1,Y1⟩) h4).trans h6⟩
theorem bA.nil(w:Y4):bA w (Yp Y1 0 0) []:=⟨Y1,0,rfl,fun k hk=>by simp at hk⟩
theorem Sz(a b:Y6):((⟨a.toArray⟩:ByteArray).toList==(⟨b.toArray⟩:ByteArray).toList)=decide (a=b):=by
 rw[toList_toArray,toList_toArray];exact Bool.eq_iff_iff.2 (by simp)
theorem IE(cn nm:Y6)(ct:Int)(bx:Nat)(w:Y4)(hb:bx<w.heap.size)(hc:w.cell? ⟨bx,0,Y1⟩=Y2 (Yi ⟨nm.toArray⟩)):
   aaT Zc 212 #[Yj #[Yi ⟨cn.toArray⟩,Yg Yh ct],Ym (Y2 ⟨bx,0,Y1⟩)] w fun x w'=>x=Yl (.bool (decide (cn=nm)))/\aaS w.heap.size w w':=by
 have hq:=Sz cn nm
 have HB:Yf (aaS w.heap.size w (w.alloc (Yk #[Yi ⟨cn.toArray⟩,Yg Yh ct] 220))):=by show aaS _ _ _;go_grown
 generalize (⟨cn.toArray⟩:ByteArray)=C at*;generalize (⟨nm.toArray⟩:ByteArray)=D at*;generalize decide (cn=nm)=r at*;go_enter Tryz.func212,Tryz.ntmps212;go_wp2_with fail;go_ret;exact⟨by first|rfl|(rw[hq]),HB.o⟩
end Mn
namespace Mn
theorem I8(w:Y4)(x y z:Array Y3)(t:TypeId):Yf (ae (((w.alloc (.cells x t)).alloc (.cells y t)).alloc (.cells z t)) w.heap.size x t)/\Yf (ae (((w.alloc (.cells x t)).alloc (.cells y t)).alloc (.cells z t)) (w.heap.size+1) y t)/\Yf (ae (((w.alloc (.cells x t)).alloc (.cells y t)).alloc (.cells z t)) (w.heap.size+1+1) z t)/\Yf (aaS w.heap.size w (((w.alloc (.cells x t)).alloc (.cells y t)).alloc (.cells z t))):=by
 have HC0:=(ae.new (w.alloc (.cells x t)) y t).alloc (.cells z t);have HR0:=ae.new ((w.alloc (.cells x t)).alloc (.cells y t)) z t;rw[ZC]at HC0 HR0;rw[ZC]at HR0;exact⟨((ae.new w x t).alloc _).alloc _,HC0,HR0,by show aaS _ _ _;go_grown⟩
theorem Ed{a c r:Nat}{W W':Y4}{x y z:Array Y3}{t:TypeId}(h1:Yf (ae W a x t))(h2:Yf (ae W c y t))(h3:Yf (ae W r z t))(h4:Yf (aaS w.heap.size w W))(hb:aaS W.heap.size W W'):Yf (ae W' a x t)/\Yf (ae W' c y t)/\Yf (ae W' r z t)/\Yf (aaS w.heap.size w W'):=
 ⟨h1.o.below hb h1.o.lt,h2.o.below hb h2.o.lt,h3.o.below hb h3.o.lt,h4.o.trans (hb.mono h4.o.size)⟩
theorem U1{a c r:Nat}{W W':Y4}{x y z:Array Y3}{t:TypeId}(h1:Yf (ae W a x t))(h2:Yf (ae W c y t))(h3:Yf (ae W r z t))(h4:Yf (aaS w.heap.size w W))(hb:aaS (abA W).heap.size (abA W) W'):Yf (ae W' a x t)/\Yf (ae W' c y t)/\Yf (ae W' r z t)/\Yf (aaS w.heap.size w W'):=
 ⟨h1.o.drew.below hb h1.o.lt,h2.o.drew.below hb h2.o.lt,h3.o.drew.below hb h3.o.lt,h4.o.drew.trans (hb.mono h4.o.size)⟩
theorem Hf(ka za kb zb:Int)(ta tb:Y6) (w:Y4):
   aaT Zc 201 #[Yg Yh 24,Yj #[Yg Yh ka,Yg Yh za,Yi ⟨ta.toArray⟩],Yj #[Yg Yh kb,Yg Yh zb,Yi ⟨tb.toArray⟩]] w (jA w (.ok (abT (abU false) ⟨ka,za,ta⟩ ⟨kb,zb,tb⟩))):=by
 obtain⟨HA0,HC0,HR0,HB0⟩:=I8 w #[Yg Yh ka,Yg Yh za,Yi ⟨ta.toArray⟩] #[Yg Yh kb,Yg Yh zb,Yi ⟨tb.toArray⟩] #[Yg Yh 0,Yg Yh 0,Yi ⟨#[]⟩] 39;go_enter abV,abW;go_wp2_with fail;generalize ((w.alloc _).alloc _).alloc _=W at*;obtain⟨p00,p01,p02⟩:=HA0.o.d3;have lp0:=HA0.o.lt;obtain⟨q00,q01,q02⟩:=HC0.o.d3;have lq0:=HC0.o.lt;obtain⟨r00,r01,r02⟩:=HR0.o.d3;have lr0:=HR0.o.lt;obtain⟨f00,f01,f02⟩:=HR0.o.f3;generalize hv:abT (abU false) ⟨ka,za,ta⟩ ⟨kb,zb,tb⟩=vv at*;have HV:=hd hv;clear hv;obtain⟨vk,vz,vt⟩:=vv
 go_region_with (first
  |(go_at_call 256
    refine(xO (abU false) ⟨ka,za,ta⟩ ⟨kb,zb,tb⟩ _).mono ?_;rintro x w2 ⟨hx,hb⟩;obtain⟨HA2,HC2,HR2,HB2⟩:=Ed HA1 HC1 HR1 HB1 hb;clear hb;obtain⟨r20,r21,r22⟩:=HR2.o.d3;have lr2:=HR2.o.lt;obtain⟨f20,f21,f22⟩:=HR2.o.f3;rw[HV.o]at hx;subst hx;have S:=(((HR2.o.set 0 (Yg Yh vk)).set 1 (Yg Yh vz)).set 2 (Yi ⟨vt.toArray⟩));have s0:=S.cell 0;have s1:=S.cell 1;have s2:=S.cell 2;simp at s0 s1 s2;clear S
    try unfold vV)
  |(go_at_call 197
    refine(gH false _).mono ?_;rintro x w1 ⟨rfl,hb⟩;obtain⟨HA1,HC1,HR1,HB1⟩:=U1 HA0 HC0 HR0 HB0 hb;clear hb;obtain⟨p10,p11,p12⟩:=HA1.o.d3;have lp1:=HA1.o.lt;obtain⟨q10,q11,q12⟩:=HC1.o.d3;have lq1:=HC1.o.lt;obtain⟨r10,r11,r12⟩:=HR1.o.d3;have lr1:=HR1.o.lt;obtain⟨f10,f11,f12⟩:=HR1.o.f3
    try unfold vV))
 all_goals
  go_wp2_with fail;refine aaU (v:=vV (⟨vk,vz,vt⟩)) (by simp[aaW,abX,go_sem,vV,s0,s1,s2]) rfl ?_;refine⟨((HB2.o.setCell (p:=⟨w.heap.size+1+1,0,Y1⟩) (by simp;omega) _).setCell (p:=⟨w.heap.size+1+1,1,Y1⟩) (by simp;omega) _).setCell (p:=⟨w.heap.size+1+1,2,Y1⟩) (by simp;omega) _,?_⟩
  rfl
theorem LB(ka za kb zb:Int)(ta tb:Y6) (w:Y4):
   aaT Zc 201 #[Yg Yh 23,Yj #[Yg Yh ka,Yg Yh za,Yi ⟨ta.toArray⟩],Yj #[Yg Yh kb,Yg Yh zb,Yi ⟨tb.toArray⟩]] w (jA w (.ok (abT (abU true) ⟨ka,za,ta⟩ ⟨kb,zb,tb⟩))):=by
 obtain⟨HA0,HC0,HR0,HB0⟩:=I8 w #[Yg Yh ka,Yg Yh za,Yi ⟨ta.toArray⟩] #[Yg Yh kb,Yg Yh zb,Yi ⟨tb.toArray⟩] #[Yg Yh 0,Yg Yh 0,Yi ⟨#[]⟩] 39;go_enter abV,abW;go_wp2_with fail;generalize ((w.alloc _).alloc _).alloc _=W at*;obtain⟨p00,p01,p02⟩:=HA0.o.d3;have lp0:=HA0.o.lt;obtain⟨q00,q01,q02⟩:=HC0.o.d3;have lq0:=HC0.o.lt;obtain⟨r00,r01,r02⟩:=HR0.o.d3;have lr0:=HR0.o.lt;obtain⟨f00,f01,f02⟩:=HR0.o.f3;generalize hv:abT (abU true) ⟨ka,za,ta⟩ ⟨kb,zb,tb⟩=vv at*;have HV:=hd hv;clear hv;obtain⟨vk,vz,vt⟩:=vv
 go_region_with (first
  |(go_at_call 256
    refine(xO (abU true) ⟨ka,za,ta⟩ ⟨kb,zb,tb⟩ _).mono ?_;rintro x w2 ⟨hx,hb⟩;obtain⟨HA2,HC2,HR2,HB2⟩:=Ed HA1 HC1 HR1 HB1 hb;clear hb;obtain⟨r20,r21,r22⟩:=HR2.o.d3;have lr2:=HR2.o.lt;obtain⟨f20,f21,f22⟩:=HR2.o.f3;rw[HV.o]at hx;subst hx;have S:=(((HR2.o.set 0 (Yg Yh vk)).set 1 (Yg Yh vz)).set 2 (Yi ⟨vt.toArray⟩));have s0:=S.cell 0;have s1:=S.cell 1;have s2:=S.cell 2;simp at s0 s1 s2;clear S
    try unfold vV)
  |(go_at_call 197
    refine(gH true _).mono ?_;rintro x w1 ⟨rfl,hb⟩;obtain⟨HA1,HC1,HR1,HB1⟩:=U1 HA0 HC0 HR0 HB0 hb;clear hb;obtain⟨p10,p11,p12⟩:=HA1.o.d3;have lp1:=HA1.o.lt;obtain⟨q10,q11,q12⟩:=HC1.o.d3;have lq1:=HC1.o.lt;obtain⟨r10,r11,r12⟩:=HR1.o.d3;have lr1:=HR1.o.lt;obtain⟨f10,f11,f12⟩:=HR1.o.f3
    try unfold vV))
 all_goals
  go_wp2_with fail;refine aaU (v:=vV (⟨vk,vz,vt⟩)) (by simp[aaW,abX,go_sem,vV,s0,s1,s2]) rfl ?_;refine⟨((HB2.o.setCell (p:=⟨w.heap.size+1+1,0,Y1⟩) (by simp;omega) _).setCell (p:=⟨w.heap.size+1+1,1,Y1⟩) (by simp;omega) _).setCell (p:=⟨w.heap.size+1+1,2,Y1⟩) (by simp;omega) _,?_⟩
  rfl
theorem CJ(ka za kb zb:Int)(ta tb:Y6)(k:Nat)(hk:25<=k/\k<=36)(h14:(ka==14)=true)(w:Y4):
   aaT Zc 201 #[Yg Yh (k:Int),Yj #[Yg Yh ka,Yg Yh za,Yi ⟨ta.toArray⟩],Yj #[Yg Yh kb,Yg Yh zb,Yi ⟨tb.toArray⟩]] w (jA w (.ok abY)):=by
 have k23:((k:Int)==23)=false:=by simp;omega
 have k24:((k:Int)==24)=false:=by simp;omega
 obtain⟨HA0,HC0,HR0,HB0⟩:=I8 w #[Yg Yh ka,Yg Yh za,Yi ⟨ta.toArray⟩] #[Yg Yh kb,Yg Yh zb,Yi ⟨tb.toArray⟩] #[Yg Yh 0,Yg Yh 0,Yi ⟨#[]⟩] 39;go_enter abV,abW;go_wp2_with fail;generalize ((w.alloc _).alloc _).alloc _=W at*;obtain⟨p00,p01,p02⟩:=HA0.o.d3;have lp0:=HA0.o.lt;obtain⟨q00,q01,q02⟩:=HC0.o.d3;have lq0:=HC0.o.lt;obtain⟨r00,r01,r02⟩:=HR0.o.d3;have lr0:=HR0.o.lt;obtain⟨f00,f01,f02⟩:=HR0.o.f3;refine(aH _ _ _ _).mono ?_;rintro x w1 ⟨rfl,hb⟩;obtain⟨HA1,HC1,HR1,HB1⟩:=Ed HA0 HC0 HR0 HB0 hb;clear hb;obtain⟨p10,p11,p12⟩:=HA1.o.d3;have lp1:=HA1.o.lt;obtain⟨q10,q11,q12⟩:=HC1.o.d3;have lq1:=HC1.o.lt;obtain⟨r10,r11,r12⟩:=HR1.o.d3;have lr1:=HR1.o.lt;obtain⟨f10,f11,f12⟩:=HR1.o.f3;go_wp2_with fail;refine(sF _).mono ?_;rintro x w2 ⟨rfl,hb⟩;obtain⟨HA2,HC2,HR2,HB2⟩:=Ed HA1 HC1 HR1 HB1 hb;clear hb;obtain⟨p20,p21,p22⟩:=HA2.o.d3;have lp2:=HA2.o.lt;obtain⟨q20,q21,q22⟩:=HC2.o.d3;have lq2:=HC2.o.lt;obtain⟨r20,r21,r22⟩:=HR2.o.d3;have lr2:=HR2.o.lt;obtain⟨f20,f21,f22⟩:=HR2.o.f3;have S:=(((HR2.o.set 0 (Yg Yh (abY).kind)).set 1 (Yg Yh (abY).int)).set 2 (Yi ⟨(abY).text.toArray⟩));have s0:=S.cell 0;have s1:=S.cell 1;have s2:=S.cell 2;simp at s0 s1 s2;clear S
 try unfold vV
 go_wp2_with fail;refine aaU (v:=vV (abY)) (by simp[aaW,abX,go_sem,vV,s0,s1,s2]) rfl ?_;refine⟨((HB2.o.setCell (p:=⟨w.heap.size+1+1,0,Y1⟩) (by simp;omega) _).setCell (p:=⟨w.heap.size+1+1,1,Y1⟩) (by simp;omega) _).setCell (p:=⟨w.heap.size+1+1,2,Y1⟩) (by simp;omega) _,?_⟩
 rfl
theorem CF(ka za kb zb:Int)(ta tb:Y6)(k:Nat)(hk:25<=k/\k<=36)(h14:(ka==14)=false)(h14b:(kb==14)=true)(w:Y4):
   aaT Zc 201 #[Yg Yh (k:Int),Yj #[Yg Yh ka,Yg Yh za,Yi ⟨ta.toArray⟩],Yj #[Yg Yh kb,Yg Yh zb,Yi ⟨tb.toArray⟩]] w (jA w (.ok abY)):=by
 have k23:((k:Int)==23)=false:=by simp;omega
 have k24:((k:Int)==24)=false:=by simp;omega
 obtain⟨HA0,HC0,HR0,HB0⟩:=I8 w #[Yg Yh ka,Yg Yh za,Yi ⟨ta.toArray⟩] #[Yg Yh kb,Yg Yh zb,Yi ⟨tb.toArray⟩] #[Yg Yh 0,Yg Yh 0,Yi ⟨#[]⟩] 39;go_enter abV,abW;go_wp2_with fail;generalize ((w.alloc _).alloc _).alloc _=W at*;obtain⟨p00,p01,p02⟩:=HA0.o.d3;have lp0:=HA0.o.lt;obtain⟨q00,q01,q02⟩:=HC0.o.d3;have lq0:=HC0.o.lt;obtain⟨r00,r01,r02⟩:=HR0.o.d3;have lr0:=HR0.o.lt;obtain⟨f00,f01,f02⟩:=HR0.o.f3;refine(aH _ _ _ _).mono ?_;rintro x w1 ⟨rfl,hb⟩;obtain⟨HA1,HC1,HR1,HB1⟩:=Ed HA0 HC0 HR0 HB0 hb;clear hb;obtain⟨p10,p11,p12⟩:=HA1.o.d3;have lp1:=HA1.o.lt;obtain⟨q10,q11,q12⟩:=HC1.o.d3;have lq1:=HC1.o.lt;obtain⟨r10,r11,r12⟩:=HR1.o.d3;have lr1:=HR1.o.lt;obtain⟨f10,f11,f12⟩:=HR1.o.f3;go_wp2_with fail;refine(aH _ _ _ _).mono ?_;rintro x w2 ⟨rfl,hb⟩;obtain⟨HA2,HC2,HR2,HB2⟩:=Ed HA1 HC1 HR1 HB1 hb;clear hb;obtain⟨p20,p21,p22⟩:=HA2.o.d3;have lp2:=HA2.o.lt;obtain⟨q20,q21,q22⟩:=HC2.o.d3;have lq2:=HC2.o.lt;obtain⟨r20,r21,r22⟩:=HR2.o.d3;have lr2:=HR2.o.lt;obtain⟨f20,f21,f22⟩:=HR2.o.f3;go_wp2_with fail;refine(sF _).mono ?_;rintro x w3 ⟨rfl,hb⟩;obtain⟨HA3,HC3,HR3,HB3⟩:=Ed HA2 HC2 HR2 HB2 hb;clear hb;obtain⟨p30,p31,p32⟩:=HA3.o.d3;have lp3:=HA3.o.lt;obtain⟨q30,q31,q32⟩:=HC3.o.d3;have lq3:=HC3.o.lt;obtain⟨r30,r31,r32⟩:=HR3.o.d3;have lr3:=HR3.o.lt;obtain⟨f30,f31,f32⟩:=HR3.o.f3;have S:=(((HR3.o.set 0 (Yg Yh (abY).kind)).set 1 (Yg Yh (abY).int)).set 2 (Yi ⟨(abY).text.toArray⟩));have s0:=S.cell 0;have s1:=S.cell 1;have s2:=S.cell 2;simp at s0 s1 s2;clear S
 try unfold vV
 go_wp2_with fail;refine aaU (v:=vV (abY)) (by simp[aaW,abX,go_sem,vV,s0,s1,s2]) rfl ?_;refine⟨((HB3.o.setCell (p:=⟨w.heap.size+1+1,0,Y1⟩) (by simp;omega) _).setCell (p:=⟨w.heap.size+1+1,1,Y1⟩) (by simp;omega) _).setCell (p:=⟨w.heap.size+1+1,2,Y1⟩) (by simp;omega) _,?_⟩
 rfl
theorem H9(ka za kb zb:Int)(ta tb:Y6)(hta:ta.length<=100000)(htb:tb.length<=100000)(ha:(ka==14)=false)(hb14:(kb==14)=false)(r:Except Nat abZ)(hr:r=Mg.pE (ta++tb))(w:Y4):
   aaT Zc 201 #[Yg Yh 31,Yj #[Yg Yh ka,Yg Yh za,Yi ⟨ta.toArray⟩],Yj #[Yg Yh kb,Yg Yh zb,Yi ⟨tb.toArray⟩]] w (jA w r):=by
 have HRR:=hd hr;clear hr
 have sA:(⟨ta.toArray⟩:ByteArray).size<=100000:=by simpa[aca]using hta
 have sB:(⟨tb.toArray⟩:ByteArray).size<=100000:=by simpa[aca]using htb
 obtain⟨HA0,HC0,HR0,HB0⟩:=I8 w #[Yg Yh ka,Yg Yh za,Yi ⟨ta.toArray⟩] #[Yg Yh kb,Yg Yh zb,Yi ⟨tb.toArray⟩] #[Yg Yh 0,Yg Yh 0,Yi ⟨#[]⟩] 39;go_enter abV,abW;go_wp2_with fail;generalize ((w.alloc _).alloc _).alloc _=W at*;obtain⟨p00,p01,p02⟩:=HA0.o.d3;have lp0:=HA0.o.lt;obtain⟨q00,q01,q02⟩:=HC0.o.d3;have lq0:=HC0.o.lt;obtain⟨r00,r01,r02⟩:=HR0.o.d3;have lr0:=HR0.o.lt;obtain⟨f00,f01,f02⟩:=HR0.o.f3;refine(aH _ _ _ _).mono ?_;rintro x w1 ⟨rfl,hb⟩;obtain⟨HA1,HC1,HR1,HB1⟩:=Ed HA0 HC0 HR0 HB0 hb;clear hb;obtain⟨p10,p11,p12⟩:=HA1.o.d3;have lp1:=HA1.o.lt;obtain⟨q10,q11,q12⟩:=HC1.o.d3;have lq1:=HC1.o.lt;obtain⟨r10,r11,r12⟩:=HR1.o.d3;have lr1:=HR1.o.lt;obtain⟨f10,f11,f12⟩:=HR1.o.f3;go_wp2_with fail;refine(aH _ _ _ _).mono ?_;rintro x w2 ⟨rfl,hb⟩;obtain⟨HA2,HC2,HR2,HB2⟩:=Ed HA1 HC1 HR1 HB1 hb;clear hb;obtain⟨p20,p21,p22⟩:=HA2.o.d3;have lp2:=HA2.o.lt;obtain⟨q20,q21,q22⟩:=HC2.o.d3;have lq2:=HC2.o.lt;obtain⟨r20,r21,r22⟩:=HR2.o.d3;have lr2:=HR2.o.lt;obtain⟨f20,f21,f22⟩:=HR2.o.f3;go_wp2_with fail;refine(EY _ _).mono ?_;rintro x w3 ⟨hb,hx⟩;obtain⟨HA3,HC3,HR3,HB3⟩:=Ed HA2 HC2 HR2 HB2 hb;clear hb;obtain⟨p30,p31,p32⟩:=HA3.o.d3;have lp3:=HA3.o.lt;obtain⟨q30,q31,q32⟩:=HC3.o.d3;have lq3:=HC3.o.lt;obtain⟨r30,r31,r32⟩:=HR3.o.d3;have lr3:=HR3.o.lt;obtain⟨f30,f31,f32⟩:=HR3.o.f3
 have Va:((⟨ta.toArray⟩:ByteArray)++⟨tb.toArray⟩).data.toList=ta++tb:=by simp
 rw[Va,<-HRR.o]at hx;clear HRR Va
 cases r with
 |error c=>
  have hx':x=lL 0 c:=hx;subst hx';exact⟨rfl,HB3.o,rfl⟩
 |ok v=>
  have hx':x=Yl (vV v):=hx;subst hx';clear hx;obtain⟨vk,vz,vt⟩:=v;have S:=(((HR3.o.set 0 (Yg Yh (⟨vk,vz,vt⟩:abZ).kind)).set 1 (Yg Yh (⟨vk,vz,vt⟩:abZ).int)).set 2 (Yi ⟨(⟨vk,vz,vt⟩:abZ).text.toArray⟩));have s0:=S.cell 0;have s1:=S.cell 1;have s2:=S.cell 2;simp at s0 s1 s2;clear S
  try unfold vV
  go_wp2_with fail;refine aaU (v:=vV (⟨vk,vz,vt⟩:abZ)) (by simp[aaW,abX,go_sem,vV,s0,s1,s2]) rfl ?_;refine⟨((HB3.o.setCell (p:=⟨w.heap.size+1+1,0,Y1⟩) (by simp;omega) _).setCell (p:=⟨w.heap.size+1+1,1,Y1⟩) (by simp;omega) _).setCell (p:=⟨w.heap.size+1+1,2,Y1⟩) (by simp;omega) _,?_⟩
  rfl
theorem Iq(ka za kb zb:Int)(ta tb:Y6)(k:Nat)(hk:25<=k/\k<=30)(ha:(ka==14)=false)(hb14:(kb==14)=false)(w:Y4):
   aaT Zc 201 #[Yg Yh (k:Int),Yj #[Yg Yh ka,Yg Yh za,Yi ⟨ta.toArray⟩],Yj #[Yg Yh kb,Yg Yh zb,Yi ⟨tb.toArray⟩]] w (jA w (.ok (abU (Mg.holds k (Mg.wI ⟨ka,za,ta⟩ ⟨kb,zb,tb⟩))))):=by
 have k23:((k:Int)==23)=false:=by simp;omega
 have k24:((k:Int)==24)=false:=by simp;omega
 have k31:((k:Int)==31)=false:=by simp;omega
 have d25:decide (25<=(k:Int))=true:=decide_eq_true (by omega);have We:decide (25<=k)=true:=decide_eq_true (by omega);have d30:decide ((k:Int)<=30)=true:=decide_eq_true (by omega);have Xp:decide (k<=30)=true:=decide_eq_true (by omega);have HHK:=hd hk;obtain⟨HA0,HC0,HR0,HB0⟩:=I8 w #[Yg Yh ka,Yg Yh za,Yi ⟨ta.toArray⟩] #[Yg Yh kb,Yg Yh zb,Yi ⟨tb.toArray⟩] #[Yg Yh 0,Yg Yh 0,Yi ⟨#[]⟩] 39;go_enter abV,abW;go_wp2_with fail;generalize ((w.alloc _).alloc _).alloc _=W at*;obtain⟨p00,p01,p02⟩:=HA0.o.d3;have lp0:=HA0.o.lt;obtain⟨q00,q01,q02⟩:=HC0.o.d3;have lq0:=HC0.o.lt;obtain⟨r00,r01,r02⟩:=HR0.o.d3;have lr0:=HR0.o.lt;obtain⟨f00,f01,f02⟩:=HR0.o.f3;refine(aH _ _ _ _).mono ?_;rintro x w1 ⟨rfl,hb⟩;obtain⟨HA1,HC1,HR1,HB1⟩:=Ed HA0 HC0 HR0 HB0 hb;clear hb;obtain⟨p10,p11,p12⟩:=HA1.o.d3;have lp1:=HA1.o.lt;obtain⟨q10,q11,q12⟩:=HC1.o.d3;have lq1:=HC1.o.lt;obtain⟨r10,r11,r12⟩:=HR1.o.d3;have lr1:=HR1.o.lt;obtain⟨f10,f11,f12⟩:=HR1.o.f3;go_wp2_with fail;refine(aH _ _ _ _).mono ?_;rintro x w2 ⟨rfl,hb⟩;obtain⟨HA2,HC2,HR2,HB2⟩:=Ed HA1 HC1 HR1 HB1 hb;clear hb;obtain⟨p20,p21,p22⟩:=HA2.o.d3;have lp2:=HA2.o.lt;obtain⟨q20,q21,q22⟩:=HC2.o.d3;have lq2:=HC2.o.lt;obtain⟨r20,r21,r22⟩:=HR2.o.d3;have lr2:=HR2.o.lt;obtain⟨f20,f21,f22⟩:=HR2.o.f3;go_wp2_with fail;refine(vP ⟨ka,za,ta⟩ ⟨kb,zb,tb⟩ _).mono ?_;rintro x w3 ⟨rfl,hb⟩;obtain⟨HA3,HC3,HR3,HB3⟩:=Ed HA2 HC2 HR2 HB2 hb;clear hb;obtain⟨p30,p31,p32⟩:=HA3.o.d3;have lp3:=HA3.o.lt;obtain⟨q30,q31,q32⟩:=HC3.o.d3;have lq3:=HC3.o.lt;obtain⟨r30,r31,r32⟩:=HR3.o.d3;have lr3:=HR3.o.lt;obtain⟨f30,f31,f32⟩:=HR3.o.f3;generalize Mg.wI ⟨ka,za,ta⟩ ⟨kb,zb,tb⟩=o at*;go_wp2_with fail;refine(KJ k o _ HHK.o).mono ?_;rintro x w3 ⟨rfl,rfl⟩;generalize Mg.holds k o=hh at*;go_wp2_with fail;refine(gH hh _).mono ?_;rintro x w4 ⟨rfl,hb⟩;obtain⟨HA4,HC4,HR4,HB4⟩:=Ed HA3 HC3 HR3 HB3 hb;clear hb;obtain⟨p40,p41,p42⟩:=HA4.o.d3;have lp4:=HA4.o.lt;obtain⟨q40,q41,q42⟩:=HC4.o.d3;have lq4:=HC4.o.lt;obtain⟨r40,r41,r42⟩:=HR4.o.d3;have lr4:=HR4.o.lt;obtain⟨f40,f41,f42⟩:=HR4.o.f3;generalize hvv:abU hh=vv at*;have HVV:=hd hvv;clear hvv;obtain⟨vk,vz,vt⟩:=vv;have S:=(((HR4.o.set 0 (Yg Yh (⟨vk,vz,vt⟩:abZ).kind)).set 1 (Yg Yh (⟨vk,vz,vt⟩:abZ).int)).set 2 (Yi ⟨(⟨vk,vz,vt⟩:abZ).text.toArray⟩));have s0:=S.cell 0;have s1:=S.cell 1;have s2:=S.cell 2;simp at s0 s1 s2;clear S
 try unfold vV
 go_wp2_with fail;refine aaU (v:=vV (⟨vk,vz,vt⟩:abZ)) (by simp[aaW,abX,go_sem,vV,s0,s1,s2]) rfl ?_;refine⟨((HB4.o.setCell (p:=⟨w.heap.size+1+1,0,Y1⟩) (by simp;omega) _).setCell (p:=⟨w.heap.size+1+1,1,Y1⟩) (by simp;omega) _).setCell (p:=⟨w.heap.size+1+1,2,Y1⟩) (by simp;omega) _,?_⟩
 rfl
theorem Ja(ka za kb zb:Int)(ta tb:Y6)(k:Nat)(hk:32<=k/\k<=36)(ha:(ka==14)=false)(hb14:(kb==14)=false)(fa: -9223372036854775808<=za/\za<=9223372036854775807)(fb: -9223372036854775808<=zb/\zb<=9223372036854775807)(r:Except Nat abZ)(hr:r=match Mg.arith k za zb with
     |.error c=> .error c
     |.ok z=> .ok (acb z)) (w:Y4):
   aaT Zc 201 #[Yg Yh (k:Int),Yj #[Yg Yh ka,Yg Yh za,Yi ⟨ta.toArray⟩],Yj #[Yg Yh kb,Yg Yh zb,Yi ⟨tb.toArray⟩]] w (jA w r):=by
 have HRR:=hd hr;have HCC:=hd (fun w=>zF k za zb w hk fa fb);clear hr
 have k23:((k:Int)==23)=false:=by simp;omega
 have k24:((k:Int)==24)=false:=by simp;omega
 have k31:((k:Int)==31)=false:=by simp;omega
 have d25:decide (25<=(k:Int))=true:=decide_eq_true (by omega);have We:decide (25<=k)=true:=decide_eq_true (by omega);have d30:decide ((k:Int)<=30)=false:=decide_eq_false (by omega);have Xp:decide (k<=30)=false:=decide_eq_false (by omega);obtain⟨HA0,HC0,HR0,HB0⟩:=I8 w #[Yg Yh ka,Yg Yh za,Yi ⟨ta.toArray⟩] #[Yg Yh kb,Yg Yh zb,Yi ⟨tb.toArray⟩] #[Yg Yh 0,Yg Yh 0,Yi ⟨#[]⟩] 39;go_enter abV,abW;go_wp2_with fail;generalize ((w.alloc _).alloc _).alloc _=W at*;obtain⟨p00,p01,p02⟩:=HA0.o.d3;have lp0:=HA0.o.lt;obtain⟨q00,q01,q02⟩:=HC0.o.d3;have lq0:=HC0.o.lt;obtain⟨r00,r01,r02⟩:=HR0.o.d3;have lr0:=HR0.o.lt;obtain⟨f00,f01,f02⟩:=HR0.o.f3;refine(aH _ _ _ _).mono ?_;rintro x w1 ⟨rfl,hb⟩;obtain⟨HA1,HC1,HR1,HB1⟩:=Ed HA0 HC0 HR0 HB0 hb;clear hb;obtain⟨p10,p11,p12⟩:=HA1.o.d3;have lp1:=HA1.o.lt;obtain⟨q10,q11,q12⟩:=HC1.o.d3;have lq1:=HC1.o.lt;obtain⟨r10,r11,r12⟩:=HR1.o.d3;have lr1:=HR1.o.lt;obtain⟨f10,f11,f12⟩:=HR1.o.f3;go_wp2_with fail;refine(aH _ _ _ _).mono ?_;rintro x w2 ⟨rfl,hb⟩;obtain⟨HA2,HC2,HR2,HB2⟩:=Ed HA1 HC1 HR1 HB1 hb;clear hb;obtain⟨p20,p21,p22⟩:=HA2.o.d3;have lp2:=HA2.o.lt;obtain⟨q20,q21,q22⟩:=HC2.o.d3;have lq2:=HC2.o.lt;obtain⟨r20,r21,r22⟩:=HR2.o.d3;have lr2:=HR2.o.lt;obtain⟨f20,f21,f22⟩:=HR2.o.f3;go_wp2_with fail;refine(HCC.o _).mono ?_;rintro x w3 ⟨hb,hx⟩;obtain⟨HA3,HC3,HR3,HB3⟩:=Ed HA2 HC2 HR2 HB2 hb;clear hb;obtain⟨p30,p31,p32⟩:=HA3.o.d3;have lp3:=HA3.o.lt;obtain⟨q30,q31,q32⟩:=HC3.o.d3;have lq3:=HC3.o.lt;obtain⟨r30,r31,r32⟩:=HR3.o.d3;have lr3:=HR3.o.lt;obtain⟨f30,f31,f32⟩:=HR3.o.f3
 cases hc:Mg.arith k za zb with
 |error c=>
  rw[hc]at hx;have hx':x=lL 0 c:=hx;subst hx';have he:=HRR.o;rw[hc]at he;subst he;exact⟨rfl,HB3.o,rfl⟩
 |ok z=>
  rw[hc]at hx;have hx':x=Yl (Yg Yh z):=hx;subst hx'
  have HRE:Yf (r=.ok (acb z)):=by have he:=HRR.o;rw[hc]at he;exact he
  clear HRR hc hx HCC;go_wp2_with fail;refine(kE z _).mono ?_;rintro x w4 ⟨rfl,hb⟩;obtain⟨HA4,HC4,HR4,HB4⟩:=Ed HA3 HC3 HR3 HB3 hb;clear hb;obtain⟨p40,p41,p42⟩:=HA4.o.d3;have lp4:=HA4.o.lt;obtain⟨q40,q41,q42⟩:=HC4.o.d3;have lq4:=HC4.o.lt;obtain⟨r40,r41,r42⟩:=HR4.o.d3;have lr4:=HR4.o.lt;obtain⟨f40,f41,f42⟩:=HR4.o.f3;have S:=(((HR4.o.set 0 (Yg Yh 16)).set 1 (Yg Yh z)).set 2 (Yi ⟨#[]⟩));have s0:=S.cell 0;have s1:=S.cell 1;have s2:=S.cell 2;simp at s0 s1 s2;clear S;go_wp2_with fail;refine aaU (v:=vV (⟨16,z,[]⟩)) (by simp[aaW,abX,go_sem,vV,s0,s1,s2]) rfl ?_;refine⟨((HB4.o.setCell (p:=⟨w.heap.size+1+1,0,Y1⟩) (by simp;omega) _).setCell (p:=⟨w.heap.size+1+1,1,Y1⟩) (by simp;omega) _).setCell (p:=⟨w.heap.size+1+1,2,Y1⟩) (by simp;omega) _,?_⟩;rw[HRE.o];rfl
theorem Ih(k:Nat)(a b:abZ)(w:Y4)(hk:23<=k/\k<=36)(ha: -9223372036854775808<=a.int/\a.int<=9223372036854775807)(hb: -9223372036854775808<=b.int/\b.int<=9223372036854775807)(hta:a.text.length<=100000)(htb:b.text.length<=100000):aaT Zc 201 #[Yg Yh (k:Int),vV a,vV b] w (jA w (acd k a b)):=by
 obtain⟨ka,za,ta⟩:=a;obtain⟨kb,zb,tb⟩:=b;unfold acd;by_cases h24:k=24
 · rw[if_pos h24];subst h24;exact Hf ka za kb zb ta tb w
 rw[if_neg h24];by_cases h23:k=23
 · rw[if_pos h23];subst h23;exact LB ka za kb zb ta tb w
 rw[if_neg h23];by_cases hn:ace ⟨ka,za,ta⟩=true\/ace ⟨kb,zb,tb⟩=true
 · rw[if_pos hn];by_cases h1:ace ⟨ka,za,ta⟩=true
   · exact CJ ka za kb zb ta tb k (by omega) h1 w
   have h2:=hn.resolve_left h1;exact CF ka za kb zb ta tb k (by omega) (by simpa[ace]using h1) h2 w
 rw[if_neg hn]
 have h1:(ka==14)=false:=by simp[ace]at hn;simpa using hn.1
 have h2:(kb==14)=false:=by simp[ace]at hn;simpa using hn.2
 by_cases h31:k=31
 · rw[if_pos h31];subst h31;exact H9 ka za kb zb ta tb hta htb h1 h2 _ rfl w
 rw[if_neg h31];by_cases h30:25<=k/\k<=30
 · rw[if_pos h30];exact Iq ka za kb zb ta tb k h30 h1 h2 w
 rw[if_neg h30];exact Ja ka za kb zb ta tb k (by omega) h1 h2 ha hb _ rfl w
end Mn
namespace Mn
theorem Ao(cs:abS)(nm:Y6)(v:Y3)(bx:Nat)(w:Y4)(hn:cs.length<=1000)(hC:bA w v cs)(hb:bx<w.heap.size)(hc:w.cell? ⟨bx,0,Y1⟩=Y2 (Yi ⟨nm.toArray⟩)):
   aaT Zc 211 #[v,.func (.func 212) #[] #[Ym (Y2 ⟨bx,0,Y1⟩)]] w fun x w'=>x=Yl (Yg Yh (Mg.iN cs nm))/\aaS w.heap.size w w':=by
 obtain⟨ao,cap,rfl,hK⟩:=hC;obtain⟨cl,hcl⟩:∃cl,cs.length=cl:=⟨_,rfl⟩;have HK:Yf (∀(k:Nat) (hk:k<cs.length),∃g,ao=Y2 ⟨g,0,Y1⟩/\g<w.heap.size/\w.cell? ⟨g,k*2,Y1⟩=Y2 (Yi ⟨cs[k].1.toArray⟩)/\w.cell? ⟨g,k*2+1,Y1⟩=Y2 (Yg Yh (cs[k].2:Nat))):=hK;have HC:=hd hc
 have hcl1:cl<=1000:=by omega
 have HCL:=hd hcl;clear hK hc hn;rw[hcl];clear hcl;go_enter Tryz.func211,Tryz.ntmps211;go_wp2_with fail;go_loopw [8] (fun i wr=>∃k:Nat,k<=cl/\i=Yg Yh k/\Yf (∀(t:Nat) (ht:t<cs.length),t<k->cs[t].1≠nm)/\Yf (aaS w.heap.size w wr)) (fun i _=>cl-(intOf i).toNat)
 case atStart=>exact⟨0,by omega,rfl,fun t _ h=>absurd h (by omega),Zh _ _⟩
 case round=>
  obtain⟨k,hk,rfl,HN,HW⟩:=hrel;by_cases hlt:k<cl
  · have hkc:k<cs.length:=by rw[HCL.o];exact hlt
    obtain⟨g,rfl,hg,c0,c1⟩:=HK.o k hkc;have d0:=(HW.o.cell (p:=⟨g,k*2,Y1⟩) hg).trans c0;have d1:=(HW.o.cell (p:=⟨g,k*2+1,Y1⟩) hg).trans c1;have hg2:=nlA hg HW.o.size;have HKC:=hd hkc
    have HE:Yf (∀n,cs[k].1=n->n=nm->acf cs nm=Y2 k):=fun n h1 h2=>Mg.xy hkc HN.o (h1.trans h2)
    have HE2:Yf (cs[k].1≠nm->∀(t:Nat) (ht:t<cs.length),t<k+1->cs[t].1≠nm):=fun h t ht htk=>by
     rcases acg (ach htk)with h1|h1
     · exact HN.o t ht h1
     subst h1;exact h
    generalize cs[k].1=cn at*;generalize cs[k].2=ct at*
    have HP1:Yf (∀W,aaS w.heap.size w W->aaT Zc 212 #[Yj #[Yi ⟨cn.toArray⟩,Yg Yh (ct:Int)],Ym (Y2 ⟨bx,0,Y1⟩)] W fun x w'=>x=Yl (.bool (decide (cn=nm)))/\aaS W.heap.size W w'):=
     fun W hW=>IE cn nm ct bx W (nlA hb hW.size) ((hW.cell (p:=⟨bx,0,Y1⟩) hb).trans HC.o)
    clear c0 c1 hkc;go_wp2_with fail;refine(HP1.o _ HW.o).mono ?_;rintro x w1 ⟨rfl,hb1⟩;have HW1:Yf (aaS w.heap.size w w1):=HW.o.trans (hb1.mono HW.o.size);clear hb1 d0 d1;by_cases he:cn=nm
    · have hd1:decide (cn=nm)=true:=decide_eq_true he
      have HPI:Yf (Mg.iN cs nm=(k:Int)):=by show _=_;unfold Mg.iN;rw[HE.o _ rfl he]
      rw[hd1];go_wp2_with fail;go_ret;exact⟨by rw[HPI.o];rfl,HW1.o⟩
    have hd1:decide (cn=nm)=false:=decide_eq_false he;have HN1:=hd (HE2.o he);rw[hd1];go_wp2_with fail;go_roundw
    case rel=>exact⟨k+1,by omega,by go_num,HN1,HW1⟩
    case measure=>simp[intOf];omega
  have HPI:Yf (Mg.iN cs nm= -1):=by
   show _=_;unfold Mg.iN;rw[Mg.zT (fun t ht=>HN.o t ht (by have:=HCL.o;omega))]
  go_wp2_with fail;go_ret;exact⟨by rw[HPI.o];rfl,HW.o⟩
theorem uS(cs:abS)(nm:Y6)(v:Y3)(w:Y4)(hn:cs.length<=1000)(hC:bA w v cs):
   aaT Zc 155 #[v,Yi ⟨nm.toArray⟩] w fun x w'=>x=Yl (Yg Yh (Mg.iN cs nm))/\aaS w.heap.size w w':=by
 have HB0:Yf (aaS w.heap.size w (w.alloc (Yk #[Yi ⟨nm.toArray⟩] 9))):=by show aaS _ _ _;go_grown
 have HK0:=hd (ae.new w #[Yi ⟨nm.toArray⟩] 9);have HI:=hd (Ao cs nm v w.heap.size (w.alloc (Yk #[Yi ⟨nm.toArray⟩] 9)) hn (hC.below HB0.o) HK0.o.lt (HK0.o.cell 0));obtain⟨ao,cap,rfl,_⟩:=hC;go_enter Tryz.func155,Tryz.ntmps155;go_wp2_with fail;refine HI.o.mono ?_;rintro x w1 ⟨rfl,hb1⟩;have HB1:Yf (aaS w.heap.size w w1):=HB0.o.trans (hb1.mono HB0.o.size);clear hb1;go_wp2_with fail;go_ret;exact⟨rfl,HB1.o⟩
end Mn
namespace Mn
def fI(w:Y4)(v:Y3)(row:List abZ):Prop:=∃ao cap,v=Yp ao row.length cap/\
 ∀(k:Nat) (hk:k<row.length),∃g,ao=Y2 ⟨g,0,Y1⟩/\g<w.heap.size/\w.cell? ⟨g,k*3,Y1⟩=Y2 (Yg Yh row[k].kind)/\w.cell? ⟨g,k*3+1,Y1⟩=Y2 (Yg Yh row[k].int)/\w.cell? ⟨g,k*3+2,Y1⟩=Y2 (Yi ⟨row[k].text.toArray⟩)
theorem fI.below{w':Y4}{row:List abZ}(h:fI w v row)(hb:aaS w.heap.size w w'):fI w' v row:=by
 obtain⟨ao,cap,h1,h2⟩:=h;refine⟨ao,cap,h1,fun k hk=> ?_⟩;obtain⟨g,h3,h4,h5,h6,h7⟩:=h2 k hk;exact⟨g,h3,nlA h4 hb.size,(hb.cell (p:=⟨g,k*3,Y1⟩) h4).trans h5,(hb.cell (p:=⟨g,k*3+1,Y1⟩) h4).trans h6,(hb.cell (p:=⟨g,k*3+2,Y1⟩) h4).trans h7⟩
theorem fI.drew{row:List abZ}(h:fI w v row):fI w.drew v row:=h
theorem Ip(sv rv:Y3)(w:Y4):aaT Zc 147 #[sv,ev .null,rv] w (jA w (.ok abY)):=by
 have a0:=yF;have a1:=sK;have a2:=ui;have a3:=qN;have a4:=nN;have a5:=nu;have HR0:=hd (ae.new w #[Yg Yh 0,Yg Yh 0,Yi ⟨#[]⟩] 39)
 have HB0:Yf (aaS w.heap.size w (w.alloc (Yk #[Yg Yh 0,Yg Yh 0,Yi ⟨#[]⟩] 39))):=by show aaS _ _ _;go_grown
 unfold ev;go_enter aci,acj;go_wp2_with fail;refine(sF _).mono ?_;rintro x w1 ⟨rfl,hb⟩;have HB1:=hd (HB0.o.trans (hb.mono HB0.o.size));have HR1:=hd (HR0.o.below hb HR0.o.lt);obtain⟨f0,f1,f2⟩:=HR1.o.f3;obtain⟨e0,e1,e2⟩:=HR1.o.d3;have lr:=HR1.o.lt;have S:=(((HR1.o.set 0 (Yg Yh (14))).set 1 (Yg Yh (0))).set 2 (.string (⟨#[]⟩)));obtain⟨s0,s1,s2⟩:=S.d3
 try unfold vV
 try simp only[abU,abY,acb]
 go_wp2_with fail;refine aaU (v:=Yj #[Yg Yh (14),Yg Yh (0),.string (⟨#[]⟩)]) (by simp[aaW,ack,go_sem,s0,s1,s2]) rfl ?_;refine⟨((HB1.o.setCell (p:=⟨w.heap.size,0,Y1⟩) (by simp) _).setCell (p:=⟨w.heap.size,1,Y1⟩) (by simp) _).setCell (p:=⟨w.heap.size,2,Y1⟩) (by simp) _,?_⟩
 rfl
theorem GV(sv rv:Y3)(w:Y4):aaT Zc 147 #[sv,ev (.bool true),rv] w (jA w (.ok (abU true))):=by
 have a0:=rF (.bool true);have HR0:=hd ((ae.new w #[Yg Yh 0,Yg Yh 0,Yi ⟨#[]⟩] 39).alloc (Yk #[.bool true] 285))
 have HB0:Yf (aaS w.heap.size w ((w.alloc (Yk #[Yg Yh 0,Yg Yh 0,Yi ⟨#[]⟩] 39)).alloc (Yk #[.bool true] 285))):=by show aaS _ _ _;go_grown
 unfold ev;go_enter aci,acj;go_wp2_with fail;refine(gH true _).mono ?_;rintro x w1 ⟨rfl,hb⟩;have HB1:=hd (HB0.o.trans (hb.mono HB0.o.size));have HR1:=hd (HR0.o.below hb HR0.o.lt);obtain⟨f0,f1,f2⟩:=HR1.o.f3;obtain⟨e0,e1,e2⟩:=HR1.o.d3;have lr:=HR1.o.lt;have S:=(((HR1.o.set 0 (Yg Yh (15))).set 1 (Yg Yh (1))).set 2 (.string (⟨#[]⟩)));obtain⟨s0,s1,s2⟩:=S.d3
 try unfold vV
 try simp only[abU,abY,acb]
 go_wp2_with fail;refine aaU (v:=Yj #[Yg Yh (15),Yg Yh (1),.string (⟨#[]⟩)]) (by simp[aaW,ack,go_sem,s0,s1,s2]) rfl ?_;refine⟨((HB1.o.setCell (p:=⟨w.heap.size,0,Y1⟩) (by simp) _).setCell (p:=⟨w.heap.size,1,Y1⟩) (by simp) _).setCell (p:=⟨w.heap.size,2,Y1⟩) (by simp) _,?_⟩
 rfl
theorem Fh(sv rv:Y3)(w:Y4):aaT Zc 147 #[sv,ev (.bool false),rv] w (jA w (.ok (abU false))):=by
 have a0:=rF (.bool false);have HR0:=hd ((ae.new w #[Yg Yh 0,Yg Yh 0,Yi ⟨#[]⟩] 39).alloc (Yk #[.bool false] 285))
 have HB0:Yf (aaS w.heap.size w ((w.alloc (Yk #[Yg Yh 0,Yg Yh 0,Yi ⟨#[]⟩] 39)).alloc (Yk #[.bool false] 285))):=by show aaS _ _ _;go_grown
 unfold ev;go_enter aci,acj;go_wp2_with fail;refine(gH false _).mono ?_;rintro x w1 ⟨rfl,hb⟩;have HB1:=hd (HB0.o.trans (hb.mono HB0.o.size));have HR1:=hd (HR0.o.below hb HR0.o.lt);obtain⟨f0,f1,f2⟩:=HR1.o.f3;obtain⟨e0,e1,e2⟩:=HR1.o.d3;have lr:=HR1.o.lt;have S:=(((HR1.o.set 0 (Yg Yh (15))).set 1 (Yg Yh (0))).set 2 (.string (⟨#[]⟩)));obtain⟨s0,s1,s2⟩:=S.d3
 try unfold vV
 try simp only[abU,abY,acb]
 go_wp2_with fail;refine aaU (v:=Yj #[Yg Yh (15),Yg Yh (0),.string (⟨#[]⟩)]) (by simp[aaW,ack,go_sem,s0,s1,s2]) rfl ?_;refine⟨((HB1.o.setCell (p:=⟨w.heap.size,0,Y1⟩) (by simp) _).setCell (p:=⟨w.heap.size,1,Y1⟩) (by simp) _).setCell (p:=⟨w.heap.size,2,Y1⟩) (by simp) _,?_⟩
 rfl
theorem Kr(z:Int)(sv rv:Y3)(w:Y4):aaT Zc 147 #[sv,ev (.num z),rv] w (jA w (.ok (acb z))):=by
 have a0:=rT (Yg Yh z);have a1:=oI (Yg Yh z);have HR0:=hd ((ae.new w #[Yg Yh 0,Yg Yh 0,Yi ⟨#[]⟩] 39).alloc (Yk #[Yg Yh z] 287))
 have HB0:Yf (aaS w.heap.size w ((w.alloc (Yk #[Yg Yh 0,Yg Yh 0,Yi ⟨#[]⟩] 39)).alloc (Yk #[Yg Yh z] 287))):=by show aaS _ _ _;go_grown
 unfold ev;go_enter aci,acj;go_wp2_with fail;refine(kE z _).mono ?_;rintro x w1 ⟨rfl,hb⟩;have HB1:=hd (HB0.o.trans (hb.mono HB0.o.size));have HR1:=hd (HR0.o.below hb HR0.o.lt);obtain⟨f0,f1,f2⟩:=HR1.o.f3;obtain⟨e0,e1,e2⟩:=HR1.o.d3;have lr:=HR1.o.lt;have S:=(((HR1.o.set 0 (Yg Yh (16))).set 1 (Yg Yh (z))).set 2 (.string (⟨#[]⟩)));obtain⟨s0,s1,s2⟩:=S.d3
 try unfold vV
 try simp only[abU,abY,acb]
 go_wp2_with fail;refine aaU (v:=Yj #[Yg Yh (16),Yg Yh (z),.string (⟨#[]⟩)]) (by simp[aaW,ack,go_sem,s0,s1,s2]) rfl ?_;refine⟨((HB1.o.setCell (p:=⟨w.heap.size,0,Y1⟩) (by simp) _).setCell (p:=⟨w.heap.size,1,Y1⟩) (by simp) _).setCell (p:=⟨w.heap.size,2,Y1⟩) (by simp) _,?_⟩
 rfl
theorem LY(s:Y6)(sv rv:Y3)(w:Y4):aaT Zc 147 #[sv,ev (.str s),rv] w (jA w (Mg.pE s)):=by
 have a0:=uw (Yi ⟨s.toArray⟩);have a1:=oC (Yi ⟨s.toArray⟩);have a2:=nO (Yi ⟨s.toArray⟩);have HR0:=hd ((ae.new w #[Yg Yh 0,Yg Yh 0,Yi ⟨#[]⟩] 39).alloc (Yk #[Yi ⟨s.toArray⟩] 289))
 have HB0:Yf (aaS w.heap.size w ((w.alloc (Yk #[Yg Yh 0,Yg Yh 0,Yi ⟨#[]⟩] 39)).alloc (Yk #[Yi ⟨s.toArray⟩] 289))):=by show aaS _ _ _;go_grown
 unfold ev;go_enter aci,acj;go_wp2_with fail;refine(EY ⟨s.toArray⟩ _).mono ?_;rintro x w1 ⟨hb,hx⟩;have HB1:=hd (HB0.o.trans (hb.mono HB0.o.size));have HR1:=hd (HR0.o.below hb HR0.o.lt);generalize Mg.pE s=r at*
 cases r with
 |error c=>
  have hx':x=lL 0 c:=hx;subst hx';exact⟨rfl,HB1.o,rfl⟩
 |ok v=>
  have hx':x=Yl (vV v):=hx;subst hx';obtain⟨vk,vz,vt⟩:=v;obtain⟨f0,f1,f2⟩:=HR1.o.f3;obtain⟨e0,e1,e2⟩:=HR1.o.d3;have lr:=HR1.o.lt;have S:=(((HR1.o.set 0 (Yg Yh (vk))).set 1 (Yg Yh (vz))).set 2 (.string (⟨vt.toArray⟩)));obtain⟨s0,s1,s2⟩:=S.d3
  try unfold vV
  try simp only[abU,abY,acb]
  go_wp2_with fail;refine aaU (v:=Yj #[Yg Yh (vk),Yg Yh (vz),.string (⟨vt.toArray⟩)]) (by simp[aaW,ack,go_sem,s0,s1,s2]) rfl ?_;refine⟨((HB1.o.setCell (p:=⟨w.heap.size,0,Y1⟩) (by simp) _).setCell (p:=⟨w.heap.size,1,Y1⟩) (by simp) _).setCell (p:=⟨w.heap.size,2,Y1⟩) (by simp) _,?_⟩
  rfl
theorem PX(cs:abS)(hn:cs.length<=1000)(row:List abZ)(hr:row.length=cs.length)(s:Y6)(hk:acm cs (.nm s)=true)(sv rv:Y3)(w:Y4)(hC:bA w sv cs)(hR:fI w rv row):aaT Zc 147 #[sv,ev (.nm s),rv] w (jA w (acn cs row (.nm s))):=by
 obtain⟨i,hi⟩:∃i,acf cs s=Y2 i:=Option.isSome_iff_exists.1 hk
 have hil:i<row.length:=by rw[hr];exact Mg.yR hi
 have a1:=xV (Yi ⟨s.toArray⟩);have a2:=sH (Yi ⟨s.toArray⟩);have a3:=tQ (Yi ⟨s.toArray⟩);have a4:=rC (Yi ⟨s.toArray⟩);have HR0:=hd ((ae.new w #[Yg Yh 0,Yg Yh 0,Yi ⟨#[]⟩] 39).alloc (Yk #[Yi ⟨s.toArray⟩] 271))
 have HB0:Yf (aaS w.heap.size w ((w.alloc (Yk #[Yg Yh 0,Yg Yh 0,Yi ⟨#[]⟩] 39)).alloc (Yk #[Yi ⟨s.toArray⟩] 271))):=by show aaS _ _ _;go_grown
 have HP:=hd (uS cs s sv _ hn (hC.below HB0.o))
 have hpi:Mg.iN cs s=(i:Int):=by unfold Mg.iN;rw[hi]
 rw[hpi]at HP
 have HT:Yf (acn cs row (.nm s)=.ok row[i]):=by
  show _=_;simp only[acn,hi];rw[List.getD_eq_getElem?_getD,YP hil]
  rfl
 obtain⟨ao,cap,rfl,hK⟩:=hR;obtain⟨g,rfl,hg,c0,c1,c2⟩:=hK i hil;have hin:i<row.length:=hil
 have hrl:row.length<=1000:=by omega
 have i1:(i:Int)<(row.length:Int):=by omega
 have i2:(0:Int)<=(i:Int):=by omega
 generalize row[i]=vv at*;clear hk hK hpi hi hil hr hC;generalize row.length=cl at*;obtain⟨vk,vz,vt⟩:=vv;unfold ev;go_enter aci,acj;go_wp2_with fail;refine HP.o.mono ?_;rintro x w1 ⟨rfl,hb⟩;have HB1:=hd (HB0.o.trans (hb.mono HB0.o.size));have HR1:=hd (HR0.o.below hb HR0.o.lt);have d0:=(HB1.o.cell (p:=⟨g,i*3,Y1⟩) hg).trans c0;have d1:=(HB1.o.cell (p:=⟨g,i*3+1,Y1⟩) hg).trans c1;have d2:=(HB1.o.cell (p:=⟨g,i*3+2,Y1⟩) hg).trans c2;have hg1:=nlA hg HB1.o.size
 try simp only at d0 d1 d2
 obtain⟨f0,f1,f2⟩:=HR1.o.f3;obtain⟨e0,e1,e2⟩:=HR1.o.d3;have lr:=HR1.o.lt;have S:=(((HR1.o.set 0 (Yg Yh (vk))).set 1 (Yg Yh (vz))).set 2 (.string (⟨vt.toArray⟩)));obtain⟨s0,s1,s2⟩:=S.d3
 try unfold vV
 try simp only[abU,abY,acb]
 go_wp2_with fail;refine aaU (v:=Yj #[Yg Yh (vk),Yg Yh (vz),.string (⟨vt.toArray⟩)]) (by simp[aaW,ack,go_sem,s0,s1,s2]) rfl ?_;refine⟨((HB1.o.setCell (p:=⟨w.heap.size,0,Y1⟩) (by simp) _).setCell (p:=⟨w.heap.size,1,Y1⟩) (by simp) _).setCell (p:=⟨w.heap.size,2,Y1⟩) (by simp) _,?_⟩;rw[HT.o];rfl
end Mn
namespace Mn
theorem MJ(cs:abS)(row:List abZ)(k:Nat)(a:ZU)(hk:19<=k/\k<=22)(sv rv:Y3)(iha:∀(w:Y4),bA w sv cs->fI w rv row->aaT Zc 147 #[sv,ev a,rv] w (jA w (acn cs row a)))(hfit:∀v,acn cs row a=.ok v-> -9223372036854775808<=v.int/\v.int<=9223372036854775807)
   (w:Y4) (hC:bA w sv cs) (hR:fI w rv row):aaT Zc 147 #[sv,ev (.un k a),rv] w (jA w (acn cs row (.un k a))):=by
 obtain⟨et,ex,hea⟩:=jc a;rw[hea]at iha;have HA:=hd iha;have VD:=hd hfit;have HKK:=hd hk;have a1:=vT (Yg Yh (k:Int)) (Yo et ex);have a2:=qA (Yg Yh (k:Int)) (Yo et ex);have a3:=qg (Yg Yh (k:Int)) (Yo et ex);have a4:=pg (Yg Yh (k:Int)) (Yo et ex);have a5:=mU (Yg Yh (k:Int)) (Yo et ex)
 have HV:Yf (acn cs row (.un k a)=match acn cs row a with
  |.error c=> .error c
  |.ok v=>Mg.sP k v):=rfl
 unfold ev;rw[hea]
 have HB0:Yf (aaS w.heap.size w ((w.alloc (Yk #[Yg Yh 0,Yg Yh 0,Yi ⟨#[]⟩] 39)).alloc (Yk #[Yg Yh (k:Int),Yo et ex] 292))):=by show aaS _ _ _;go_grown
 have HC0:=hd (hC.below HB0.o);have HW0:=hd (hR.below HB0.o);have HR0:=hd ((ae.new w #[Yg Yh 0,Yg Yh 0,Yi ⟨#[]⟩] 39).alloc (Yk #[Yg Yh (k:Int),Yo et ex] 292));have HN0:=hd (ae.new (w.alloc (Yk #[Yg Yh 0,Yg Yh 0,Yi ⟨#[]⟩] 39)) #[Yg Yh (k:Int),Yo et ex] 292);rw[ZC]at HN0;have hl0:=HN0.o.lt;clear hea iha hC hR hfit hk;go_enter aci,acj;go_wp2_with fail;generalize (w.alloc (Yk #[Yg Yh 0,Yg Yh 0,Yi ⟨#[]⟩] 39)).alloc (Yk #[Yg Yh (k:Int),Yo et ex] 292)=W at*;have p0:=HN0.o.cell 0;have p1:=HN0.o.cell 1;simp at p0 p1
 go_region_with (first
  |(go_at_call 200
    refine(KX k v _ HKK.o hf).mono ?_;rintro x w2 ⟨hb2,hx2⟩;have HB2:=hd (HB1.o.trans (hb2.mono HB1.o.size));have R2:=R1.below hb2 R1.lt;rcases hu:Mg.sP k v with c|z
    · rw[hu]at hx2 HV;obtain rfl:=hx2;exact⟨rfl,HB2.o,by rw[HV.o];rfl⟩
    rw[hu]at hx2 HV;obtain rfl:=hx2;obtain⟨zk,zz,zt⟩:=z;have e0:=R2.cell 0;have e1:=R2.cell 1;have e2:=R2.cell 2;simp at e0 e1 e2;have f0:=R2.free 0;have f1:=R2.free 1;have f2:=R2.free 2;have lr:=R2.lt;have S:=(((R2.set 0 (Yg Yh zk)).set 1 (Yg Yh zz)).set 2 (Yi ⟨zt.toArray⟩));have s0:=S.cell 0;have s1:=S.cell 1;have s2:=S.cell 2;simp at s0 s1 s2;clear S R2 R1 hb2 hu
    try unfold vV)
  |(go_at_call 147
    refine(HA.o _ (show bA (abA _) sv cs from HC0.o) HW0.o.drew).mono ?_;rintro x w1 ⟨hb1,hx1⟩;have HB1:=hd (HB0.o.drew.trans (hb1.mono HB0.o.size));have N1:=HN0.o.drew.below hb1 hl0;have R1:=HR0.o.drew.below hb1 HR0.o.lt;rcases hva:acn cs row a with c|v
    · rw[hva]at hx1 HV;obtain rfl:=hx1;exact⟨rfl,HB1.o,by rw[HV.o];rfl⟩
    have hf:=VD.o v hva;rw[hva]at hx1 HV;obtain rfl:=hx1;have q0:=N1.cell 0;have q1:=N1.cell 1;simp at q0 q1
    clear hb1 hva N1))
 all_goals
  go_wp2_with fail;refine aaU (v:=Yj #[Yg Yh zk,Yg Yh zz,Yi ⟨zt.toArray⟩]) (by simp[aaW,ack,go_sem,s0,s1,s2]) rfl ?_;refine⟨((HB2.o.setCell (p:=⟨w.heap.size,0,Y1⟩) (by simp) _).setCell (p:=⟨w.heap.size,1,Y1⟩) (by simp) _).setCell (p:=⟨w.heap.size,2,Y1⟩) (by simp) _,?_⟩;rw[HV.o];rfl
end Mn
namespace Mn
def Hr(v:abZ):Prop:=(-9223372036854775808<=v.int/\v.int<=9223372036854775807)/\v.text.length<=100000
theorem Kv(cs:abS)(row:List abZ)(k:Nat)(a b:ZU)(hk:23<=k/\k<=36)(sv rv:Y3)(iha:∀(w:Y4),bA w sv cs->fI w rv row->aaT Zc 147 #[sv,ev a,rv] w (jA w (acn cs row a)))(ihb:∀(w:Y4),bA w sv cs->fI w rv row->aaT Zc 147 #[sv,ev b,rv] w (jA w (acn cs row b)))
   (hfa:∀v,acn cs row a=.ok v->Hr v) (hfb:∀v,acn cs row b=.ok v->Hr v)
   (w:Y4) (hC:bA w sv cs) (hR:fI w rv row):aaT Zc 147 #[sv,ev (.bin k a b),rv] w (jA w (acn cs row (.bin k a b))):=by
 obtain⟨et,ex,hea⟩:=jc a;obtain⟨ft,fx,heb⟩:=jc b;rw[hea]at iha;rw[heb]at ihb;have HA:=hd iha;have HB:=hd ihb;have HFA:=hd hfa;have HFB:=hd hfb;have HKK:=hd hk;have a1:=sJ (Yg Yh (k:Int)) (Yo et ex) (Yo ft fx);have a2:=pI (Yg Yh (k:Int)) (Yo et ex) (Yo ft fx);have a3:=oL (Yg Yh (k:Int)) (Yo et ex) (Yo ft fx);have a4:=ng (Yg Yh (k:Int)) (Yo et ex) (Yo ft fx);have a5:=lS (Yg Yh (k:Int)) (Yo et ex) (Yo ft fx);have a6:=kG (Yg Yh (k:Int)) (Yo et ex) (Yo ft fx)
 have HV:Yf (acn cs row (.bin k a b)=match acn cs row a with
  |.error c=> .error c
  |.ok v=>match acn cs row b with
   |.error c=> .error c
   |.ok u=>acd k v u):=rfl
 unfold ev;rw[hea,heb]
 have HB0:Yf (aaS w.heap.size w ((w.alloc (Yk #[Yg Yh 0,Yg Yh 0,Yi ⟨#[]⟩] 39)).alloc (Yk #[Yg Yh (k:Int),Yo et ex,Yo ft fx] 294))):=by show aaS _ _ _;go_grown
 have HC0:=hd (hC.below HB0.o);have HW0:=hd (hR.below HB0.o);have HK0:=hd ((ae.new w #[Yg Yh 0,Yg Yh 0,Yi ⟨#[]⟩] 39).alloc (Yk #[Yg Yh (k:Int),Yo et ex,Yo ft fx] 294));have HN0:=hd (ae.new (w.alloc (Yk #[Yg Yh 0,Yg Yh 0,Yi ⟨#[]⟩] 39)) #[Yg Yh (k:Int),Yo et ex,Yo ft fx] 294);rw[ZC]at HN0;clear hea heb iha ihb hC hR hfa hfb hk;go_enter aci,acj;go_wp2_with fail;generalize (w.alloc (Yk #[Yg Yh 0,Yg Yh 0,Yi ⟨#[]⟩] 39)).alloc (Yk #[Yg Yh (k:Int),Yo et ex,Yo ft fx] 294)=W at*;refine(HA.o _ HC0.o HW0.o).mono ?_;rintro x w1 ⟨hb,hx⟩;have HB1:Yf (aaS w.heap.size w w1):=HB0.o.trans (hb.mono HB0.o.size);have HC1:=hd (HC0.o.below hb);have HW1:=hd (HW0.o.below hb);have HK1:=hd (HK0.o.below hb HK0.o.lt);have HN1:=hd (HN0.o.below hb HN0.o.lt);have HX:=hd hx;clear hb hx HK0 HN0 HA HC0 HW0
 cases hva:acn cs row a with
 |error c=>
  rw[hva]at HX HV;obtain rfl:=HX.o;exact⟨rfl,HB1.o,by rw[HV.o];rfl⟩
 |ok v=>
  have hf1:=HFA.o v hva;rw[hva]at HX HV;obtain rfl:=HX.o;clear HX hva HFA;obtain⟨lk,lz,lt⟩:=v;have HF1:=hd hf1;clear hf1
  try unfold vV
  go_wp2_with fail;have HB2:Yf (aaS w.heap.size w (w1.alloc (Yk #[Yg Yh lk,Yg Yh lz,Yi ⟨lt.toArray⟩] 39))):=HB1.o.alloc HB1.o.size _
  have hba:aaS w1.heap.size w1 (w1.alloc (Yk #[Yg Yh lk,Yg Yh lz,Yi ⟨lt.toArray⟩] 39)):=by go_grown
  have HC2:=hd (HC1.o.below hba);have HW2:=hd (HW1.o.below hba);have HK2:=hd (HK1.o.alloc (Yk #[Yg Yh lk,Yg Yh lz,Yi ⟨lt.toArray⟩] 39));have HN2:=hd (HN1.o.alloc (Yk #[Yg Yh lk,Yg Yh lz,Yi ⟨lt.toArray⟩] 39));have HL2:=hd (ae.new w1 #[Yg Yh lk,Yg Yh lz,Yi ⟨lt.toArray⟩] 39);have hlm:=HN1.o.lt;clear HK1 HN1 HB1 HC1 HW1 hba;generalize hW2:w1.alloc (Yk #[Yg Yh lk,Yg Yh lz,Yi ⟨lt.toArray⟩] 39)=W2 at*;clear hW2;generalize w1.heap.size=m at*;have p0:=HN2.o.cell 0;have p2:=HN2.o.cell 2;have l0:=HL2.o.cell 0;have l1:=HL2.o.cell 1;have l2:=HL2.o.cell 2;simp at p0 p2 l0 l1 l2
  go_region_with (first
      |(go_at_call 201
        refine(Ih k ⟨lk,lz,lt⟩ u _ HKK.o HF1.o.1 hf2.1 HF1.o.2 hf2.2).mono ?_;rintro x w4 ⟨hb4,hx4⟩;have HB4:=hd (HB3.o.trans (hb4.mono HB3.o.size));have K4:=K3.below hb4 K3.lt;have N4:=N3.below hb4 N3.lt;have L4:=L3.below hb4 L3.lt;rcases har:acd k ⟨lk,lz,lt⟩ u with c|z
        · rw[har]at hx4 HV;obtain rfl:=hx4;exact⟨rfl,HB4.o,by rw[HV.o];rfl⟩
        rw[har]at hx4 HV;obtain rfl:=hx4;obtain⟨zk,zz,zt⟩:=z;have r0:=N4.cell 0;have r2:=N4.cell 2;have n0:=L4.cell 0;have n1:=L4.cell 1;have n2:=L4.cell 2;have e0:=K4.cell 0;have e1:=K4.cell 1;have e2:=K4.cell 2;simp at r0 r2 n0 n1 n2 e0 e1 e2;have f0:=K4.free 0;have f1:=K4.free 1;have f2:=K4.free 2;have hl4:=K4.lt;have S:=(((K4.set 0 (Yg Yh zk)).set 1 (Yg Yh zz)).set 2 (Yi ⟨zt.toArray⟩));have s0:=S.cell 0;have s1:=S.cell 1;have s2:=S.cell 2;simp at s0 s1 s2;clear hb4 har S
        try unfold vV)
      |(go_at_call 147
        refine(HB.o _ (show bA (abA _) sv cs from HC2.o) HW2.o.drew).mono ?_;rintro x w3 ⟨hb3,hx3⟩;have HB3:=hd (HB2.o.drew.trans (hb3.mono HB2.o.size));have K3:=HK2.o.drew.below hb3 HK2.o.lt;have N3:=HN2.o.drew.below hb3 HN2.o.lt;have L3:=HL2.o.drew.below hb3 HL2.o.lt;rcases hvb:acn cs row b with c|u
        · rw[hvb]at hx3 HV;obtain rfl:=hx3;exact⟨rfl,HB3.o,by rw[HV.o];rfl⟩
        have hf2:=HFB.o u hvb;rw[hvb]at hx3 HV;obtain rfl:=hx3;have q0:=N3.cell 0;have q2:=N3.cell 2;have m0:=L3.cell 0;have m1:=L3.cell 1;have m2:=L3.cell 2;simp at q0 q2 m0 m1 m2
        clear HB hb3 hvb HFB))
  all_goals
   go_wp2_with fail;refine aaU (v:=Yj #[Yg Yh zk,Yg Yh zz,Yi ⟨zt.toArray⟩]) (by simp[aaW,ack,go_sem,s0,s1,s2]) rfl ?_;refine⟨((HB4.o.setCell (p:=⟨w.heap.size,0,Y1⟩) (by simp) _).setCell (p:=⟨w.heap.size,1,Y1⟩) (by simp) _).setCell (p:=⟨w.heap.size,2,Y1⟩) (by simp) _,?_⟩;rw[HV.o];rfl
end Mn
namespace Mg
theorem LQ(cs:ay)(n:Y6):decide (0<=iN cs n)=(place cs n).isSome:=by
 unfold iN
 cases place cs n with
 |none=>rfl
 |some i=>simp
end Mg
namespace Mn
theorem Lj(cs:abS)(hn:cs.length<=1000)(sv:Y3)(e:ZU):∀(w:Y4),bA w sv cs->aaT Zc 143 #[sv,ev e] w fun x w'=>x=Yl (.bool (acm cs e))/\aaS w.heap.size w w':=by
 induction e with
 |null=>
  intro w hC;clear hC;have a1:=qN;have a2:=nN;have a3:=nu;unfold ev;go_enter aco,acp;go_wp2_with fail;go_ret;exact⟨rfl,by go_grown⟩
 |bool z=>
  intro w hC;clear hC;have a1:=I9 (.bool z);have a2:=GH (.bool z);have a3:=DI (.bool z);unfold ev;go_enter aco,acp;go_wp2_with fail;go_ret;exact⟨rfl,by go_grown⟩
 |num z=>
  intro w hC;clear hC;have a1:=CZ (Yg Yh z);have a2:=Az (Yg Yh z);have a3:=yH (Yg Yh z);unfold ev;go_enter aco,acp;go_wp2_with fail;go_ret;exact⟨rfl,by go_grown⟩
 |str z=>
  intro w hC;clear hC;have a1:=CG (Yi ⟨z.toArray⟩);have a2:=Au (Yi ⟨z.toArray⟩);have a3:=zJ (Yi ⟨z.toArray⟩);unfold ev;go_enter aco,acp;go_wp2_with fail;go_ret;exact⟨rfl,by go_grown⟩
 |nm s=>
  intro w hC;have a1:=rC (Yi ⟨s.toArray⟩)
  have HB0:Yf (aaS w.heap.size w (w.alloc (Yk #[Yi ⟨s.toArray⟩] 271))):=by show aaS _ _ _;go_grown
  have HP:=hd (uS cs s sv _ hn (hC.below HB0.o));have hge:=Mg.LQ cs s;clear hC;unfold ev;go_enter aco,acp;go_wp2_with fail;refine HP.o.mono ?_;rintro x w1 ⟨rfl,hb⟩;have HB1:Yf (aaS w.heap.size w w1):=HB0.o.trans (hb.mono HB0.o.size);clear hb HP
  have HGE:Yf (acm cs (.nm s)=decide (0<=Mg.iN cs s)):=by show _=_;rw[hge];rfl
  clear hge;generalize Mg.iN cs s=z at*;go_wp2_with fail;go_ret;exact⟨by rw[HGE.o];rfl,HB1.o⟩
 |un k a iha=>
  intro w hC;obtain⟨et,ex,hea⟩:=jc a;have HC:=hd hC;have hA:=iha;rw[hea]at hA;have HA:=hd hA;have a1:=pg (Yg Yh (k:Int)) (Yo et ex);have a2:=mU (Yg Yh (k:Int)) (Yo et ex);have HKN:Yf (acm cs (.un k a)=acm cs a):=rfl;unfold ev;rw[hea];clear hA hea iha hC
  have HB0:Yf (aaS w.heap.size w (w.alloc (Yk #[Yg Yh (k:Int),Yo et ex] 292))):=by show aaS _ _ _;go_grown
  have HC0:=hd (HC.o.below HB0.o);generalize acm cs (.un k a)=ra at*;generalize acm cs a=rb at*;go_enter aco,acp;go_wp2_with fail;refine(HA.o _ HC0.o).mono ?_;rintro x w1 ⟨rfl,hb⟩;have HB1:Yf (aaS w.heap.size w w1):=HB0.o.trans (hb.mono HB0.o.size);clear hb;go_wp2_with fail;go_ret;exact⟨by rw[HKN.o];rfl,HB1.o⟩
 |bin k a b iha ihb=>
  intro w hC;obtain⟨et,ex,hea⟩:=jc a;obtain⟨ft,fx,heb⟩:=jc b;have HC:=hd hC;have hA:=iha;have hB:=ihb;rw[hea]at hA;rw[heb]at hB;have HA:=hd hA;have HB:=hd hB;have a1:=ng (Yg Yh (k:Int)) (Yo et ex) (Yo ft fx);have a2:=lS (Yg Yh (k:Int)) (Yo et ex) (Yo ft fx);have a3:=kG (Yg Yh (k:Int)) (Yo et ex) (Yo ft fx);have HKN:Yf (acm cs (.bin k a b)=(acm cs a&&acm cs b)):=rfl;unfold ev;rw[hea,heb];clear hA hB hea heb iha ihb hC
  have HB0:Yf (aaS w.heap.size w (w.alloc (Yk #[Yg Yh (k:Int),Yo et ex,Yo ft fx] 294))):=by show aaS _ _ _;go_grown
  have HC0:=hd (HC.o.below HB0.o);have HK0:=hd (ae.new w #[Yg Yh (k:Int),Yo et ex,Yo ft fx] 294);have hl0:=HK0.o.lt;generalize acm cs (.bin k a b)=r at*;generalize acm cs a=ra at*;generalize acm cs b=rb at*;go_enter aco,acp;go_wp2_with fail;refine(HA.o _ HC0.o).mono ?_;rintro x w1 ⟨rfl,hb⟩;have HB1:Yf (aaS w.heap.size w w1):=HB0.o.trans (hb.mono HB0.o.size);have HC1:=hd (HC0.o.below hb);have K1:=HK0.o.below hb hl0;have b2:=K1.cell 2;simp at b2;have hl1:=K1.lt;clear hb K1
  cases ra
  · go_wp2_with fail;go_ret;exact⟨by rw[HKN.o];rfl,HB1.o⟩
  go_wp2_with fail;refine(HB.o _ HC1.o).mono ?_;rintro x w2 ⟨rfl,hb⟩;have HB2:Yf (aaS w.heap.size w w2):=HB1.o.trans (hb.mono HB1.o.size);clear hb;go_wp2_with fail;go_ret;exact⟨by rw[HKN.o];rfl,HB2.o⟩
end Mn
namespace Mn
def JY(w:Y4)(r:Except Nat Nat)(x:Ending)(w':Y4):Prop:=aaS w.heap.size w w'/\match r with
 |.ok t=>x=Yl (Yg Yh (t:Int))
 |.error c=>x=lL 0 c
theorem FU(a b:Nat)(w:Y4):aaT Zc 144 #[Yg Yh (a:Int),Yg Yh (b:Int)] w fun x w'=>x=Yl (.bool (acr a b))/\w'=w:=by
 unfold acr
 cases h1:(a==b)
 · have e1:((a:Int)==(b:Int))=false:=by simp at h1⊢;omega
   cases h2:(a==0)
   · have e2:((a:Int)==0)=false:=by simp at h2⊢;omega
     cases h3:(b==0)
     · have e3:((b:Int)==0)=false:=by simp at h3⊢;omega
       go_enter acs,acu;go_wp2_with fail;go_ret;exact⟨rfl,rfl⟩
     have e3:((b:Int)==0)=true:=by simp at h3⊢;omega
     go_enter acs,acu;go_wp2_with fail;go_ret;exact⟨rfl,rfl⟩
   have e2:((a:Int)==0)=true:=by simp at h2⊢;omega
   go_enter acs,acu;go_wp2_with fail;go_ret;exact⟨rfl,rfl⟩
 have e1:((a:Int)==(b:Int))=true:=by simp at h1⊢;omega
 go_enter acs,acu;go_wp2_with fail;go_ret;exact⟨rfl,rfl⟩
theorem uY(t:Nat)(os:List Nat)(g cap n:Nat)(w:Y4)(hn:os.length=n)(hn2:n<=2)(hg:g<w.heap.size)(hc:∀(k:Nat) (hk:k<os.length),w.cell? ⟨g,k,Y1⟩=Y2 (Yg Yh (os[k]:Int))):
   aaT Zc 253 #[Yg Yh (t:Int),Yp (Y2 ⟨g,0,Y1⟩) n cap] w (JY w (acv t os)):=by
 have HC:=hd hc;have HN:=hd hn;clear hc hn;go_enter Tryz.func253,Tryz.ntmps253;go_wp2_with fail;go_loopw [9] (fun i wr=>∃k:Nat,k<=n/\i=Yg Yh k/\Yf (∀(j:Nat) (hj:j<os.length),j<k->acr t os[j]=true)/\wr=w) (fun i _=>n-(intOf i).toNat)
 case atStart=>exact⟨0,by omega,rfl,fun j _ h=>absurd h (by omega),rfl⟩
 case round=>
  obtain⟨k,hk,rfl,HF,rfl⟩:=hrel;by_cases hlt:k<n
  · have hkl:k<os.length:=by rw[HN.o];exact hlt
    have c:=HC.o k hkl;have HKL:=hd hkl
    have HX:Yf (∀o,os[k]=o->acr t o=true->∀(j:Nat) (hj:j<os.length),j<k+1->acr t os[j]=true):=fun o h1 h2 j hj hjk=>by
     rcases acg (ach hjk)with h3|h3
     · exact HF.o j hj h3
     subst h3;subst h1;exact h2
    have HY:Yf (∀o,os[k]=o->acr t o=false->acv t os=.error 10):=fun o h1 h2=>by
     unfold acv;rw[if_neg];intro h3;subst h1;have:=List.all_eq_true.1 h3 _ (acw hkl);exact Bool.noConfusion (h2.symm.trans this)
    generalize os[k]=ok at*;go_wp2_with fail;refine(FU t ok _).mono ?_;rintro x w1 ⟨rfl,rfl⟩
    cases hfit:acr t ok
    · have HE:=hd (HY.o ok rfl hfit);go_wp2_with fail;refine(nD 10 _).mono ?_;rintro x w2 ⟨rfl,hb⟩;exact⟨rfl,hb,by rw[HE.o];rfl⟩
    have HF1:=hd (HX.o ok rfl hfit);go_wp2_with fail;refine(bD _ _).mono ?_;rintro x w2 ⟨rfl,rfl⟩;go_wp2_with fail;go_roundw
    case rel=>exact⟨k+1,by omega,by go_num,HF1,by first|rfl|trivial⟩
    case measure=>simp[intOf];omega
  have HE:Yf (acv t os=.ok t):=by
   show _=_;unfold acv;rw[if_pos]
   refine List.all_eq_true.2 fun x hx=> ?_
   obtain⟨j,hj,rfl⟩:=List.getElem_of_mem hx;exact HF.o j hj (by have:=HN.o;omega)
  go_wp2_with fail;go_ret;exact⟨Zh _ _,by rw[HE.o];rfl⟩
theorem GA(w:Y4)(a:Nat):∀(k:Nat) (hk:k<[a].length),(w.alloc (Yk #[Yg Yh (a:Int)] 3)).cell? ⟨w.heap.size,k,Y1⟩=Y2 (Yg Yh (([a][k]:Nat):Int)):=by
 intro k hk
 have:k=0:=by simp at hk;omega
 subst this;rw[(ae.new w _ _).cell];rfl
theorem Qh(w:Y4)(a b:Nat):∀(k:Nat) (hk:k<[a,b].length),(w.alloc (Yk #[Yg Yh (a:Int),Yg Yh (b:Int)] 3)).cell? ⟨w.heap.size,k,Y1⟩=Y2 (Yg Yh (([a,b][k]:Nat):Int)):=by
 intro k hk;rw[(ae.new w _ _).cell];rcases(show k=0\/k=1 by simp at hk;omega)with rfl|rfl<;>rfl
theorem wM(k t:Nat)(w:Y4)(hk:19<=k/\k<=22):aaT Zc 195 #[Yg Yh (k:Int),Yg Yh (t:Int)] w (JY w (acx k t)):=by
 have HB:=hd (ae.new w #[Yg Yh (t:Int)] 3)
 have HG:Yf (aaS w.heap.size w (w.alloc (Yk #[Yg Yh (t:Int)] 3))):=by show aaS _ _ _;go_grown
 have H1:=hd (fun t'=>uY t' [t] w.heap.size 1 1 _ rfl (by omega) HB.o.lt (GA w t));unfold acx;rcases(show k=19\/k=20\/(k=21\/k=22) by omega)with rfl|rfl|h
 · rw[if_pos rfl];have HA:=hd (H1.o 1);generalize acv 1 [t]=r at*;go_enter acy,acz;go_wp2_with fail;refine HA.o.mono ?_;rintro x w1 ⟨hb,hx⟩;have HB1:=hd (HG.o.trans (hb.mono HG.o.size));have HX:=hd hx
   cases r with
   |error c=>
    obtain rfl:=HX.o;exact⟨rfl,HB1.o,rfl⟩
   |ok z=>
    obtain rfl:=HX.o;go_wp2_with fail;go_ret;exact⟨HB1.o,rfl⟩
 · rw[if_neg (by decide),if_pos rfl];have HA:=hd (H1.o 3);generalize acv 3 [t]=r at*;go_enter acy,acz;go_wp2_with fail;refine HA.o.mono ?_;rintro x w1 ⟨hb,hx⟩;have HB1:=hd (HG.o.trans (hb.mono HG.o.size));have HX:=hd hx
   cases r with
   |error c=>
    obtain rfl:=HX.o;exact⟨rfl,HB1.o,rfl⟩
   |ok z=>
    obtain rfl:=HX.o;go_wp2_with fail;go_ret;exact⟨HB1.o,rfl⟩
 rw[if_neg (by omega),if_neg (by omega)];rcases h with rfl|rfl
 all_goals
  go_enter acy,acz;go_wp2_with fail;go_ret;exact⟨Zh _ _,rfl⟩
theorem uJ(k a b:Nat)(w:Y4)(hk:23<=k/\k<=36):aaT Zc 196 #[Yg Yh (k:Int),Yg Yh (a:Int),Yg Yh (b:Int)] w (JY w (acA k a b)):=by
 have HB:=hd (ae.new w #[Yg Yh (a:Int),Yg Yh (b:Int)] 3)
 have HG:Yf (aaS w.heap.size w (w.alloc (Yk #[Yg Yh (a:Int),Yg Yh (b:Int)] 3))):=by show aaS _ _ _;go_grown
 have H2:=hd (fun t'=>uY t' [a,b] w.heap.size 2 2 _ rfl (by omega) HB.o.lt (Qh w a b));have HB':=hd (ae.new w #[Yg Yh (b:Int)] 3)
 have HG':Yf (aaS w.heap.size w (w.alloc (Yk #[Yg Yh (b:Int)] 3))):=by show aaS _ _ _;go_grown
 have H1:=hd (uY a [b] w.heap.size 1 1 _ rfl (by omega) HB'.o.lt (GA w b));rcases(show(k=23\/k=24\/k=31\/k=32\/k=33\/k=34\/k=35\/k=36)\/(k=25\/k=26\/k=27\/k=28\/k=29\/k=30) by omega)with h|h
 · obtain⟨t,ht⟩:∃t,acA k a b=acv t [a,b]/\t=if k=23\/k=24 then 3 else if k=31 then 2 else 1:=by
    rcases h with rfl|rfl|rfl|rfl|rfl|rfl|rfl|rfl
    all_goals exact⟨_,rfl,rfl⟩
   rw[ht.1];have hte:=ht.2;clear ht H1 HB' HG';have HA:=hd (H2.o t);clear H2;generalize acv t [a,b]=r at*;rcases h with rfl|rfl|rfl|rfl|rfl|rfl|rfl|rfl
   all_goals
    simp at hte;subst hte;go_enter acB,acC;go_wp2_with fail;refine HA.o.mono ?_;rintro x w1 ⟨hb,hx⟩;have HB1:=hd (HG.o.trans (hb.mono HG.o.size));have HX:=hd hx;clear hb hx
    cases r with
    |error c=>
     obtain rfl:=HX.o;exact⟨rfl,HB1.o,rfl⟩
    |ok z=>
     obtain rfl:=HX.o;go_wp2_with fail;go_ret;exact⟨HB1.o,rfl⟩
 unfold acA;rw[if_neg (by omega),if_neg (by omega),if_neg (by omega)];generalize acv a [b]=r at*;rcases h with rfl|rfl|rfl|rfl|rfl|rfl
 all_goals
  go_enter acB,acC;go_wp2_with fail;refine H1.o.mono ?_;rintro x w1 ⟨hb,hx⟩;have HB1:=hd (HG'.o.trans (hb.mono HG'.o.size));have HX:=hd hx
  cases r with
  |error c=>
   obtain rfl:=HX.o;exact⟨rfl,HB1.o,rfl⟩
  |ok z=>
   obtain rfl:=HX.o;go_wp2_with fail;go_ret;exact⟨HB1.o,rfl⟩
end Mn
namespace Mg
def fF(cs:ay):Prop:=cs.length<=1000/\∀c∈cs,c.2=1\/c.2=2\/c.2=3\/c.2=5\/c.2=6\/c.2=7
end Mg
namespace Mn
theorem bA.drew{cs:abS}(h:bA w v cs):bA w.drew v cs:=h
theorem PH(cs:abS)(hcs:Mg.fF cs)(sv:Y3)(e:ZU):e.ok 2000->acm cs e=true->∀(w:Y4),bA w sv cs->aaT Zc 145 #[sv,ev e] w (JY w (acD cs e)):=by
 induction e with
 |null=>
  intro _ _ w hC;clear hC;have a1:=yF;have a2:=sK;have a3:=ui;have a4:=qN;have a5:=nN;have a6:=nu;unfold ev;go_enter acE,acF;go_wp2_with fail;go_ret;exact⟨by go_grown,rfl⟩
 |bool z=>
  intro _ _ w hC;clear hC;have a1:=rF (.bool z);unfold ev;go_enter acE,acF;go_wp2_with fail;go_ret;exact⟨by go_grown,rfl⟩
 |num z=>
  intro _ _ w hC;clear hC;have a1:=rT (Yg Yh z);have a2:=oI (Yg Yh z);unfold ev;go_enter acE,acF;go_wp2_with fail;go_ret;exact⟨by go_grown,rfl⟩
 |str z=>
  intro _ _ w hC;clear hC;have a1:=uw (Yi ⟨z.toArray⟩);have a2:=oC (Yi ⟨z.toArray⟩);have a3:=nO (Yi ⟨z.toArray⟩);unfold ev;go_enter acE,acF;go_wp2_with fail;go_ret;exact⟨by go_grown,rfl⟩
 |nm s=>
  intro _ hkn w hC;obtain⟨i,hi⟩:∃i,acf cs s=Y2 i:=Option.isSome_iff_exists.1 hkn;have hil:=Mg.yR hi;have a1:=xV (Yi ⟨s.toArray⟩);have a2:=sH (Yi ⟨s.toArray⟩);have a3:=tQ (Yi ⟨s.toArray⟩);have a4:=rC (Yi ⟨s.toArray⟩)
  have HB0:Yf (aaS w.heap.size w (w.alloc (Yk #[Yi ⟨s.toArray⟩] 271))):=by show aaS _ _ _;go_grown
  have HC0:=hd (hC.below HB0.o);have HP:=hd (uS cs s sv _ hcs.1 HC0.o)
  have hpi:Mg.iN cs s=(i:Int):=by unfold Mg.iN;rw[hi]
  rw[hpi]at HP
  have HT:Yf (acD cs (.nm s)=.ok (cs[i].2%4)):=by
   show _=_;simp only[acD,hi];rw[YP hil]
   rfl
  have hty:=hcs.2 _ (acw hil);obtain⟨ao,cap,rfl,hK⟩:=hC;obtain⟨g,rfl,hg,c0,c1⟩:=hK i hil;have hin:i<cs.length:=hil
  have i1:(i:Int)<(cs.length:Int):=by omega
  have i2:(0:Int)<=(i:Int):=by omega
  have hcl:=hcs.1;generalize cs[i].2=ct at*;clear hkn hK hpi hi HC0 c0 hil;generalize cs.length=cl at*;unfold ev;go_enter acE,acF;go_wp2_with fail;refine HP.o.mono ?_;rintro x w1 ⟨rfl,hb⟩;have HB1:Yf (aaS w.heap.size w w1):=HB0.o.trans (hb.mono HB0.o.size);have d1:=(HB1.o.cell (p:=⟨g,i*2+1,Y1⟩) hg).trans c1;have hg1:=nlA hg HB1.o.size;clear hb HP c1;rcases hty with rfl|rfl|rfl|rfl|rfl|rfl
  all_goals
   go_wp2_with fail;go_ret;exact⟨HB1.o,by rw[HT.o];rfl⟩
 |un k a iha=>
  intro hop hkn w hC;obtain⟨et,ex,hea⟩:=jc a;have HC:=hd hC;have hA:=iha hop.2.2.2 hkn;rw[hea]at hA;have HA:=hd hA;have HU:=hd (fun t w=>wM k t w ⟨hop.1,hop.2.1⟩);have a1:=vT (Yg Yh (k:Int)) (Yo et ex);have a2:=qA (Yg Yh (k:Int)) (Yo et ex);have a3:=qg (Yg Yh (k:Int)) (Yo et ex);have a4:=pg (Yg Yh (k:Int)) (Yo et ex);have a5:=mU (Yg Yh (k:Int)) (Yo et ex)
  have HV:Yf (acD cs (.un k a)=match acD cs a with
   |.error c=> .error c
   |.ok t=>acx k t):=rfl
  unfold ev;rw[hea];clear hA hea iha hC hop hkn
  have HB0:Yf (aaS w.heap.size w (w.alloc (Yk #[Yg Yh (k:Int),Yo et ex] 292))):=by show aaS _ _ _;go_grown
  have HC0:=hd (HC.o.below HB0.o);have HN0:=hd (ae.new w #[Yg Yh (k:Int),Yo et ex] 292);have hl0:=HN0.o.lt;go_enter acE,acF;go_wp2_with fail
  go_region_with (first
   |(go_at_call 195
     refine(HU.o t _).mono ?_;rintro x w2 ⟨hb2,hx2⟩;have HB2:=hd (HB1.o.trans (hb2.mono HB1.o.size));rcases hty:acx k t with c|z
     · rw[hty]at hx2 HV;obtain rfl:=hx2;exact⟨rfl,HB2.o,by rw[HV.o];rfl⟩
     rw[hty]at hx2 HV;obtain rfl:=hx2
     clear hb2 hty)
   |(go_at_call 145
     refine(HA.o _ HC0.o.drew).mono ?_;rintro x w1 ⟨hb1,hx1⟩;have HB1:=hd (HB0.o.drew.trans (hb1.mono HB0.o.size));have N1:=HN0.o.drew.below hb1 hl0;rcases hta:acD cs a with c|t
     · rw[hta]at hx1 HV;obtain rfl:=hx1;exact⟨rfl,HB1.o,by rw[HV.o];rfl⟩
     rw[hta]at hx1 HV;obtain rfl:=hx1;have q0:=N1.cell 0;have q1:=N1.cell 1;simp at q0 q1
     clear hb1 hta))
  all_goals
   go_wp2_with fail;go_ret;exact⟨HB2.o,by rw[HV.o];rfl⟩
 |bin k a b iha ihb=>
  intro hop hkn w hC;obtain⟨et,ex,hea⟩:=jc a;obtain⟨ft,fx,heb⟩:=jc b;have HC:=hd hC
  have hkk:acm cs a=true/\acm cs b=true:=by simpa[acm]using hkn
  have hA:=iha hop.2.2.1 hkk.1;have hB:=ihb hop.2.2.2 hkk.2;rw[hea]at hA;rw[heb]at hB;have HA:=hd hA;have HB:=hd hB;have HU:=hd (fun t u w=>uJ k t u w ⟨hop.1,hop.2.1⟩);have a1:=sJ (Yg Yh (k:Int)) (Yo et ex) (Yo ft fx);have a2:=pI (Yg Yh (k:Int)) (Yo et ex) (Yo ft fx);have a3:=oL (Yg Yh (k:Int)) (Yo et ex) (Yo ft fx);have a4:=ng (Yg Yh (k:Int)) (Yo et ex) (Yo ft fx);have a5:=lS (Yg Yh (k:Int)) (Yo et ex) (Yo ft fx);have a6:=kG (Yg Yh (k:Int)) (Yo et ex) (Yo ft fx)
  have HV:Yf (acD cs (.bin k a b)=match acD cs a with
   |.error c=> .error c
   |.ok t=>match acD cs b with
    |.error c=> .error c
    |.ok u=>acA k t u):=rfl
  unfold ev;rw[hea,heb];clear hA hB hea heb iha ihb hC hop hkn hkk
  have HB0:Yf (aaS w.heap.size w (w.alloc (Yk #[Yg Yh (k:Int),Yo et ex,Yo ft fx] 294))):=by show aaS _ _ _;go_grown
  have HC0:=hd (HC.o.below HB0.o);have HN0:=hd (ae.new w #[Yg Yh (k:Int),Yo et ex,Yo ft fx] 294);have hl0:=HN0.o.lt;go_enter acE,acF;go_wp2_with fail
  go_region_with (first
   |(go_at_call 196
     refine(HU.o t u _).mono ?_;rintro x w3 ⟨hb3,hx3⟩;have HB3:=hd (HB2.o.trans (hb3.mono HB2.o.size));rcases hty:acA k t u with c|z
     · rw[hty]at hx3 HV;obtain rfl:=hx3;exact⟨rfl,HB3.o,by rw[HV.o];rfl⟩
     rw[hty]at hx3 HV;obtain rfl:=hx3
     clear hb3 hty)
   |(go_at_call 145
     refine(HA.o _ HC0.o.drew).mono ?_;rintro x w1 ⟨hb1,hx1⟩;have HB1:=hd (HB0.o.drew.trans (hb1.mono HB0.o.size));have HC1:=hd (HC0.o.drew.below hb1);have N1:=HN0.o.drew.below hb1 hl0;rcases hta:acD cs a with c|t
     · rw[hta]at hx1 HV;obtain rfl:=hx1;exact⟨rfl,HB1.o,by rw[HV.o];rfl⟩
     rw[hta]at hx1 HV;obtain rfl:=hx1;have q0:=N1.cell 0;have q1:=N1.cell 1;have q2:=N1.cell 2;simp at q0 q1 q2
     clear hb1 hta HA)
   |(go_at_call 145
     refine(HB.o _ HC1.o).mono ?_;rintro x w2 ⟨hb2,hx2⟩;have HB2:=hd (HB1.o.trans (hb2.mono HB1.o.size));have N2:=N1.below hb2 N1.lt;rcases htb:acD cs b with c|u
     · rw[htb]at hx2 HV;obtain rfl:=hx2;exact⟨rfl,HB2.o,by rw[HV.o];rfl⟩
     rw[htb]at hx2 HV;obtain rfl:=hx2;have s0:=N2.cell 0;have s1:=N2.cell 1;have s2:=N2.cell 2;simp at s0 s1 s2
     clear hb2 htb HB))
  all_goals
   go_wp2_with fail;go_ret;exact⟨HB3.o,by rw[HV.o];rfl⟩
end Mn
namespace Mn
theorem Hr.of{v:abZ}(h:Mg.G5 v):Hr v:=by
 rcases h.kind with k|k|k|k
 · obtain⟨h1,h2⟩:=h.null k;exact⟨by omega,by rw[h2];simp⟩
 · obtain⟨h1,h2⟩:=h.truth k;exact⟨by omega,by rw[h2];simp⟩
 · obtain⟨h1,h2⟩:=h.num k;exact⟨h1,by rw[h2];simp⟩
 obtain⟨h1,h2⟩:=h.text k;exact⟨by omega,by omega⟩
theorem BI(cs:abS)(hcs:Mg.fF cs)(row:List abZ)(hr:Mg.jB cs row)(sv rv:Y3)(e:ZU):∀(t:Nat),e.ok 2000->acm cs e=true->acD cs e=.ok t->∀(w:Y4),bA w sv cs->fI w rv row->aaT Zc 147 #[sv,ev e,rv] w (jA w (acn cs row e)):=by
 induction e with
 |null=>intro t _ _ _ w _ _;exact Ip sv rv w
 |bool b=>
  intro t _ _ _ w _ _
  cases b
  · exact Fh sv rv w
  exact GV sv rv w
 |num z=>intro t _ _ _ w _ _;exact Kr z sv rv w
 |str s=>intro t _ _ _ w _ _;exact LY s sv rv w
 |nm s=>intro t _ hk _ w hC hR;exact PX cs hcs.1 row hr.len s hk sv rv w hC hR
 |un k a iha=>
  intro t he hk ht w hC hR
  cases hta:acD cs a with
  |error c=>simp only[acD,hta]at ht;cases ht
  |ok ta=>exact MJ cs row k a ⟨he.1,he.2.1⟩ sv rv (iha ta he.2.2.2 hk hta) (fun v hv=>(Hr.of (acG hr a ta v he.2.2.2 hta hv).1).1) w hC hR
 |bin k a b iha ihb=>
  intro t he hk ht w hC hR
  have hkk:acm cs a=true/\acm cs b=true:=by simpa[acm]using hk
  cases hta:acD cs a with
  |error c=>simp only[acD,hta]at ht;cases ht
  |ok ta=>
   cases htb:acD cs b with
   |error c=>simp only[acD,hta,htb]at ht;cases ht
   |ok tb=>
    exact Kv cs row k a b ⟨he.1,he.2.1⟩ sv rv (iha ta he.2.2.1 hkk.1 hta) (ihb tb he.2.2.2 hkk.2 htb) (fun v hv=>Hr.of (acG hr a ta v he.2.2.1 hta hv).1) (fun v hv=>Hr.of (acG hr b tb v he.2.2.2 htb hv).1) w hC hR
end Mn
end Go.Proofs.YthhhfcdakfbpkaaGreatDoor
