/- Parts of the proof -/
import Derived.Test.YthhhfcdakfbpkaaGreatDoorP14
import Derived.Test.YthhhfcdakfbpkaaGreatDoorP2
import Derived.Recover
import Derived.Defers
namespace Go.Proofs.YthhhfcdakfbpkaaGreatDoor
set_option linter.unusedSimpArgs false
set_option linter.unusedVariables false
set_option maxRecDepth 100000
set_option maxHeartbeats 16000000
open Go.RowKit
variable {B N j k st:Nat}{w w':World}{s:ByteArray}
theorem tL:∀(l:List (Px.E×Bool)),(l.map (·.1)).any dV=l.any wT
 |[]=>rfl
 |r::l=>by
  rw[List.map_cons,List.any_cons,List.any_cons,tL l]
  rfl
theorem qd:∀(l:List (Option Px.E)),(l.filterMap id).any dV=l.any fF
 |[]=>rfl
 |none::l=>by
  show(l.filterMap id).any dV=(false||l.any fF);rw[qd l];rfl
 |some e::l=>by
  show(dV e||(l.filterMap id).any dV)=(dV e||l.any fF);rw[qd l]
theorem dw(i:List (Option Px.E))(t:Lx.Bs)(o:Option Px.E)(r:List (Px.E×Bool))(l:Option Nat)(dp:Bool):(aS (.select i t o r l)||dp)=(r.any wT||(fF o||(i.any fF||dp))):=by
 simp only[aS,Px.St.exprs,List.any_append,qd,tL,Ef]
 cases i.any fF<;>cases fF o<;>cases r.any wT<;>rfl
theorem lL{sz:Nat}{q:List Lx.Tok}{r:Px.iq Nat}(hs:Px.sees Px.jc q=true)(h:yw sz 1000000000 q.tail r):Px.zy sz q (Px.mapR some r):=by
 unfold Px.zy;rw[if_pos hs]
 have hl:Px.limit sz q.tail=some r:=by
  unfold yw at h
  cases hq:q.tail with
  |nil=>rw[hq]at h;simp only at h;subst h;rfl
  |cons t p=>
   rw[hq]at h;simp only at h;subst h;simp only[Px.limit]
   split
   · rfl
   split<;>rfl
 match r,hl with
 |.error e,hl=>exact Px.Rg.err hl
 |.ok (n,p),hl=>exact Px.Rg.go hl rfl
theorem zT{sz:Nat}{q:List Lx.Tok}(hs:Px.sees Px.jc q=false):Px.zy sz q (.ok (none,q)):=by
 unfold Px.zy;rw[if_neg (by simp[hs])]
theorem rf(B:Nat)(lv:Value)(ts:List Lx.Tok)(sz:Nat)(dp:Bool)(w:World)(q:List Lx.Tok)(h:Cx w B lv ts sz q dp):
   Calls Tryz.prog 61 #[.pointer (some ⟨B,0,none⟩)] w (ah w B lv ts sz dp (Px.zQ sz) q (xg B 109) aS):=by
 have hmf:∀(fn:Fn) (first cap:Array Value) (w:World),(Instr.makeFunc fn first cap).run Tryz.prog w=.ok (.func fn first cap) w:=fun _ _ _ _=>rfl
 have HX:=hd h;have hlt:=h.lt;have HB0:Hid (Below w.heap.size w (w.alloc (.cells #[.slice none 0 0,.string ⟨#[]⟩,.nilIface,.slice none 0 0,.bool false,.int .i64 0] 109))):=(Below.refl _ _).alloc (nlr _) _;have HKR:=hd (af.new w #[.slice none 0 0,.string ⟨#[]⟩,.nilIface,.slice none 0 0,.bool false,.int .i64 0] 109);clear h;go_enter Tryz.func61,Tryz.ntmps61;go_wp2_with fail;refine(uI B lv ts sz dp _ q (HX.out.below HB0.out)).mono ?_;rintro x w1 ho;obtain⟨hg,⟨p,c,hr,rfl⟩|⟨its,q1,v,hr,rfl,hv,hx⟩⟩:=ho.cases
 · exact⟨rfl,ah.err (av (Below.grownBy HB0.out) hg) (Px.Rg.err hr)⟩
 have HR1:=hd hr;obtain⟨ao,m,cp,rfl⟩:=Ev hv
 have Lv:w.heap.size<w1.heap.size:=by have:=hg.size;simp only[World.size_alloc]at this;omega
 have HX1:=hd (Cx.below (w':=w1.alloc (.cells #[.slice ao m cp,.string ⟨#[]⟩,.nilIface,.slice none 0 0,.bool false,.int .i64 0] 109)) hx ((Below.refl _ _).alloc (nlr _) _));have HG1:=hd (qE (av (Below.grownBy HB0.out) hg) (.cells #[.slice ao m cp,.string ⟨#[]⟩,.nilIface,.slice none 0 0,.bool false,.int .i64 0] 109));have HK1:=hd ((HKR.out.grown hg (by omega)).alloc (.cells #[.slice ao m cp,.string ⟨#[]⟩,.nilIface,.slice none 0 0,.bool false,.int .i64 0] 109));have HL1:=hd (af.new w1 #[.slice ao m cp,.string ⟨#[]⟩,.nilIface,.slice none 0 0,.bool false,.int .i64 0] 109);have HV1:Hid (pE B 225 2 itemC its (.slice ao m cp) (w1.alloc (.cells #[.slice ao m cp,.string ⟨#[]⟩,.nilIface,.slice none 0 0,.bool false,.int .i64 0] 109))):=Np hv _
 have d1:¬w1.heap.size=w.heap.size:=by omega
 have d2:¬w.heap.size=w1.heap.size:=by omega
 clear hr hx hg ho HB0 HKR hv;go_wp2_with fail;refine(aY ⟨#[70,82,79,77]⟩ (w1.alloc (.cells #[.slice ao m cp,.string ⟨#[]⟩,.nilIface,.slice none 0 0,.bool false,.int .i64 0] 109)) _ (by simp) B lv ts sz q1 _ HX1.out (by simp)).mono ?_;rintro x w2 ho;obtain⟨hg,⟨p,c,hr,rfl⟩|⟨_,q2,v,hr,rfl,hv,hx⟩⟩:=ho.cases
 · exact⟨rfl,ah.err (av HG1.out hg) (Px.Rg.go HR1.out (Px.Rg.err hr))⟩
 cases hv
 have HR2:=hd hr;have HX2:Hid (Cx w2 B lv ts sz q2 (its.any fF||dp)):=hx;have HG2:=hd (av HG1.out hg);have HK2:=hd (HK1.out.grown hg (by omega));have HL2:=hd (HL1.out.grown hg (by omega));have HV2:=hd (aA HV1.out hg);clear hr hx hg ho HX1 HG1 HK1 HL1 HV1;go_wp2_with fail;refine(dz w2 B lv ts sz q2 _ HX2.out).mono ?_;rintro x w3 ho;obtain⟨hg,⟨p,c,hr,rfl⟩|⟨n,q3,v,hr,rfl,hv,hx⟩⟩:=ho.cases
 · exact⟨rfl,ah.err (av HG2.out hg) (Px.Rg.go HR1.out (Px.Rg.go HR2.out (Px.Rg.err hr)))⟩
 cases hv
 have HR3:=hd hr;have Iy:=hd (HL2.out.grown hg (by omega));have a1:w3.cell? ⟨w1.heap.size,1,none⟩=some (.string ⟨#[]⟩):=Iy.out.cell 1;have f1:=Iy.out.free 1;have HX3:=hd (Cx.far (show Cx w3 B lv ts sz q3 (its.any fF||dp)from hx) HX.out (M:=w1.heap.size) (by omega) 1 (.string ⟨n.toArray⟩));have HG3:=hd (bC (av HG2.out hg) (M:=w1.heap.size) (by omega) 1 (.string ⟨n.toArray⟩));have HK3:=hd ((HK2.out.grown hg (by omega)).far ⟨w1.heap.size,1,none⟩ (.string ⟨n.toArray⟩) d1);have HL3:Hid (af (w3.setCell ⟨w1.heap.size,1,none⟩ (.string ⟨n.toArray⟩)) w1.heap.size #[.slice ao m cp,.string ⟨n.toArray⟩,.nilIface,.slice none 0 0,.bool false,.int .i64 0] 109):=Iy.out.set 1 _;have HV3:=hd (ae (aA HV2.out hg) 1 (.string ⟨n.toArray⟩) ⟨_,_,Iy.out,by decide⟩);clear hr hx hg ho HX2 HG2 HK2 HL2 HV2 Iy;go_wp2_with fail;refine(kJ B lv ts sz _ _ q3 HX3.out).mono ?_;rintro x w4 ho;obtain⟨hg,⟨p,c,hr,rfl⟩|⟨o,q4,v,hr,rfl,hv,hx⟩⟩:=ho.cases
 · exact⟨rfl,ah.err (av HG3.out hg) (Px.Rg.go HR1.out (Px.Rg.go HR2.out (Px.Rg.go HR3.out (Px.Rg.err hr))))⟩
 have HR4:=hd hr;have HE:=hd hv
 have hv1:v=.nilIface\/∃t x,v=.iface t x:=by
  have:=ev?_one o
  rwa [<-show v=ev? o from hv]at this
 have BM:=hd (HL3.out.grown hg (by omega));have a2:w4.cell? ⟨w1.heap.size,2,none⟩=some .nilIface:=BM.out.cell 2;have f2:=BM.out.free 2;have HX40:=hd hx;have KL:=hd (av HG3.out hg);have HK40:=hd (HK3.out.grown hg (by omega));have J7:=hd (aA HV3.out hg);clear hr hx hg ho hv HX3 HG3 HK3 HL3 HV3 a1 f1;rcases hv1 with rfl|⟨et,ex,rfl⟩
 · have HX4:=hd (HX40.out.far HX.out (M:=w1.heap.size) (by omega) 2 (.nilIface));have HG4:=hd (bC KL.out (M:=w1.heap.size) (by omega) 2 (.nilIface));have HK4:=hd (HK40.out.far ⟨w1.heap.size,2,none⟩ (.nilIface) d1);have HL4:Hid (af (w4.setCell ⟨w1.heap.size,2,none⟩ (.nilIface)) w1.heap.size #[.slice ao m cp,.string ⟨n.toArray⟩,.nilIface,.slice none 0 0,.bool false,.int .i64 0] 109):=BM.out.set 2 _;have HV4:=hd (ae J7.out 2 (.nilIface) ⟨_,_,BM.out,by decide⟩);clear HX40 KL HK40 BM J7
   cases hs:Px.sees Px.qf q4 with
   |false=>
    have HRO:Hid (Px.bX sz q4 (.ok ([],q4))):=by show Px.bX _ _ _;unfold Px.bX;rw[if_neg (by simp[hs])]
    go_wp2_with fail;refine(cB ⟨#[79,82,68,69,82]⟩ _ B lv ts sz q4 _ HX4.out hs (by simp)).mono ?_;rintro x w5 ⟨rfl,hb5⟩;have HX5:=hd (HX4.out.below hb5);have HG5:=hd (av HG4.out (Below.grownBy (row:=some B) hb5));have HK5:=hd (HK4.out.below hb5 HK4.out.lt);have HL5:=hd (HL4.out.below hb5 HL4.out.lt);have HV5:Hid (pE B 225 2 itemC its (.slice ao m cp) w5):=dA HV4.out hb5;clear hb5 HX4 HG4 HK4 HL4 HV4
    cases hl:Px.sees Px.jc q4 with
    |false=>
     go_wp2_with fail;refine(cB ⟨#[76,73,77,73,84]⟩ _ B lv ts sz q4 _ HX5.out hl (by simp)).mono ?_;rintro x w9 ⟨rfl,hb9⟩;have HX9:=hd (HX5.out.below hb9);have HG9:=hd (av HG5.out (Below.grownBy (row:=some B) hb9));have HK9:=hd (HK5.out.below hb9 HK5.out.lt);have HL9:=hd (HL5.out.below hb9 HL5.out.lt);have HV9:Hid (pE B 225 2 itemC its (.slice ao m cp) w9):=dA HV5.out hb9;have jT:Hid (pE B 227 2 bq [] (.slice none 0 0) w9):=World.ownsRow_nil _ _ _ _
     have HXF:Hid (Cx w9 B lv ts sz q4 (aS (.select its n o [] none)||dp)):=by
      show Cx _ _ _ _ _ _ _;rw[dw];exact HX9.out
     clear hb9 HX9;have m0:w9.cell? ⟨w.heap.size,0,none⟩=some (.slice none 0 0):=HK9.out.cell 0;have g0:=HK9.out.free 0;have p0:w9.cell? ⟨w1.heap.size,0,none⟩=some (.slice ao m cp):=HL9.out.cell 0;have m1:w9.cell? ⟨w.heap.size,1,none⟩=some (.string ⟨#[]⟩):=HK9.out.cell 1;have g1:=HK9.out.free 1;have p1:w9.cell? ⟨w1.heap.size,1,none⟩=some (.string ⟨n.toArray⟩):=HL9.out.cell 1;have m2:w9.cell? ⟨w.heap.size,2,none⟩=some (.nilIface):=HK9.out.cell 2;have g2:=HK9.out.free 2;have p2:w9.cell? ⟨w1.heap.size,2,none⟩=some (.nilIface):=HL9.out.cell 2;have m3:w9.cell? ⟨w.heap.size,3,none⟩=some (.slice none 0 0):=HK9.out.cell 3;have g3:=HK9.out.free 3;have p3:w9.cell? ⟨w1.heap.size,3,none⟩=some (.slice none 0 0):=HL9.out.cell 3;have m4:w9.cell? ⟨w.heap.size,4,none⟩=some (.bool false):=HK9.out.cell 4;have g4:=HK9.out.free 4;have p4:w9.cell? ⟨w1.heap.size,4,none⟩=some (.bool false):=HL9.out.cell 4;have m5:w9.cell? ⟨w.heap.size,5,none⟩=some (.int .i64 0):=HK9.out.cell 5;have g5:=HK9.out.free 5;have p5:w9.cell? ⟨w1.heap.size,5,none⟩=some (.int .i64 0):=HL9.out.cell 5;go_wp2_with fail;have KF:=((((((HK9.out.set 0 (.slice ao m cp)).set 1 (.string ⟨n.toArray⟩)).set 2 (.nilIface)).set 3 (.slice none 0 0)).set 4 (.bool false)).set 5 (.int .i64 0));have e0:=KF.cell 0;have e1:=KF.cell 1;have e2:=KF.cell 2;have e3:=KF.cell 3;have e4:=KF.cell 4;have e5:=KF.cell 5;simp at e0 e1 e2 e3 e4 e5;refine bodyPost_ret (v:=.agg #[.slice ao m cp,.string ⟨n.toArray⟩,.nilIface,.slice none 0 0,.bool false,.int .i64 0]) (by simp[results,Tryz.results61,go_sem,e0,e1,e2,e3,e4,e5]) rfl ?_;refine ah.ok (a:=Px.St.select its n o [] none) (q':=q4) (bC (bC (bC (bC (bC (bC HG9.out (nlr _) 0 _) (nlr _) 1 _) (nlr _) 2 _) (nlr _) 3 _) (nlr _) 4 _) (nlr _) 5 _) (Px.Rg.go HR1.out (Px.Rg.go HR2.out (Px.Rg.go HR3.out (Px.Rg.go HR4.out (Px.Rg.go HRO.out (Px.Rg.go (zT hl) rfl)))))) ⟨.slice ao m cp,.slice none 0 0,by rw[<-show(.nilIface:Value)=ev? o from HE.out];rfl,?_,?_⟩ ((((((HXF.out.far HX.out (nlr _) 0 _).far HX.out (nlr _) 1 _).far HX.out (nlr _) 2 _).far HX.out (nlr _) 3 _).far HX.out (nlr _) 4 _).far HX.out (nlr _) 5 _)
     · have s0:=ae HV9.out 0 (.slice ao m cp) ⟨_,_,HK9.out,by decide⟩;have s1:=ae s0 1 (.string ⟨n.toArray⟩) ⟨_,_,(HK9.out.set 0 _),by decide⟩;have s2:=ae s1 2 (.nilIface) ⟨_,_,((HK9.out.set 0 _).set 1 _),by decide⟩;have s3:=ae s2 3 (.slice none 0 0) ⟨_,_,(((HK9.out.set 0 _).set 1 _).set 2 _),by decide⟩;have s4:=ae s3 4 (.bool false) ⟨_,_,((((HK9.out.set 0 _).set 1 _).set 2 _).set 3 _),by decide⟩;exact ae s4 5 (.int .i64 0) ⟨_,_,(((((HK9.out.set 0 _).set 1 _).set 2 _).set 3 _).set 4 _),by decide⟩
     have s0:=ae jT.out 0 (.slice ao m cp) ⟨_,_,HK9.out,by decide⟩;have s1:=ae s0 1 (.string ⟨n.toArray⟩) ⟨_,_,(HK9.out.set 0 _),by decide⟩;have s2:=ae s1 2 (.nilIface) ⟨_,_,((HK9.out.set 0 _).set 1 _),by decide⟩;have s3:=ae s2 3 (.slice none 0 0) ⟨_,_,(((HK9.out.set 0 _).set 1 _).set 2 _),by decide⟩;have s4:=ae s3 4 (.bool false) ⟨_,_,((((HK9.out.set 0 _).set 1 _).set 2 _).set 3 _),by decide⟩;exact ae s4 5 (.int .i64 0) ⟨_,_,(((((HK9.out.set 0 _).set 1 _).set 2 _).set 3 _).set 4 _),by decide⟩
    |true=>
     go_wp2_with fail;refine(mg ⟨#[76,73,77,73,84]⟩ _ B lv ts sz q4 _ HX5.out hl (by simp)).mono ?_;rintro x w8 ⟨rfl,hx8,hg8⟩;have HX8:=hd hx8;have HG8:=hd (av HG5.out hg8);have HK8:=hd (HK5.out.grown hg8 (by omega));have HL8:=hd (HL5.out.grown hg8 (by omega));have HV8:=hd (aA HV5.out hg8);have uB:Hid (pE B 227 2 bq [] (.slice none 0 0) w8):=World.ownsRow_nil _ _ _ _;clear hx8 hg8;go_wp2_with fail;refine(fE w8 B lv ts sz q4.tail _ HX8.out 1000000000 (by omega)).mono ?_;rintro x w9 ho;obtain⟨hg,⟨p,c,hr,rfl⟩|⟨k,q9,v,hr,rfl,hv,hx⟩⟩:=ho.cases
     · exact⟨rfl,ah.err (av HG8.out hg) (Px.Rg.go HR1.out (Px.Rg.go HR2.out (Px.Rg.go HR3.out (Px.Rg.go HR4.out (Px.Rg.go HRO.out (Px.Rg.err (lL hl hr)))))))⟩
     cases hv
     have HRL:=hd (lL hl hr);have HG9:=hd (av HG8.out hg);have HK9:=hd (HK8.out.grown hg (by omega));have HL9:=hd (HL8.out.grown hg (by omega));have HV9:=hd (aA HV8.out hg);have jT:=hd (aA uB.out hg)
     have HXF:Hid (Cx w9 B lv ts sz q9 (aS (.select its n o [] (some k))||dp)):=by
      show Cx _ _ _ _ _ _ _;rw[dw];exact hx
     have f4:=HL9.out.free 4;have f5:=HL9.out.free 5;clear hr hx hg ho HX8 HG8 HK8 HL8 HV8 uB;have m0:w9.cell? ⟨w.heap.size,0,none⟩=some (.slice none 0 0):=HK9.out.cell 0;have g0:=HK9.out.free 0;have p0:w9.cell? ⟨w1.heap.size,0,none⟩=some (.slice ao m cp):=HL9.out.cell 0;have m1:w9.cell? ⟨w.heap.size,1,none⟩=some (.string ⟨#[]⟩):=HK9.out.cell 1;have g1:=HK9.out.free 1;have p1:w9.cell? ⟨w1.heap.size,1,none⟩=some (.string ⟨n.toArray⟩):=HL9.out.cell 1;have m2:w9.cell? ⟨w.heap.size,2,none⟩=some (.nilIface):=HK9.out.cell 2;have g2:=HK9.out.free 2;have p2:w9.cell? ⟨w1.heap.size,2,none⟩=some (.nilIface):=HL9.out.cell 2;have m3:w9.cell? ⟨w.heap.size,3,none⟩=some (.slice none 0 0):=HK9.out.cell 3;have g3:=HK9.out.free 3;have p3:w9.cell? ⟨w1.heap.size,3,none⟩=some (.slice none 0 0):=HL9.out.cell 3;have m4:w9.cell? ⟨w.heap.size,4,none⟩=some (.bool false):=HK9.out.cell 4;have g4:=HK9.out.free 4;have p4:w9.cell? ⟨w1.heap.size,4,none⟩=some (.bool false):=HL9.out.cell 4;have m5:w9.cell? ⟨w.heap.size,5,none⟩=some (.int .i64 0):=HK9.out.cell 5;have g5:=HK9.out.free 5;have p5:w9.cell? ⟨w1.heap.size,5,none⟩=some (.int .i64 0):=HL9.out.cell 5;have HK9':=hd ((HK9.out.far ⟨w1.heap.size,4,none⟩ (.bool true) d1).far ⟨w1.heap.size,5,none⟩ (.int .i64 (k:Int)) d1);have Dj:=hd (bC (bC HG9.out (M:=w1.heap.size) (by omega) 4 (.bool true)) (M:=w1.heap.size) (by omega) 5 (.int .i64 (k:Int)));have HXF':=hd ((HXF.out.far HX.out (M:=w1.heap.size) (by omega) 4 (.bool true)).far HX.out (M:=w1.heap.size) (by omega) 5 (.int .i64 (k:Int)));have CV:=hd (ae (ae HV9.out 4 (.bool true) ⟨_,_,HL9.out,by decide⟩) 5 (.int .i64 (k:Int)) ⟨_,_,HL9.out.set 4 _,by decide⟩);have uD:=hd (ae (ae jT.out 4 (.bool true) ⟨_,_,HL9.out,by decide⟩) 5 (.int .i64 (k:Int)) ⟨_,_,HL9.out.set 4 _,by decide⟩);clear HK9 HG9 HXF HV9 jT;go_wp2_with fail;have KF:=((((((HK9'.out.set 0 (.slice ao m cp)).set 1 (.string ⟨n.toArray⟩)).set 2 (.nilIface)).set 3 (.slice none 0 0)).set 4 (.bool true)).set 5 (.int .i64 (k:Int)));have e0:=KF.cell 0;have e1:=KF.cell 1;have e2:=KF.cell 2;have e3:=KF.cell 3;have e4:=KF.cell 4;have e5:=KF.cell 5;simp at e0 e1 e2 e3 e4 e5;refine bodyPost_ret (v:=.agg #[.slice ao m cp,.string ⟨n.toArray⟩,.nilIface,.slice none 0 0,.bool true,.int .i64 (k:Int)]) (by simp[results,Tryz.results61,go_sem,e0,e1,e2,e3,e4,e5]) rfl ?_;refine ah.ok (a:=Px.St.select its n o [] (some k)) (q':=q9) (bC (bC (bC (bC (bC (bC Dj.out (nlr _) 0 _) (nlr _) 1 _) (nlr _) 2 _) (nlr _) 3 _) (nlr _) 4 _) (nlr _) 5 _) (Px.Rg.go HR1.out (Px.Rg.go HR2.out (Px.Rg.go HR3.out (Px.Rg.go HR4.out (Px.Rg.go HRO.out (Px.Rg.go HRL.out rfl)))))) ⟨.slice ao m cp,.slice none 0 0,by rw[<-show(.nilIface:Value)=ev? o from HE.out];rfl,?_,?_⟩ ((((((HXF'.out.far HX.out (nlr _) 0 _).far HX.out (nlr _) 1 _).far HX.out (nlr _) 2 _).far HX.out (nlr _) 3 _).far HX.out (nlr _) 4 _).far HX.out (nlr _) 5 _)
     · have s0:=ae CV.out 0 (.slice ao m cp) ⟨_,_,HK9'.out,by decide⟩;have s1:=ae s0 1 (.string ⟨n.toArray⟩) ⟨_,_,(HK9'.out.set 0 _),by decide⟩;have s2:=ae s1 2 (.nilIface) ⟨_,_,((HK9'.out.set 0 _).set 1 _),by decide⟩;have s3:=ae s2 3 (.slice none 0 0) ⟨_,_,(((HK9'.out.set 0 _).set 1 _).set 2 _),by decide⟩;have s4:=ae s3 4 (.bool true) ⟨_,_,((((HK9'.out.set 0 _).set 1 _).set 2 _).set 3 _),by decide⟩;exact ae s4 5 (.int .i64 (k:Int)) ⟨_,_,(((((HK9'.out.set 0 _).set 1 _).set 2 _).set 3 _).set 4 _),by decide⟩
     have s0:=ae uD.out 0 (.slice ao m cp) ⟨_,_,HK9'.out,by decide⟩;have s1:=ae s0 1 (.string ⟨n.toArray⟩) ⟨_,_,(HK9'.out.set 0 _),by decide⟩;have s2:=ae s1 2 (.nilIface) ⟨_,_,((HK9'.out.set 0 _).set 1 _),by decide⟩;have s3:=ae s2 3 (.slice none 0 0) ⟨_,_,(((HK9'.out.set 0 _).set 1 _).set 2 _),by decide⟩;have s4:=ae s3 4 (.bool true) ⟨_,_,((((HK9'.out.set 0 _).set 1 _).set 2 _).set 3 _),by decide⟩;exact ae s4 5 (.int .i64 (k:Int)) ⟨_,_,(((((HK9'.out.set 0 _).set 1 _).set 2 _).set 3 _).set 4 _),by decide⟩
   |true=>
    have HRO:Hid (∀r,Px.Rg.seq (Px.bG sz Px.NQ) (fun _=>Px.Sep fun _=>Px.jf sz) q4.tail r->Px.bX sz q4 r):=fun r hr=>by unfold Px.bX;rw[if_pos hs];exact hr
    go_wp2_with fail;refine(mg ⟨#[79,82,68,69,82]⟩ _ B lv ts sz q4 _ HX4.out hs (by simp)).mono ?_;rintro x w5 ⟨rfl,hx5,hg5⟩;have HX5:=hd hx5;have HG5:=hd (av HG4.out hg5);have HK5:=hd (HK4.out.grown hg5 (by omega));have HL5:=hd (HL4.out.grown hg5 (by omega));have HV5:=hd (aA HV4.out hg5);clear hx5 hg5 HX4 HG4 HK4 HL4 HV4;go_wp2_with fail;refine(aY ⟨#[66,89]⟩ w5 _ rfl B lv ts sz q4.tail _ HX5.out (by simp)).mono ?_;rintro x w6 ho;obtain⟨hg,⟨p,c,hr,rfl⟩|⟨_,q6,v,hr,rfl,hv,hx⟩⟩:=ho.cases
    · exact⟨rfl,ah.err (av HG5.out hg) (Px.Rg.go HR1.out (Px.Rg.go HR2.out (Px.Rg.go HR3.out (Px.Rg.go HR4.out (Px.Rg.err (HRO.out _ (Px.Rg.err hr)))))))⟩
    cases hv
    have HR6:=hd hr;have HX6:=hd hx;have HG6:=hd (av HG5.out hg);have HK6:=hd (HK5.out.grown hg (by omega));have HL6:=hd (HL5.out.grown hg (by omega));have HV6:=hd (aA HV5.out hg);clear hr hx hg ho HX5 HG5 HK5 HL5 HV5;go_wp2_with fail;refine(ko B lv ts sz _ w6 q6 HX6.out).mono ?_;rintro x w7 ho;obtain⟨hg,⟨p,c,hr,rfl⟩|⟨os,q7,v,hr,rfl,hv,hx⟩⟩:=ho.cases
    · exact⟨rfl,ah.err (av HG6.out hg) (Px.Rg.go HR1.out (Px.Rg.go HR2.out (Px.Rg.go HR3.out (Px.Rg.go HR4.out (Px.Rg.err (HRO.out _ (Px.Rg.go HR6.out hr)))))))⟩
    have Dm:=hd (HRO.out _ (Px.Rg.go HR6.out hr));obtain⟨bo,bm,bc,rfl⟩:=Ev hv;have pX:=hd (HL6.out.grown hg (by omega));have a3:w7.cell? ⟨w1.heap.size,3,none⟩=some (.slice none 0 0):=pX.out.cell 3;have f3:=pX.out.free 3;have HX7:=hd (hx.far HX.out (M:=w1.heap.size) (by omega) 3 (.slice bo bm bc));have HG7:=hd (bC (av HG6.out hg) (M:=w1.heap.size) (by omega) 3 (.slice bo bm bc));have HK7:=hd ((HK6.out.grown hg (by omega)).far ⟨w1.heap.size,3,none⟩ (.slice bo bm bc) d1);have HL7:Hid (af (w7.setCell ⟨w1.heap.size,3,none⟩ (.slice bo bm bc)) w1.heap.size #[.slice ao m cp,.string ⟨n.toArray⟩,.nilIface,.slice bo bm bc,.bool false,.int .i64 0] 109):=pX.out.set 3 _;have HV7:=hd (ae (aA HV6.out hg) 3 (.slice bo bm bc) ⟨_,_,pX.out,by decide⟩);have Jk:=hd (ae hv 3 (.slice bo bm bc) ⟨_,_,pX.out,by decide⟩);clear hr hx hg ho hv HX6 HG6 HK6 HL6 HV6 pX HRO HR6
    cases hl:Px.sees Px.jc q7 with
    |false=>
     go_wp2_with fail;refine(cB ⟨#[76,73,77,73,84]⟩ _ B lv ts sz q7 _ HX7.out hl (by simp)).mono ?_;rintro x w9 ⟨rfl,hb9⟩;have HX9:=hd (HX7.out.below hb9);have HG9:=hd (av HG7.out (Below.grownBy (row:=some B) hb9));have HK9:=hd (HK7.out.below hb9 HK7.out.lt);have HL9:=hd (HL7.out.below hb9 HL7.out.lt);have HV9:Hid (pE B 225 2 itemC its (.slice ao m cp) w9):=dA HV7.out hb9;have jT:Hid (pE B 227 2 bq os (.slice bo bm bc) w9):=dA Jk.out hb9
     have HXF:Hid (Cx w9 B lv ts sz q7 (aS (.select its n o os none)||dp)):=by
      show Cx _ _ _ _ _ _ _;rw[dw];exact HX9.out
     clear hb9 HX9;have m0:w9.cell? ⟨w.heap.size,0,none⟩=some (.slice none 0 0):=HK9.out.cell 0;have g0:=HK9.out.free 0;have p0:w9.cell? ⟨w1.heap.size,0,none⟩=some (.slice ao m cp):=HL9.out.cell 0;have m1:w9.cell? ⟨w.heap.size,1,none⟩=some (.string ⟨#[]⟩):=HK9.out.cell 1;have g1:=HK9.out.free 1;have p1:w9.cell? ⟨w1.heap.size,1,none⟩=some (.string ⟨n.toArray⟩):=HL9.out.cell 1;have m2:w9.cell? ⟨w.heap.size,2,none⟩=some (.nilIface):=HK9.out.cell 2;have g2:=HK9.out.free 2;have p2:w9.cell? ⟨w1.heap.size,2,none⟩=some (.nilIface):=HL9.out.cell 2;have m3:w9.cell? ⟨w.heap.size,3,none⟩=some (.slice none 0 0):=HK9.out.cell 3;have g3:=HK9.out.free 3;have p3:w9.cell? ⟨w1.heap.size,3,none⟩=some (.slice bo bm bc):=HL9.out.cell 3;have m4:w9.cell? ⟨w.heap.size,4,none⟩=some (.bool false):=HK9.out.cell 4;have g4:=HK9.out.free 4;have p4:w9.cell? ⟨w1.heap.size,4,none⟩=some (.bool false):=HL9.out.cell 4;have m5:w9.cell? ⟨w.heap.size,5,none⟩=some (.int .i64 0):=HK9.out.cell 5;have g5:=HK9.out.free 5;have p5:w9.cell? ⟨w1.heap.size,5,none⟩=some (.int .i64 0):=HL9.out.cell 5;go_wp2_with fail;have KF:=((((((HK9.out.set 0 (.slice ao m cp)).set 1 (.string ⟨n.toArray⟩)).set 2 (.nilIface)).set 3 (.slice bo bm bc)).set 4 (.bool false)).set 5 (.int .i64 0));have e0:=KF.cell 0;have e1:=KF.cell 1;have e2:=KF.cell 2;have e3:=KF.cell 3;have e4:=KF.cell 4;have e5:=KF.cell 5;simp at e0 e1 e2 e3 e4 e5;refine bodyPost_ret (v:=.agg #[.slice ao m cp,.string ⟨n.toArray⟩,.nilIface,.slice bo bm bc,.bool false,.int .i64 0]) (by simp[results,Tryz.results61,go_sem,e0,e1,e2,e3,e4,e5]) rfl ?_;refine ah.ok (a:=Px.St.select its n o os none) (q':=q7) (bC (bC (bC (bC (bC (bC HG9.out (nlr _) 0 _) (nlr _) 1 _) (nlr _) 2 _) (nlr _) 3 _) (nlr _) 4 _) (nlr _) 5 _) (Px.Rg.go HR1.out (Px.Rg.go HR2.out (Px.Rg.go HR3.out (Px.Rg.go HR4.out (Px.Rg.go Dm.out (Px.Rg.go (zT hl) rfl)))))) ⟨.slice ao m cp,.slice bo bm bc,by rw[<-show(.nilIface:Value)=ev? o from HE.out];rfl,?_,?_⟩ ((((((HXF.out.far HX.out (nlr _) 0 _).far HX.out (nlr _) 1 _).far HX.out (nlr _) 2 _).far HX.out (nlr _) 3 _).far HX.out (nlr _) 4 _).far HX.out (nlr _) 5 _)
     · have s0:=ae HV9.out 0 (.slice ao m cp) ⟨_,_,HK9.out,by decide⟩;have s1:=ae s0 1 (.string ⟨n.toArray⟩) ⟨_,_,(HK9.out.set 0 _),by decide⟩;have s2:=ae s1 2 (.nilIface) ⟨_,_,((HK9.out.set 0 _).set 1 _),by decide⟩;have s3:=ae s2 3 (.slice bo bm bc) ⟨_,_,(((HK9.out.set 0 _).set 1 _).set 2 _),by decide⟩;have s4:=ae s3 4 (.bool false) ⟨_,_,((((HK9.out.set 0 _).set 1 _).set 2 _).set 3 _),by decide⟩;exact ae s4 5 (.int .i64 0) ⟨_,_,(((((HK9.out.set 0 _).set 1 _).set 2 _).set 3 _).set 4 _),by decide⟩
     have s0:=ae jT.out 0 (.slice ao m cp) ⟨_,_,HK9.out,by decide⟩;have s1:=ae s0 1 (.string ⟨n.toArray⟩) ⟨_,_,(HK9.out.set 0 _),by decide⟩;have s2:=ae s1 2 (.nilIface) ⟨_,_,((HK9.out.set 0 _).set 1 _),by decide⟩;have s3:=ae s2 3 (.slice bo bm bc) ⟨_,_,(((HK9.out.set 0 _).set 1 _).set 2 _),by decide⟩;have s4:=ae s3 4 (.bool false) ⟨_,_,((((HK9.out.set 0 _).set 1 _).set 2 _).set 3 _),by decide⟩;exact ae s4 5 (.int .i64 0) ⟨_,_,(((((HK9.out.set 0 _).set 1 _).set 2 _).set 3 _).set 4 _),by decide⟩
    |true=>
     go_wp2_with fail;refine(mg ⟨#[76,73,77,73,84]⟩ _ B lv ts sz q7 _ HX7.out hl (by simp)).mono ?_;rintro x w8 ⟨rfl,hx8,hg8⟩;have HX8:=hd hx8;have HG8:=hd (av HG7.out hg8);have HK8:=hd (HK7.out.grown hg8 (by omega));have HL8:=hd (HL7.out.grown hg8 (by omega));have HV8:=hd (aA HV7.out hg8);have uB:Hid (pE B 227 2 bq os (.slice bo bm bc) w8):=aA Jk.out hg8;clear hx8 hg8;go_wp2_with fail;refine(fE w8 B lv ts sz q7.tail _ HX8.out 1000000000 (by omega)).mono ?_;rintro x w9 ho;obtain⟨hg,⟨p,c,hr,rfl⟩|⟨k,q9,v,hr,rfl,hv,hx⟩⟩:=ho.cases
     · exact⟨rfl,ah.err (av HG8.out hg) (Px.Rg.go HR1.out (Px.Rg.go HR2.out (Px.Rg.go HR3.out (Px.Rg.go HR4.out (Px.Rg.go Dm.out (Px.Rg.err (lL hl hr)))))))⟩
     cases hv
     have HRL:=hd (lL hl hr);have HG9:=hd (av HG8.out hg);have HK9:=hd (HK8.out.grown hg (by omega));have HL9:=hd (HL8.out.grown hg (by omega));have HV9:=hd (aA HV8.out hg);have jT:=hd (aA uB.out hg)
     have HXF:Hid (Cx w9 B lv ts sz q9 (aS (.select its n o os (some k))||dp)):=by
      show Cx _ _ _ _ _ _ _;rw[dw];exact hx
     have f4:=HL9.out.free 4;have f5:=HL9.out.free 5;clear hr hx hg ho HX8 HG8 HK8 HL8 HV8 uB;have m0:w9.cell? ⟨w.heap.size,0,none⟩=some (.slice none 0 0):=HK9.out.cell 0;have g0:=HK9.out.free 0;have p0:w9.cell? ⟨w1.heap.size,0,none⟩=some (.slice ao m cp):=HL9.out.cell 0;have m1:w9.cell? ⟨w.heap.size,1,none⟩=some (.string ⟨#[]⟩):=HK9.out.cell 1;have g1:=HK9.out.free 1;have p1:w9.cell? ⟨w1.heap.size,1,none⟩=some (.string ⟨n.toArray⟩):=HL9.out.cell 1;have m2:w9.cell? ⟨w.heap.size,2,none⟩=some (.nilIface):=HK9.out.cell 2;have g2:=HK9.out.free 2;have p2:w9.cell? ⟨w1.heap.size,2,none⟩=some (.nilIface):=HL9.out.cell 2;have m3:w9.cell? ⟨w.heap.size,3,none⟩=some (.slice none 0 0):=HK9.out.cell 3;have g3:=HK9.out.free 3;have p3:w9.cell? ⟨w1.heap.size,3,none⟩=some (.slice bo bm bc):=HL9.out.cell 3;have m4:w9.cell? ⟨w.heap.size,4,none⟩=some (.bool false):=HK9.out.cell 4;have g4:=HK9.out.free 4;have p4:w9.cell? ⟨w1.heap.size,4,none⟩=some (.bool false):=HL9.out.cell 4;have m5:w9.cell? ⟨w.heap.size,5,none⟩=some (.int .i64 0):=HK9.out.cell 5;have g5:=HK9.out.free 5;have p5:w9.cell? ⟨w1.heap.size,5,none⟩=some (.int .i64 0):=HL9.out.cell 5;have HK9':=hd ((HK9.out.far ⟨w1.heap.size,4,none⟩ (.bool true) d1).far ⟨w1.heap.size,5,none⟩ (.int .i64 (k:Int)) d1);have Dj:=hd (bC (bC HG9.out (M:=w1.heap.size) (by omega) 4 (.bool true)) (M:=w1.heap.size) (by omega) 5 (.int .i64 (k:Int)));have HXF':=hd ((HXF.out.far HX.out (M:=w1.heap.size) (by omega) 4 (.bool true)).far HX.out (M:=w1.heap.size) (by omega) 5 (.int .i64 (k:Int)));have CV:=hd (ae (ae HV9.out 4 (.bool true) ⟨_,_,HL9.out,by decide⟩) 5 (.int .i64 (k:Int)) ⟨_,_,HL9.out.set 4 _,by decide⟩);have uD:=hd (ae (ae jT.out 4 (.bool true) ⟨_,_,HL9.out,by decide⟩) 5 (.int .i64 (k:Int)) ⟨_,_,HL9.out.set 4 _,by decide⟩);clear HK9 HG9 HXF HV9 jT;go_wp2_with fail;have KF:=((((((HK9'.out.set 0 (.slice ao m cp)).set 1 (.string ⟨n.toArray⟩)).set 2 (.nilIface)).set 3 (.slice bo bm bc)).set 4 (.bool true)).set 5 (.int .i64 (k:Int)));have e0:=KF.cell 0;have e1:=KF.cell 1;have e2:=KF.cell 2;have e3:=KF.cell 3;have e4:=KF.cell 4;have e5:=KF.cell 5;simp at e0 e1 e2 e3 e4 e5;refine bodyPost_ret (v:=.agg #[.slice ao m cp,.string ⟨n.toArray⟩,.nilIface,.slice bo bm bc,.bool true,.int .i64 (k:Int)]) (by simp[results,Tryz.results61,go_sem,e0,e1,e2,e3,e4,e5]) rfl ?_;refine ah.ok (a:=Px.St.select its n o os (some k)) (q':=q9) (bC (bC (bC (bC (bC (bC Dj.out (nlr _) 0 _) (nlr _) 1 _) (nlr _) 2 _) (nlr _) 3 _) (nlr _) 4 _) (nlr _) 5 _) (Px.Rg.go HR1.out (Px.Rg.go HR2.out (Px.Rg.go HR3.out (Px.Rg.go HR4.out (Px.Rg.go Dm.out (Px.Rg.go HRL.out rfl)))))) ⟨.slice ao m cp,.slice bo bm bc,by rw[<-show(.nilIface:Value)=ev? o from HE.out];rfl,?_,?_⟩ ((((((HXF'.out.far HX.out (nlr _) 0 _).far HX.out (nlr _) 1 _).far HX.out (nlr _) 2 _).far HX.out (nlr _) 3 _).far HX.out (nlr _) 4 _).far HX.out (nlr _) 5 _)
     · have s0:=ae CV.out 0 (.slice ao m cp) ⟨_,_,HK9'.out,by decide⟩;have s1:=ae s0 1 (.string ⟨n.toArray⟩) ⟨_,_,(HK9'.out.set 0 _),by decide⟩;have s2:=ae s1 2 (.nilIface) ⟨_,_,((HK9'.out.set 0 _).set 1 _),by decide⟩;have s3:=ae s2 3 (.slice bo bm bc) ⟨_,_,(((HK9'.out.set 0 _).set 1 _).set 2 _),by decide⟩;have s4:=ae s3 4 (.bool true) ⟨_,_,((((HK9'.out.set 0 _).set 1 _).set 2 _).set 3 _),by decide⟩;exact ae s4 5 (.int .i64 (k:Int)) ⟨_,_,(((((HK9'.out.set 0 _).set 1 _).set 2 _).set 3 _).set 4 _),by decide⟩
     have s0:=ae uD.out 0 (.slice ao m cp) ⟨_,_,HK9'.out,by decide⟩;have s1:=ae s0 1 (.string ⟨n.toArray⟩) ⟨_,_,(HK9'.out.set 0 _),by decide⟩;have s2:=ae s1 2 (.nilIface) ⟨_,_,((HK9'.out.set 0 _).set 1 _),by decide⟩;have s3:=ae s2 3 (.slice bo bm bc) ⟨_,_,(((HK9'.out.set 0 _).set 1 _).set 2 _),by decide⟩;have s4:=ae s3 4 (.bool true) ⟨_,_,((((HK9'.out.set 0 _).set 1 _).set 2 _).set 3 _),by decide⟩;exact ae s4 5 (.int .i64 (k:Int)) ⟨_,_,(((((HK9'.out.set 0 _).set 1 _).set 2 _).set 3 _).set 4 _),by decide⟩
 have HX4:=hd (HX40.out.far HX.out (M:=w1.heap.size) (by omega) 2 (.iface et ex));have HG4:=hd (bC KL.out (M:=w1.heap.size) (by omega) 2 (.iface et ex));have HK4:=hd (HK40.out.far ⟨w1.heap.size,2,none⟩ (.iface et ex) d1);have HL4:Hid (af (w4.setCell ⟨w1.heap.size,2,none⟩ (.iface et ex)) w1.heap.size #[.slice ao m cp,.string ⟨n.toArray⟩,.iface et ex,.slice none 0 0,.bool false,.int .i64 0] 109):=BM.out.set 2 _;have HV4:=hd (ae J7.out 2 (.iface et ex) ⟨_,_,BM.out,by decide⟩);clear HX40 KL HK40 BM J7
 cases hs:Px.sees Px.qf q4 with
 |false=>
  have HRO:Hid (Px.bX sz q4 (.ok ([],q4))):=by show Px.bX _ _ _;unfold Px.bX;rw[if_neg (by simp[hs])]
  go_wp2_with fail;refine(cB ⟨#[79,82,68,69,82]⟩ _ B lv ts sz q4 _ HX4.out hs (by simp)).mono ?_;rintro x w5 ⟨rfl,hb5⟩;have HX5:=hd (HX4.out.below hb5);have HG5:=hd (av HG4.out (Below.grownBy (row:=some B) hb5));have HK5:=hd (HK4.out.below hb5 HK4.out.lt);have HL5:=hd (HL4.out.below hb5 HL4.out.lt);have HV5:Hid (pE B 225 2 itemC its (.slice ao m cp) w5):=dA HV4.out hb5;clear hb5 HX4 HG4 HK4 HL4 HV4
  cases hl:Px.sees Px.jc q4 with
  |false=>
   go_wp2_with fail;refine(cB ⟨#[76,73,77,73,84]⟩ _ B lv ts sz q4 _ HX5.out hl (by simp)).mono ?_;rintro x w9 ⟨rfl,hb9⟩;have HX9:=hd (HX5.out.below hb9);have HG9:=hd (av HG5.out (Below.grownBy (row:=some B) hb9));have HK9:=hd (HK5.out.below hb9 HK5.out.lt);have HL9:=hd (HL5.out.below hb9 HL5.out.lt);have HV9:Hid (pE B 225 2 itemC its (.slice ao m cp) w9):=dA HV5.out hb9;have jT:Hid (pE B 227 2 bq [] (.slice none 0 0) w9):=World.ownsRow_nil _ _ _ _
   have HXF:Hid (Cx w9 B lv ts sz q4 (aS (.select its n o [] none)||dp)):=by
    show Cx _ _ _ _ _ _ _;rw[dw];exact HX9.out
   clear hb9 HX9;have m0:w9.cell? ⟨w.heap.size,0,none⟩=some (.slice none 0 0):=HK9.out.cell 0;have g0:=HK9.out.free 0;have p0:w9.cell? ⟨w1.heap.size,0,none⟩=some (.slice ao m cp):=HL9.out.cell 0;have m1:w9.cell? ⟨w.heap.size,1,none⟩=some (.string ⟨#[]⟩):=HK9.out.cell 1;have g1:=HK9.out.free 1;have p1:w9.cell? ⟨w1.heap.size,1,none⟩=some (.string ⟨n.toArray⟩):=HL9.out.cell 1;have m2:w9.cell? ⟨w.heap.size,2,none⟩=some (.nilIface):=HK9.out.cell 2;have g2:=HK9.out.free 2;have p2:w9.cell? ⟨w1.heap.size,2,none⟩=some (.iface et ex):=HL9.out.cell 2;have m3:w9.cell? ⟨w.heap.size,3,none⟩=some (.slice none 0 0):=HK9.out.cell 3;have g3:=HK9.out.free 3;have p3:w9.cell? ⟨w1.heap.size,3,none⟩=some (.slice none 0 0):=HL9.out.cell 3;have m4:w9.cell? ⟨w.heap.size,4,none⟩=some (.bool false):=HK9.out.cell 4;have g4:=HK9.out.free 4;have p4:w9.cell? ⟨w1.heap.size,4,none⟩=some (.bool false):=HL9.out.cell 4;have m5:w9.cell? ⟨w.heap.size,5,none⟩=some (.int .i64 0):=HK9.out.cell 5;have g5:=HK9.out.free 5;have p5:w9.cell? ⟨w1.heap.size,5,none⟩=some (.int .i64 0):=HL9.out.cell 5;go_wp2_with fail;have KF:=((((((HK9.out.set 0 (.slice ao m cp)).set 1 (.string ⟨n.toArray⟩)).set 2 (.iface et ex)).set 3 (.slice none 0 0)).set 4 (.bool false)).set 5 (.int .i64 0));have e0:=KF.cell 0;have e1:=KF.cell 1;have e2:=KF.cell 2;have e3:=KF.cell 3;have e4:=KF.cell 4;have e5:=KF.cell 5;simp at e0 e1 e2 e3 e4 e5;refine bodyPost_ret (v:=.agg #[.slice ao m cp,.string ⟨n.toArray⟩,.iface et ex,.slice none 0 0,.bool false,.int .i64 0]) (by simp[results,Tryz.results61,go_sem,e0,e1,e2,e3,e4,e5]) rfl ?_;refine ah.ok (a:=Px.St.select its n o [] none) (q':=q4) (bC (bC (bC (bC (bC (bC HG9.out (nlr _) 0 _) (nlr _) 1 _) (nlr _) 2 _) (nlr _) 3 _) (nlr _) 4 _) (nlr _) 5 _) (Px.Rg.go HR1.out (Px.Rg.go HR2.out (Px.Rg.go HR3.out (Px.Rg.go HR4.out (Px.Rg.go HRO.out (Px.Rg.go (zT hl) rfl)))))) ⟨.slice ao m cp,.slice none 0 0,by rw[<-show(.iface et ex:Value)=ev? o from HE.out];rfl,?_,?_⟩ ((((((HXF.out.far HX.out (nlr _) 0 _).far HX.out (nlr _) 1 _).far HX.out (nlr _) 2 _).far HX.out (nlr _) 3 _).far HX.out (nlr _) 4 _).far HX.out (nlr _) 5 _)
   · have s0:=ae HV9.out 0 (.slice ao m cp) ⟨_,_,HK9.out,by decide⟩;have s1:=ae s0 1 (.string ⟨n.toArray⟩) ⟨_,_,(HK9.out.set 0 _),by decide⟩;have s2:=ae s1 2 (.iface et ex) ⟨_,_,((HK9.out.set 0 _).set 1 _),by decide⟩;have s3:=ae s2 3 (.slice none 0 0) ⟨_,_,(((HK9.out.set 0 _).set 1 _).set 2 _),by decide⟩;have s4:=ae s3 4 (.bool false) ⟨_,_,((((HK9.out.set 0 _).set 1 _).set 2 _).set 3 _),by decide⟩;exact ae s4 5 (.int .i64 0) ⟨_,_,(((((HK9.out.set 0 _).set 1 _).set 2 _).set 3 _).set 4 _),by decide⟩
   have s0:=ae jT.out 0 (.slice ao m cp) ⟨_,_,HK9.out,by decide⟩;have s1:=ae s0 1 (.string ⟨n.toArray⟩) ⟨_,_,(HK9.out.set 0 _),by decide⟩;have s2:=ae s1 2 (.iface et ex) ⟨_,_,((HK9.out.set 0 _).set 1 _),by decide⟩;have s3:=ae s2 3 (.slice none 0 0) ⟨_,_,(((HK9.out.set 0 _).set 1 _).set 2 _),by decide⟩;have s4:=ae s3 4 (.bool false) ⟨_,_,((((HK9.out.set 0 _).set 1 _).set 2 _).set 3 _),by decide⟩;exact ae s4 5 (.int .i64 0) ⟨_,_,(((((HK9.out.set 0 _).set 1 _).set 2 _).set 3 _).set 4 _),by decide⟩
  |true=>
   go_wp2_with fail;refine(mg ⟨#[76,73,77,73,84]⟩ _ B lv ts sz q4 _ HX5.out hl (by simp)).mono ?_;rintro x w8 ⟨rfl,hx8,hg8⟩;have HX8:=hd hx8;have HG8:=hd (av HG5.out hg8);have HK8:=hd (HK5.out.grown hg8 (by omega));have HL8:=hd (HL5.out.grown hg8 (by omega));have HV8:=hd (aA HV5.out hg8);have uB:Hid (pE B 227 2 bq [] (.slice none 0 0) w8):=World.ownsRow_nil _ _ _ _;clear hx8 hg8;go_wp2_with fail;refine(fE w8 B lv ts sz q4.tail _ HX8.out 1000000000 (by omega)).mono ?_;rintro x w9 ho;obtain⟨hg,⟨p,c,hr,rfl⟩|⟨k,q9,v,hr,rfl,hv,hx⟩⟩:=ho.cases
   · exact⟨rfl,ah.err (av HG8.out hg) (Px.Rg.go HR1.out (Px.Rg.go HR2.out (Px.Rg.go HR3.out (Px.Rg.go HR4.out (Px.Rg.go HRO.out (Px.Rg.err (lL hl hr)))))))⟩
   cases hv
   have HRL:=hd (lL hl hr);have HG9:=hd (av HG8.out hg);have HK9:=hd (HK8.out.grown hg (by omega));have HL9:=hd (HL8.out.grown hg (by omega));have HV9:=hd (aA HV8.out hg);have jT:=hd (aA uB.out hg)
   have HXF:Hid (Cx w9 B lv ts sz q9 (aS (.select its n o [] (some k))||dp)):=by
    show Cx _ _ _ _ _ _ _;rw[dw];exact hx
   have f4:=HL9.out.free 4;have f5:=HL9.out.free 5;clear hr hx hg ho HX8 HG8 HK8 HL8 HV8 uB;have m0:w9.cell? ⟨w.heap.size,0,none⟩=some (.slice none 0 0):=HK9.out.cell 0;have g0:=HK9.out.free 0;have p0:w9.cell? ⟨w1.heap.size,0,none⟩=some (.slice ao m cp):=HL9.out.cell 0;have m1:w9.cell? ⟨w.heap.size,1,none⟩=some (.string ⟨#[]⟩):=HK9.out.cell 1;have g1:=HK9.out.free 1;have p1:w9.cell? ⟨w1.heap.size,1,none⟩=some (.string ⟨n.toArray⟩):=HL9.out.cell 1;have m2:w9.cell? ⟨w.heap.size,2,none⟩=some (.nilIface):=HK9.out.cell 2;have g2:=HK9.out.free 2;have p2:w9.cell? ⟨w1.heap.size,2,none⟩=some (.iface et ex):=HL9.out.cell 2;have m3:w9.cell? ⟨w.heap.size,3,none⟩=some (.slice none 0 0):=HK9.out.cell 3;have g3:=HK9.out.free 3;have p3:w9.cell? ⟨w1.heap.size,3,none⟩=some (.slice none 0 0):=HL9.out.cell 3;have m4:w9.cell? ⟨w.heap.size,4,none⟩=some (.bool false):=HK9.out.cell 4;have g4:=HK9.out.free 4;have p4:w9.cell? ⟨w1.heap.size,4,none⟩=some (.bool false):=HL9.out.cell 4;have m5:w9.cell? ⟨w.heap.size,5,none⟩=some (.int .i64 0):=HK9.out.cell 5;have g5:=HK9.out.free 5;have p5:w9.cell? ⟨w1.heap.size,5,none⟩=some (.int .i64 0):=HL9.out.cell 5;have HK9':=hd ((HK9.out.far ⟨w1.heap.size,4,none⟩ (.bool true) d1).far ⟨w1.heap.size,5,none⟩ (.int .i64 (k:Int)) d1);have Dj:=hd (bC (bC HG9.out (M:=w1.heap.size) (by omega) 4 (.bool true)) (M:=w1.heap.size) (by omega) 5 (.int .i64 (k:Int)));have HXF':=hd ((HXF.out.far HX.out (M:=w1.heap.size) (by omega) 4 (.bool true)).far HX.out (M:=w1.heap.size) (by omega) 5 (.int .i64 (k:Int)));have CV:=hd (ae (ae HV9.out 4 (.bool true) ⟨_,_,HL9.out,by decide⟩) 5 (.int .i64 (k:Int)) ⟨_,_,HL9.out.set 4 _,by decide⟩);have uD:=hd (ae (ae jT.out 4 (.bool true) ⟨_,_,HL9.out,by decide⟩) 5 (.int .i64 (k:Int)) ⟨_,_,HL9.out.set 4 _,by decide⟩);clear HK9 HG9 HXF HV9 jT;go_wp2_with fail;have KF:=((((((HK9'.out.set 0 (.slice ao m cp)).set 1 (.string ⟨n.toArray⟩)).set 2 (.iface et ex)).set 3 (.slice none 0 0)).set 4 (.bool true)).set 5 (.int .i64 (k:Int)));have e0:=KF.cell 0;have e1:=KF.cell 1;have e2:=KF.cell 2;have e3:=KF.cell 3;have e4:=KF.cell 4;have e5:=KF.cell 5;simp at e0 e1 e2 e3 e4 e5;refine bodyPost_ret (v:=.agg #[.slice ao m cp,.string ⟨n.toArray⟩,.iface et ex,.slice none 0 0,.bool true,.int .i64 (k:Int)]) (by simp[results,Tryz.results61,go_sem,e0,e1,e2,e3,e4,e5]) rfl ?_;refine ah.ok (a:=Px.St.select its n o [] (some k)) (q':=q9) (bC (bC (bC (bC (bC (bC Dj.out (nlr _) 0 _) (nlr _) 1 _) (nlr _) 2 _) (nlr _) 3 _) (nlr _) 4 _) (nlr _) 5 _) (Px.Rg.go HR1.out (Px.Rg.go HR2.out (Px.Rg.go HR3.out (Px.Rg.go HR4.out (Px.Rg.go HRO.out (Px.Rg.go HRL.out rfl)))))) ⟨.slice ao m cp,.slice none 0 0,by rw[<-show(.iface et ex:Value)=ev? o from HE.out];rfl,?_,?_⟩ ((((((HXF'.out.far HX.out (nlr _) 0 _).far HX.out (nlr _) 1 _).far HX.out (nlr _) 2 _).far HX.out (nlr _) 3 _).far HX.out (nlr _) 4 _).far HX.out (nlr _) 5 _)
   · have s0:=ae CV.out 0 (.slice ao m cp) ⟨_,_,HK9'.out,by decide⟩;have s1:=ae s0 1 (.string ⟨n.toArray⟩) ⟨_,_,(HK9'.out.set 0 _),by decide⟩;have s2:=ae s1 2 (.iface et ex) ⟨_,_,((HK9'.out.set 0 _).set 1 _),by decide⟩;have s3:=ae s2 3 (.slice none 0 0) ⟨_,_,(((HK9'.out.set 0 _).set 1 _).set 2 _),by decide⟩;have s4:=ae s3 4 (.bool true) ⟨_,_,((((HK9'.out.set 0 _).set 1 _).set 2 _).set 3 _),by decide⟩;exact ae s4 5 (.int .i64 (k:Int)) ⟨_,_,(((((HK9'.out.set 0 _).set 1 _).set 2 _).set 3 _).set 4 _),by decide⟩
   have s0:=ae uD.out 0 (.slice ao m cp) ⟨_,_,HK9'.out,by decide⟩;have s1:=ae s0 1 (.string ⟨n.toArray⟩) ⟨_,_,(HK9'.out.set 0 _),by decide⟩;have s2:=ae s1 2 (.iface et ex) ⟨_,_,((HK9'.out.set 0 _).set 1 _),by decide⟩;have s3:=ae s2 3 (.slice none 0 0) ⟨_,_,(((HK9'.out.set 0 _).set 1 _).set 2 _),by decide⟩;have s4:=ae s3 4 (.bool true) ⟨_,_,((((HK9'.out.set 0 _).set 1 _).set 2 _).set 3 _),by decide⟩;exact ae s4 5 (.int .i64 (k:Int)) ⟨_,_,(((((HK9'.out.set 0 _).set 1 _).set 2 _).set 3 _).set 4 _),by decide⟩
 |true=>
  have HRO:Hid (∀r,Px.Rg.seq (Px.bG sz Px.NQ) (fun _=>Px.Sep fun _=>Px.jf sz) q4.tail r->Px.bX sz q4 r):=fun r hr=>by unfold Px.bX;rw[if_pos hs];exact hr
  go_wp2_with fail;refine(mg ⟨#[79,82,68,69,82]⟩ _ B lv ts sz q4 _ HX4.out hs (by simp)).mono ?_;rintro x w5 ⟨rfl,hx5,hg5⟩;have HX5:=hd hx5;have HG5:=hd (av HG4.out hg5);have HK5:=hd (HK4.out.grown hg5 (by omega));have HL5:=hd (HL4.out.grown hg5 (by omega));have HV5:=hd (aA HV4.out hg5);clear hx5 hg5 HX4 HG4 HK4 HL4 HV4;go_wp2_with fail;refine(aY ⟨#[66,89]⟩ w5 _ rfl B lv ts sz q4.tail _ HX5.out (by simp)).mono ?_;rintro x w6 ho;obtain⟨hg,⟨p,c,hr,rfl⟩|⟨_,q6,v,hr,rfl,hv,hx⟩⟩:=ho.cases
  · exact⟨rfl,ah.err (av HG5.out hg) (Px.Rg.go HR1.out (Px.Rg.go HR2.out (Px.Rg.go HR3.out (Px.Rg.go HR4.out (Px.Rg.err (HRO.out _ (Px.Rg.err hr)))))))⟩
  cases hv
  have HR6:=hd hr;have HX6:=hd hx;have HG6:=hd (av HG5.out hg);have HK6:=hd (HK5.out.grown hg (by omega));have HL6:=hd (HL5.out.grown hg (by omega));have HV6:=hd (aA HV5.out hg);clear hr hx hg ho HX5 HG5 HK5 HL5 HV5;go_wp2_with fail;refine(ko B lv ts sz _ w6 q6 HX6.out).mono ?_;rintro x w7 ho;obtain⟨hg,⟨p,c,hr,rfl⟩|⟨os,q7,v,hr,rfl,hv,hx⟩⟩:=ho.cases
  · exact⟨rfl,ah.err (av HG6.out hg) (Px.Rg.go HR1.out (Px.Rg.go HR2.out (Px.Rg.go HR3.out (Px.Rg.go HR4.out (Px.Rg.err (HRO.out _ (Px.Rg.go HR6.out hr)))))))⟩
  have Dm:=hd (HRO.out _ (Px.Rg.go HR6.out hr));obtain⟨bo,bm,bc,rfl⟩:=Ev hv;have pX:=hd (HL6.out.grown hg (by omega));have a3:w7.cell? ⟨w1.heap.size,3,none⟩=some (.slice none 0 0):=pX.out.cell 3;have f3:=pX.out.free 3;have HX7:=hd (hx.far HX.out (M:=w1.heap.size) (by omega) 3 (.slice bo bm bc));have HG7:=hd (bC (av HG6.out hg) (M:=w1.heap.size) (by omega) 3 (.slice bo bm bc));have HK7:=hd ((HK6.out.grown hg (by omega)).far ⟨w1.heap.size,3,none⟩ (.slice bo bm bc) d1);have HL7:Hid (af (w7.setCell ⟨w1.heap.size,3,none⟩ (.slice bo bm bc)) w1.heap.size #[.slice ao m cp,.string ⟨n.toArray⟩,.iface et ex,.slice bo bm bc,.bool false,.int .i64 0] 109):=pX.out.set 3 _;have HV7:=hd (ae (aA HV6.out hg) 3 (.slice bo bm bc) ⟨_,_,pX.out,by decide⟩);have Jk:=hd (ae hv 3 (.slice bo bm bc) ⟨_,_,pX.out,by decide⟩);clear hr hx hg ho hv HX6 HG6 HK6 HL6 HV6 pX HRO HR6
  cases hl:Px.sees Px.jc q7 with
  |false=>
   go_wp2_with fail;refine(cB ⟨#[76,73,77,73,84]⟩ _ B lv ts sz q7 _ HX7.out hl (by simp)).mono ?_;rintro x w9 ⟨rfl,hb9⟩;have HX9:=hd (HX7.out.below hb9);have HG9:=hd (av HG7.out (Below.grownBy (row:=some B) hb9));have HK9:=hd (HK7.out.below hb9 HK7.out.lt);have HL9:=hd (HL7.out.below hb9 HL7.out.lt);have HV9:Hid (pE B 225 2 itemC its (.slice ao m cp) w9):=dA HV7.out hb9;have jT:Hid (pE B 227 2 bq os (.slice bo bm bc) w9):=dA Jk.out hb9
   have HXF:Hid (Cx w9 B lv ts sz q7 (aS (.select its n o os none)||dp)):=by
    show Cx _ _ _ _ _ _ _;rw[dw];exact HX9.out
   clear hb9 HX9;have m0:w9.cell? ⟨w.heap.size,0,none⟩=some (.slice none 0 0):=HK9.out.cell 0;have g0:=HK9.out.free 0;have p0:w9.cell? ⟨w1.heap.size,0,none⟩=some (.slice ao m cp):=HL9.out.cell 0;have m1:w9.cell? ⟨w.heap.size,1,none⟩=some (.string ⟨#[]⟩):=HK9.out.cell 1;have g1:=HK9.out.free 1;have p1:w9.cell? ⟨w1.heap.size,1,none⟩=some (.string ⟨n.toArray⟩):=HL9.out.cell 1;have m2:w9.cell? ⟨w.heap.size,2,none⟩=some (.nilIface):=HK9.out.cell 2;have g2:=HK9.out.free 2;have p2:w9.cell? ⟨w1.heap.size,2,none⟩=some (.iface et ex):=HL9.out.cell 2;have m3:w9.cell? ⟨w.heap.size,3,none⟩=some (.slice none 0 0):=HK9.out.cell 3;have g3:=HK9.out.free 3;have p3:w9.cell? ⟨w1.heap.size,3,none⟩=some (.slice bo bm bc):=HL9.out.cell 3;have m4:w9.cell? ⟨w.heap.size,4,none⟩=some (.bool false):=HK9.out.cell 4;have g4:=HK9.out.free 4;have p4:w9.cell? ⟨w1.heap.size,4,none⟩=some (.bool false):=HL9.out.cell 4;have m5:w9.cell? ⟨w.heap.size,5,none⟩=some (.int .i64 0):=HK9.out.cell 5;have g5:=HK9.out.free 5;have p5:w9.cell? ⟨w1.heap.size,5,none⟩=some (.int .i64 0):=HL9.out.cell 5;go_wp2_with fail;have KF:=((((((HK9.out.set 0 (.slice ao m cp)).set 1 (.string ⟨n.toArray⟩)).set 2 (.iface et ex)).set 3 (.slice bo bm bc)).set 4 (.bool false)).set 5 (.int .i64 0));have e0:=KF.cell 0;have e1:=KF.cell 1;have e2:=KF.cell 2;have e3:=KF.cell 3;have e4:=KF.cell 4;have e5:=KF.cell 5;simp at e0 e1 e2 e3 e4 e5;refine bodyPost_ret (v:=.agg #[.slice ao m cp,.string ⟨n.toArray⟩,.iface et ex,.slice bo bm bc,.bool false,.int .i64 0]) (by simp[results,Tryz.results61,go_sem,e0,e1,e2,e3,e4,e5]) rfl ?_;refine ah.ok (a:=Px.St.select its n o os none) (q':=q7) (bC (bC (bC (bC (bC (bC HG9.out (nlr _) 0 _) (nlr _) 1 _) (nlr _) 2 _) (nlr _) 3 _) (nlr _) 4 _) (nlr _) 5 _) (Px.Rg.go HR1.out (Px.Rg.go HR2.out (Px.Rg.go HR3.out (Px.Rg.go HR4.out (Px.Rg.go Dm.out (Px.Rg.go (zT hl) rfl)))))) ⟨.slice ao m cp,.slice bo bm bc,by rw[<-show(.iface et ex:Value)=ev? o from HE.out];rfl,?_,?_⟩ ((((((HXF.out.far HX.out (nlr _) 0 _).far HX.out (nlr _) 1 _).far HX.out (nlr _) 2 _).far HX.out (nlr _) 3 _).far HX.out (nlr _) 4 _).far HX.out (nlr _) 5 _)
   · have s0:=ae HV9.out 0 (.slice ao m cp) ⟨_,_,HK9.out,by decide⟩;have s1:=ae s0 1 (.string ⟨n.toArray⟩) ⟨_,_,(HK9.out.set 0 _),by decide⟩;have s2:=ae s1 2 (.iface et ex) ⟨_,_,((HK9.out.set 0 _).set 1 _),by decide⟩;have s3:=ae s2 3 (.slice bo bm bc) ⟨_,_,(((HK9.out.set 0 _).set 1 _).set 2 _),by decide⟩;have s4:=ae s3 4 (.bool false) ⟨_,_,((((HK9.out.set 0 _).set 1 _).set 2 _).set 3 _),by decide⟩;exact ae s4 5 (.int .i64 0) ⟨_,_,(((((HK9.out.set 0 _).set 1 _).set 2 _).set 3 _).set 4 _),by decide⟩
   have s0:=ae jT.out 0 (.slice ao m cp) ⟨_,_,HK9.out,by decide⟩;have s1:=ae s0 1 (.string ⟨n.toArray⟩) ⟨_,_,(HK9.out.set 0 _),by decide⟩;have s2:=ae s1 2 (.iface et ex) ⟨_,_,((HK9.out.set 0 _).set 1 _),by decide⟩;have s3:=ae s2 3 (.slice bo bm bc) ⟨_,_,(((HK9.out.set 0 _).set 1 _).set 2 _),by decide⟩;have s4:=ae s3 4 (.bool false) ⟨_,_,((((HK9.out.set 0 _).set 1 _).set 2 _).set 3 _),by decide⟩;exact ae s4 5 (.int .i64 0) ⟨_,_,(((((HK9.out.set 0 _).set 1 _).set 2 _).set 3 _).set 4 _),by decide⟩
  |true=>
   go_wp2_with fail;refine(mg ⟨#[76,73,77,73,84]⟩ _ B lv ts sz q7 _ HX7.out hl (by simp)).mono ?_;rintro x w8 ⟨rfl,hx8,hg8⟩;have HX8:=hd hx8;have HG8:=hd (av HG7.out hg8);have HK8:=hd (HK7.out.grown hg8 (by omega));have HL8:=hd (HL7.out.grown hg8 (by omega));have HV8:=hd (aA HV7.out hg8);have uB:Hid (pE B 227 2 bq os (.slice bo bm bc) w8):=aA Jk.out hg8;clear hx8 hg8;go_wp2_with fail;refine(fE w8 B lv ts sz q7.tail _ HX8.out 1000000000 (by omega)).mono ?_;rintro x w9 ho;obtain⟨hg,⟨p,c,hr,rfl⟩|⟨k,q9,v,hr,rfl,hv,hx⟩⟩:=ho.cases
   · exact⟨rfl,ah.err (av HG8.out hg) (Px.Rg.go HR1.out (Px.Rg.go HR2.out (Px.Rg.go HR3.out (Px.Rg.go HR4.out (Px.Rg.go Dm.out (Px.Rg.err (lL hl hr)))))))⟩
   cases hv
   have HRL:=hd (lL hl hr);have HG9:=hd (av HG8.out hg);have HK9:=hd (HK8.out.grown hg (by omega));have HL9:=hd (HL8.out.grown hg (by omega));have HV9:=hd (aA HV8.out hg);have jT:=hd (aA uB.out hg)
   have HXF:Hid (Cx w9 B lv ts sz q9 (aS (.select its n o os (some k))||dp)):=by
    show Cx _ _ _ _ _ _ _;rw[dw];exact hx
   have f4:=HL9.out.free 4;have f5:=HL9.out.free 5;clear hr hx hg ho HX8 HG8 HK8 HL8 HV8 uB;have m0:w9.cell? ⟨w.heap.size,0,none⟩=some (.slice none 0 0):=HK9.out.cell 0;have g0:=HK9.out.free 0;have p0:w9.cell? ⟨w1.heap.size,0,none⟩=some (.slice ao m cp):=HL9.out.cell 0;have m1:w9.cell? ⟨w.heap.size,1,none⟩=some (.string ⟨#[]⟩):=HK9.out.cell 1;have g1:=HK9.out.free 1;have p1:w9.cell? ⟨w1.heap.size,1,none⟩=some (.string ⟨n.toArray⟩):=HL9.out.cell 1;have m2:w9.cell? ⟨w.heap.size,2,none⟩=some (.nilIface):=HK9.out.cell 2;have g2:=HK9.out.free 2;have p2:w9.cell? ⟨w1.heap.size,2,none⟩=some (.iface et ex):=HL9.out.cell 2;have m3:w9.cell? ⟨w.heap.size,3,none⟩=some (.slice none 0 0):=HK9.out.cell 3;have g3:=HK9.out.free 3;have p3:w9.cell? ⟨w1.heap.size,3,none⟩=some (.slice bo bm bc):=HL9.out.cell 3;have m4:w9.cell? ⟨w.heap.size,4,none⟩=some (.bool false):=HK9.out.cell 4;have g4:=HK9.out.free 4;have p4:w9.cell? ⟨w1.heap.size,4,none⟩=some (.bool false):=HL9.out.cell 4;have m5:w9.cell? ⟨w.heap.size,5,none⟩=some (.int .i64 0):=HK9.out.cell 5;have g5:=HK9.out.free 5;have p5:w9.cell? ⟨w1.heap.size,5,none⟩=some (.int .i64 0):=HL9.out.cell 5;have HK9':=hd ((HK9.out.far ⟨w1.heap.size,4,none⟩ (.bool true) d1).far ⟨w1.heap.size,5,none⟩ (.int .i64 (k:Int)) d1);have Dj:=hd (bC (bC HG9.out (M:=w1.heap.size) (by omega) 4 (.bool true)) (M:=w1.heap.size) (by omega) 5 (.int .i64 (k:Int)));have HXF':=hd ((HXF.out.far HX.out (M:=w1.heap.size) (by omega) 4 (.bool true)).far HX.out (M:=w1.heap.size) (by omega) 5 (.int .i64 (k:Int)));have CV:=hd (ae (ae HV9.out 4 (.bool true) ⟨_,_,HL9.out,by decide⟩) 5 (.int .i64 (k:Int)) ⟨_,_,HL9.out.set 4 _,by decide⟩);have uD:=hd (ae (ae jT.out 4 (.bool true) ⟨_,_,HL9.out,by decide⟩) 5 (.int .i64 (k:Int)) ⟨_,_,HL9.out.set 4 _,by decide⟩);clear HK9 HG9 HXF HV9 jT;go_wp2_with fail;have KF:=((((((HK9'.out.set 0 (.slice ao m cp)).set 1 (.string ⟨n.toArray⟩)).set 2 (.iface et ex)).set 3 (.slice bo bm bc)).set 4 (.bool true)).set 5 (.int .i64 (k:Int)));have e0:=KF.cell 0;have e1:=KF.cell 1;have e2:=KF.cell 2;have e3:=KF.cell 3;have e4:=KF.cell 4;have e5:=KF.cell 5;simp at e0 e1 e2 e3 e4 e5;refine bodyPost_ret (v:=.agg #[.slice ao m cp,.string ⟨n.toArray⟩,.iface et ex,.slice bo bm bc,.bool true,.int .i64 (k:Int)]) (by simp[results,Tryz.results61,go_sem,e0,e1,e2,e3,e4,e5]) rfl ?_;refine ah.ok (a:=Px.St.select its n o os (some k)) (q':=q9) (bC (bC (bC (bC (bC (bC Dj.out (nlr _) 0 _) (nlr _) 1 _) (nlr _) 2 _) (nlr _) 3 _) (nlr _) 4 _) (nlr _) 5 _) (Px.Rg.go HR1.out (Px.Rg.go HR2.out (Px.Rg.go HR3.out (Px.Rg.go HR4.out (Px.Rg.go Dm.out (Px.Rg.go HRL.out rfl)))))) ⟨.slice ao m cp,.slice bo bm bc,by rw[<-show(.iface et ex:Value)=ev? o from HE.out];rfl,?_,?_⟩ ((((((HXF'.out.far HX.out (nlr _) 0 _).far HX.out (nlr _) 1 _).far HX.out (nlr _) 2 _).far HX.out (nlr _) 3 _).far HX.out (nlr _) 4 _).far HX.out (nlr _) 5 _)
   · have s0:=ae CV.out 0 (.slice ao m cp) ⟨_,_,HK9'.out,by decide⟩;have s1:=ae s0 1 (.string ⟨n.toArray⟩) ⟨_,_,(HK9'.out.set 0 _),by decide⟩;have s2:=ae s1 2 (.iface et ex) ⟨_,_,((HK9'.out.set 0 _).set 1 _),by decide⟩;have s3:=ae s2 3 (.slice bo bm bc) ⟨_,_,(((HK9'.out.set 0 _).set 1 _).set 2 _),by decide⟩;have s4:=ae s3 4 (.bool true) ⟨_,_,((((HK9'.out.set 0 _).set 1 _).set 2 _).set 3 _),by decide⟩;exact ae s4 5 (.int .i64 (k:Int)) ⟨_,_,(((((HK9'.out.set 0 _).set 1 _).set 2 _).set 3 _).set 4 _),by decide⟩
   have s0:=ae uD.out 0 (.slice ao m cp) ⟨_,_,HK9'.out,by decide⟩;have s1:=ae s0 1 (.string ⟨n.toArray⟩) ⟨_,_,(HK9'.out.set 0 _),by decide⟩;have s2:=ae s1 2 (.iface et ex) ⟨_,_,((HK9'.out.set 0 _).set 1 _),by decide⟩;have s3:=ae s2 3 (.slice bo bm bc) ⟨_,_,(((HK9'.out.set 0 _).set 1 _).set 2 _),by decide⟩;have s4:=ae s3 4 (.bool true) ⟨_,_,((((HK9'.out.set 0 _).set 1 _).set 2 _).set 3 _),by decide⟩;exact ae s4 5 (.int .i64 (k:Int)) ⟨_,_,(((((HK9'.out.set 0 _).set 1 _).set 2 _).set 3 _).set 4 _),by decide⟩
theorem ky{T:TypeId}{s:Px.St}{v:Value}(h:xg B T s v w):∃cs,v=.agg cs:=by
 cases s with
 |create t c=>obtain⟨u,h1,h2⟩:=h;simp only[Value.iface.injEq]at h1;exact⟨_,h1.2⟩
 |drop t=>have h1:Value.iface _ _=_:=h;simp only[Value.iface.injEq]at h1;exact⟨_,h1.2⟩
 |insert t r=>obtain⟨u,h1,h2⟩:=h;simp only[Value.iface.injEq]at h1;exact⟨_,h1.2⟩
 |delete t o=>have h1:Value.iface _ _=_:=h;simp only[Value.iface.injEq]at h1;exact⟨_,h1.2⟩
 |update t s o=>obtain⟨u,h1,h2⟩:=h;simp only[Value.iface.injEq]at h1;exact⟨_,h1.2⟩
 |select i t o r l=>obtain⟨u,u',h1,h2,h3⟩:=h;simp only[Value.iface.injEq]at h1;exact⟨_,h1.2⟩
theorem Bp(B:Nat)(lv:Value)(ts:List Lx.Tok)(sz:Nat)(dp:Bool)(w:World)(q:List Lx.Tok)(h:Cx w B lv ts sz q dp)(h0:Px.sees Px.eP q=true):
   Calls Tryz.prog 28 #[.pointer (some ⟨B,0,none⟩)] w (ah w B lv ts sz dp (Px.cZ sz) q (GA B) aS):=by
 have HX0:=hd h;have HG0:=hd (grownBy_refl w (some B));clear h;go_enter Tryz.func28,Tryz.ntmps28;go_wp2_with fail;refine(mg ⟨#[67,82,69,65,84,69]⟩ _ B lv ts sz q dp HX0.out h0 (by simp)).mono ?_;rintro x wy ⟨rfl,hxy,hgy⟩;have HXy:=hd hxy;have HGy:=hd (av HG0.out hgy);clear hxy hgy HX0 HG0;go_wp2_with fail;refine(zM B lv ts sz dp _ q.tail HXy.out).mono ?_;rintro x wz ho;obtain⟨hg,⟨p,c,hr,rfl⟩|⟨s,qz,v,hr,rfl,hv,hx⟩⟩:=ho.cases
 · exact⟨rfl,ah.err (av HGy.out hg) (by unfold Px.cZ;rw[if_pos h0];exact hr)⟩
 have HRz:=hd hr;have HXz:=hd hx;have HGz:=hd (av HGy.out hg);obtain⟨cs,rfl⟩:=ky hv;have HVz:=hd hv;clear hr hx hg ho hv;go_wp2_with fail;go_ret;exact ah.ok (a:=s) (q':=qz) HGz.out (by unfold Px.cZ;rw[if_pos h0];exact HRz.out) HVz.out HXz.out
theorem FD(B:Nat)(lv:Value)(ts:List Lx.Tok)(sz:Nat)(dp:Bool)(w:World)(q:List Lx.Tok)(h:Cx w B lv ts sz q dp)(h0:Px.sees Px.eP q=false)(h1:Px.sees Px.kz q=true):
   Calls Tryz.prog 28 #[.pointer (some ⟨B,0,none⟩)] w (ah w B lv ts sz dp (Px.cZ sz) q (GA B) aS):=by
 have HX0:=hd h;have HG0:=hd (grownBy_refl w (some B));clear h;go_enter Tryz.func28,Tryz.ntmps28;go_wp2_with fail;refine(cB ⟨#[67,82,69,65,84,69]⟩ _ B lv ts sz q dp HX0.out h0 (by simp)).mono ?_;rintro x w1 ⟨rfl,hb⟩;have HX1:=hd (HX0.out.below hb);have HG1:=hd (av HG0.out (Below.grownBy (row:=some B) hb));clear hb HX0 HG0;go_wp2_with fail;refine(mg ⟨#[68,82,79,80]⟩ _ B lv ts sz q dp HX1.out h1 (by simp)).mono ?_;rintro x wy ⟨rfl,hxy,hgy⟩;have HXy:=hd hxy;have HGy:=hd (av HG1.out hgy);clear hxy hgy HX1 HG1;go_wp2_with fail;refine(aY ⟨#[84,65,66,76,69]⟩ wy _ rfl B lv ts sz q.tail dp HXy.out (by simp)).mono ?_;rintro x w7 ho;obtain⟨hg,⟨p,c,hr,rfl⟩|⟨_,q7,v,hr,rfl,hv,hx⟩⟩:=ho.cases
 · exact⟨rfl,ah.err (av HGy.out hg) (by unfold Px.cZ;rw[if_neg (by simp[h0])];rw[if_pos h1];exact Px.Rg.err hr)⟩
 cases hv
 have HR7:=hd hr;have HX7:Hid (Cx w7 B lv ts sz q7 dp):=hx;have HG7:=hd (av HGy.out hg);clear hr hx hg ho;go_wp2_with fail;refine(dz w7 B lv ts sz q7 dp HX7.out).mono ?_;rintro x w8 ho;obtain⟨hg,⟨p,c,hr,rfl⟩|⟨n,q8,v,hr,rfl,hv,hx⟩⟩:=ho.cases
 · exact⟨rfl,ah.err (av HG7.out hg) (by unfold Px.cZ;rw[if_neg (by simp[h0])];rw[if_pos h1];exact Px.Rg.go HR7.out (Px.Rg.err hr))⟩
 cases hv
 have HR8:=hd hr;have HX8:Hid (Cx w8 B lv ts sz q8 dp):=hx;have HG8:=hd (av HG7.out hg);clear hr hx hg ho;go_wp2_with fail;go_ret;exact ah.ok (a:=Px.St.drop n) (q':=q8) HG8.out (by unfold Px.cZ;rw[if_neg (by simp[h0])];rw[if_pos h1];exact Px.Rg.go HR7.out (Px.Rg.go HR8.out rfl)) rfl HX8.out
theorem BJ(B:Nat)(lv:Value)(ts:List Lx.Tok)(sz:Nat)(dp:Bool)(w:World)(q:List Lx.Tok)(h:Cx w B lv ts sz q dp)(h0:Px.sees Px.eP q=false)(h1:Px.sees Px.kz q=false)(h2:Px.sees Px.gz q=true):
   Calls Tryz.prog 28 #[.pointer (some ⟨B,0,none⟩)] w (ah w B lv ts sz dp (Px.cZ sz) q (GA B) aS):=by
 have HX0:=hd h;have HG0:=hd (grownBy_refl w (some B));clear h;go_enter Tryz.func28,Tryz.ntmps28;go_wp2_with fail;refine(cB ⟨#[67,82,69,65,84,69]⟩ _ B lv ts sz q dp HX0.out h0 (by simp)).mono ?_;rintro x w1 ⟨rfl,hb⟩;have HX1:=hd (HX0.out.below hb);have HG1:=hd (av HG0.out (Below.grownBy (row:=some B) hb));clear hb HX0 HG0;go_wp2_with fail;refine(cB ⟨#[68,82,79,80]⟩ _ B lv ts sz q dp HX1.out h1 (by simp)).mono ?_;rintro x w2 ⟨rfl,hb⟩;have HX2:=hd (HX1.out.below hb);have HG2:=hd (av HG1.out (Below.grownBy (row:=some B) hb));clear hb HX1 HG1;go_wp2_with fail;refine(mg ⟨#[73,78,83,69,82,84]⟩ _ B lv ts sz q dp HX2.out h2 (by simp)).mono ?_;rintro x wy ⟨rfl,hxy,hgy⟩;have HXy:=hd hxy;have HGy:=hd (av HG2.out hgy);clear hxy hgy HX2 HG2;go_wp2_with fail;refine(zB B lv ts sz dp _ q.tail HXy.out).mono ?_;rintro x wz ho;obtain⟨hg,⟨p,c,hr,rfl⟩|⟨s,qz,v,hr,rfl,hv,hx⟩⟩:=ho.cases
 · exact⟨rfl,ah.err (av HGy.out hg) (by unfold Px.cZ;rw[if_neg (by simp[h0])];rw[if_neg (by simp[h1])];rw[if_pos h2];exact hr)⟩
 have HRz:=hd hr;have HXz:=hd hx;have HGz:=hd (av HGy.out hg);obtain⟨cs,rfl⟩:=ky hv;have HVz:=hd hv;clear hr hx hg ho hv;go_wp2_with fail;go_ret;exact ah.ok (a:=s) (q':=qz) HGz.out (by unfold Px.cZ;rw[if_neg (by simp[h0])];rw[if_neg (by simp[h1])];rw[if_pos h2];exact HRz.out) HVz.out HXz.out
theorem BX(B:Nat)(lv:Value)(ts:List Lx.Tok)(sz:Nat)(dp:Bool)(w:World)(q:List Lx.Tok)(h:Cx w B lv ts sz q dp)(h0:Px.sees Px.eP q=false)(h1:Px.sees Px.kz q=false)(h2:Px.sees Px.gz q=false)(h3:Px.sees Px.gP q=true):
   Calls Tryz.prog 28 #[.pointer (some ⟨B,0,none⟩)] w (ah w B lv ts sz dp (Px.cZ sz) q (GA B) aS):=by
 have HX0:=hd h;have HG0:=hd (grownBy_refl w (some B));clear h;go_enter Tryz.func28,Tryz.ntmps28;go_wp2_with fail;refine(cB ⟨#[67,82,69,65,84,69]⟩ _ B lv ts sz q dp HX0.out h0 (by simp)).mono ?_;rintro x w1 ⟨rfl,hb⟩;have HX1:=hd (HX0.out.below hb);have HG1:=hd (av HG0.out (Below.grownBy (row:=some B) hb));clear hb HX0 HG0;go_wp2_with fail;refine(cB ⟨#[68,82,79,80]⟩ _ B lv ts sz q dp HX1.out h1 (by simp)).mono ?_;rintro x w2 ⟨rfl,hb⟩;have HX2:=hd (HX1.out.below hb);have HG2:=hd (av HG1.out (Below.grownBy (row:=some B) hb));clear hb HX1 HG1;go_wp2_with fail;refine(cB ⟨#[73,78,83,69,82,84]⟩ _ B lv ts sz q dp HX2.out h2 (by simp)).mono ?_;rintro x w3 ⟨rfl,hb⟩;have HX3:=hd (HX2.out.below hb);have HG3:=hd (av HG2.out (Below.grownBy (row:=some B) hb));clear hb HX2 HG2;go_wp2_with fail;refine(mg ⟨#[68,69,76,69,84,69]⟩ _ B lv ts sz q dp HX3.out h3 (by simp)).mono ?_;rintro x wy ⟨rfl,hxy,hgy⟩;have HXy:=hd hxy;have HGy:=hd (av HG3.out hgy);clear hxy hgy HX3 HG3;go_wp2_with fail;refine(yX B lv ts sz dp _ q.tail HXy.out).mono ?_;rintro x wz ho;obtain⟨hg,⟨p,c,hr,rfl⟩|⟨s,qz,v,hr,rfl,hv,hx⟩⟩:=ho.cases
 · exact⟨rfl,ah.err (av HGy.out hg) (by unfold Px.cZ;rw[if_neg (by simp[h0])];rw[if_neg (by simp[h1])];rw[if_neg (by simp[h2])];rw[if_pos h3];exact hr)⟩
 have HRz:=hd hr;have HXz:=hd hx;have HGz:=hd (av HGy.out hg);obtain⟨cs,rfl⟩:=ky hv;have HVz:=hd hv;clear hr hx hg ho hv;go_wp2_with fail;go_ret;exact ah.ok (a:=s) (q':=qz) HGz.out (by unfold Px.cZ;rw[if_neg (by simp[h0])];rw[if_neg (by simp[h1])];rw[if_neg (by simp[h2])];rw[if_pos h3];exact HRz.out) HVz.out HXz.out
theorem Aj(B:Nat)(lv:Value)(ts:List Lx.Tok)(sz:Nat)(dp:Bool)(w:World)(q:List Lx.Tok)(h:Cx w B lv ts sz q dp)(h0:Px.sees Px.eP q=false)(h1:Px.sees Px.kz q=false)(h2:Px.sees Px.gz q=false)(h3:Px.sees Px.gP q=false)(h4:Px.sees Px.iP q=true):
   Calls Tryz.prog 28 #[.pointer (some ⟨B,0,none⟩)] w (ah w B lv ts sz dp (Px.cZ sz) q (GA B) aS):=by
 have HX0:=hd h;have HG0:=hd (grownBy_refl w (some B));clear h;go_enter Tryz.func28,Tryz.ntmps28;go_wp2_with fail;refine(cB ⟨#[67,82,69,65,84,69]⟩ _ B lv ts sz q dp HX0.out h0 (by simp)).mono ?_;rintro x w1 ⟨rfl,hb⟩;have HX1:=hd (HX0.out.below hb);have HG1:=hd (av HG0.out (Below.grownBy (row:=some B) hb));clear hb HX0 HG0;go_wp2_with fail;refine(cB ⟨#[68,82,79,80]⟩ _ B lv ts sz q dp HX1.out h1 (by simp)).mono ?_;rintro x w2 ⟨rfl,hb⟩;have HX2:=hd (HX1.out.below hb);have HG2:=hd (av HG1.out (Below.grownBy (row:=some B) hb));clear hb HX1 HG1;go_wp2_with fail;refine(cB ⟨#[73,78,83,69,82,84]⟩ _ B lv ts sz q dp HX2.out h2 (by simp)).mono ?_;rintro x w3 ⟨rfl,hb⟩;have HX3:=hd (HX2.out.below hb);have HG3:=hd (av HG2.out (Below.grownBy (row:=some B) hb));clear hb HX2 HG2;go_wp2_with fail;refine(cB ⟨#[68,69,76,69,84,69]⟩ _ B lv ts sz q dp HX3.out h3 (by simp)).mono ?_;rintro x w4 ⟨rfl,hb⟩;have HX4:=hd (HX3.out.below hb);have HG4:=hd (av HG3.out (Below.grownBy (row:=some B) hb));clear hb HX3 HG3;go_wp2_with fail;refine(mg ⟨#[85,80,68,65,84,69]⟩ _ B lv ts sz q dp HX4.out h4 (by simp)).mono ?_;rintro x wy ⟨rfl,hxy,hgy⟩;have HXy:=hd hxy;have HGy:=hd (av HG4.out hgy);clear hxy hgy HX4 HG4;go_wp2_with fail;refine(yS B lv ts sz dp _ q.tail HXy.out).mono ?_;rintro x wz ho;obtain⟨hg,⟨p,c,hr,rfl⟩|⟨s,qz,v,hr,rfl,hv,hx⟩⟩:=ho.cases
 · exact⟨rfl,ah.err (av HGy.out hg) (by unfold Px.cZ;rw[if_neg (by simp[h0])];rw[if_neg (by simp[h1])];rw[if_neg (by simp[h2])];rw[if_neg (by simp[h3])];rw[if_pos h4];exact hr)⟩
 have HRz:=hd hr;have HXz:=hd hx;have HGz:=hd (av HGy.out hg);obtain⟨cs,rfl⟩:=ky hv;have HVz:=hd hv;clear hr hx hg ho hv;go_wp2_with fail;go_ret;exact ah.ok (a:=s) (q':=qz) HGz.out (by unfold Px.cZ;rw[if_neg (by simp[h0])];rw[if_neg (by simp[h1])];rw[if_neg (by simp[h2])];rw[if_neg (by simp[h3])];rw[if_pos h4];exact HRz.out) HVz.out HXz.out
theorem Ca(B:Nat)(lv:Value)(ts:List Lx.Tok)(sz:Nat)(dp:Bool)(w:World)(q:List Lx.Tok)(h:Cx w B lv ts sz q dp)(h0:Px.sees Px.eP q=false)(h1:Px.sees Px.kz q=false)(h2:Px.sees Px.gz q=false)(h3:Px.sees Px.gP q=false)(h4:Px.sees Px.iP q=false):
   Calls Tryz.prog 28 #[.pointer (some ⟨B,0,none⟩)] w (ah w B lv ts sz dp (Px.cZ sz) q (GA B) aS):=by
 have HX0:=hd h;have HG0:=hd (grownBy_refl w (some B));clear h;go_enter Tryz.func28,Tryz.ntmps28;go_wp2_with fail;refine(cB ⟨#[67,82,69,65,84,69]⟩ _ B lv ts sz q dp HX0.out h0 (by simp)).mono ?_;rintro x w1 ⟨rfl,hb⟩;have HX1:=hd (HX0.out.below hb);have HG1:=hd (av HG0.out (Below.grownBy (row:=some B) hb));clear hb HX0 HG0;go_wp2_with fail;refine(cB ⟨#[68,82,79,80]⟩ _ B lv ts sz q dp HX1.out h1 (by simp)).mono ?_;rintro x w2 ⟨rfl,hb⟩;have HX2:=hd (HX1.out.below hb);have HG2:=hd (av HG1.out (Below.grownBy (row:=some B) hb));clear hb HX1 HG1;go_wp2_with fail;refine(cB ⟨#[73,78,83,69,82,84]⟩ _ B lv ts sz q dp HX2.out h2 (by simp)).mono ?_;rintro x w3 ⟨rfl,hb⟩;have HX3:=hd (HX2.out.below hb);have HG3:=hd (av HG2.out (Below.grownBy (row:=some B) hb));clear hb HX2 HG2;go_wp2_with fail;refine(cB ⟨#[68,69,76,69,84,69]⟩ _ B lv ts sz q dp HX3.out h3 (by simp)).mono ?_;rintro x w4 ⟨rfl,hb⟩;have HX4:=hd (HX3.out.below hb);have HG4:=hd (av HG3.out (Below.grownBy (row:=some B) hb));clear hb HX3 HG3;go_wp2_with fail;refine(cB ⟨#[85,80,68,65,84,69]⟩ _ B lv ts sz q dp HX4.out h4 (by simp)).mono ?_;rintro x w5 ⟨rfl,hb⟩;have HX5:=hd (HX4.out.below hb);have HG5:=hd (av HG4.out (Below.grownBy (row:=some B) hb));clear hb HX4 HG4;go_wp2_with fail;refine(aY ⟨#[83,69,76,69,67,84]⟩ w5 _ rfl B lv ts sz q dp HX5.out (by simp)).mono ?_;rintro x wy ho;obtain⟨hg,⟨p,c,hr,rfl⟩|⟨_,qy,v,hr,rfl,hv,hx⟩⟩:=ho.cases
 · exact⟨rfl,ah.err (av HG5.out hg) (by unfold Px.cZ;rw[if_neg (by simp[h0])];rw[if_neg (by simp[h1])];rw[if_neg (by simp[h2])];rw[if_neg (by simp[h3])];rw[if_neg (by simp[h4])];exact Px.Rg.err hr)⟩
 cases hv
 have HRy:=hd hr;have HXy:Hid (Cx wy B lv ts sz qy dp):=hx;have HGy:=hd (av HG5.out hg);clear hr hx hg ho;go_wp2_with fail;refine(rf B lv ts sz dp _ qy HXy.out).mono ?_;rintro x wz ho;obtain⟨hg,⟨p,c,hr,rfl⟩|⟨s,qz,v,hr,rfl,hv,hx⟩⟩:=ho.cases
 · exact⟨rfl,ah.err (av HGy.out hg) (by unfold Px.cZ;rw[if_neg (by simp[h0])];rw[if_neg (by simp[h1])];rw[if_neg (by simp[h2])];rw[if_neg (by simp[h3])];rw[if_neg (by simp[h4])];exact Px.Rg.go HRy.out hr)⟩
 have HRz:=hd hr;have HXz:=hd hx;have HGz:=hd (av HGy.out hg);obtain⟨cs,rfl⟩:=ky hv;have HVz:=hd hv;clear hr hx hg ho hv;go_wp2_with fail;go_ret;exact ah.ok (a:=s) (q':=qz) HGz.out (by unfold Px.cZ;rw[if_neg (by simp[h0])];rw[if_neg (by simp[h1])];rw[if_neg (by simp[h2])];rw[if_neg (by simp[h3])];rw[if_neg (by simp[h4])];exact Px.Rg.go HRy.out HRz.out) HVz.out HXz.out
theorem Cu(B:Nat)(lv:Value)(ts:List Lx.Tok)(sz:Nat)(dp:Bool)(w:World)(q:List Lx.Tok)(h:Cx w B lv ts sz q dp):
   Calls Tryz.prog 28 #[.pointer (some ⟨B,0,none⟩)] w (ah w B lv ts sz dp (Px.cZ sz) q (GA B) aS):=by
 cases h0:Px.sees Px.eP q with
 |true=>exact Bp B lv ts sz dp w q h h0
 |false=>
  cases h1:Px.sees Px.kz q with
  |true=>exact FD B lv ts sz dp w q h h0 h1
  |false=>
   cases h2:Px.sees Px.gz q with
   |true=>exact BJ B lv ts sz dp w q h h0 h1 h2
   |false=>
    cases h3:Px.sees Px.gP q with
    |true=>exact BX B lv ts sz dp w q h h0 h1 h2 h3
    |false=>
     cases h4:Px.sees Px.iP q with
     |true=>exact Aj B lv ts sz dp w q h h0 h1 h2 h3 h4
     |false=>exact Ca B lv ts sz dp w q h h0 h1 h2 h3 h4
def nL(w:World)(B:Nat):Nat:=match w.cell? ⟨B,1,none⟩with|some (.int _ q)=>q.toNat|_=>0
theorem Rd.nL(h:Rd w B s k st):nL w B=k:=by
 have e:w.cell? ⟨B,1,none⟩=some (.int .i64 (k:Int)):=h.blk.cell 1;unfold Go.Proofs.YthhhfcdakfbpkaaGreatDoor.nL;rw[e];simp
theorem qI:∀l:Lx.Bs,Lx.skipM false l=Lx.cnt Lx.isSp l+Lx.skipM false (l.drop (Lx.cnt Lx.isSp l))
 |[]=>by simp[Lx.skipM,Lx.cnt]
 |b::r=>by
  by_cases hb:Lx.isSp b=true
  · have ih:=qI r
    have h45:b.toNat≠45:=by unfold Lx.isSp at hb;simp at hb;omega
    simp only[Lx.cnt,hb,if_true,List.drop_succ_cons]
    conv=>lhs;unfold Lx.skipM
    rw[if_neg (by omega),if_pos hb];omega
  simp[Lx.cnt,hb]
theorem Av(q:UInt8->Bool):∀l:Lx.Bs,Lx.cnt q (l.drop (Lx.cnt q l))=0
 |[]=>by simp[Lx.cnt]
 |b::r=>by
  by_cases hb:q b=true
  · simp only[Lx.cnt,hb,if_true,List.drop_succ_cons];exact Av q r
  simp[Lx.cnt,hb]
theorem wG:∀l:Lx.Bs,Lx.skipM true l=Lx.cnt Lx.fo l+Lx.skipM false (l.drop (Lx.cnt Lx.fo l))
 |[]=>by simp[Lx.skipM,Lx.cnt]
 |b::r=>by
  by_cases hb:Lx.fo b=true
  · have ih:=wG r;simp only[Lx.cnt,hb,if_true,List.drop_succ_cons]
    conv=>lhs;unfold Lx.skipM
    rw[if_pos hb];omega
  have h10:b.toNat=10:=by unfold Lx.fo at hb;simpa using hb
  have hs:Lx.isSp b=true:=by unfold Lx.isSp;simp[h10]
  simp only[Lx.cnt,hb,Bool.false_eq_true,if_false,List.drop_zero,Nat.zero_add]
  conv=>lhs;unfold Lx.skipM
  conv=>rhs;unfold Lx.skipM
  rw[if_neg hb,if_neg (by omega),if_pos hs]
theorem Gq(l:Lx.Bs)(h:Lx.cnt Lx.isSp l=0):Lx.skipM false l=if Lib.hasPrefix l [45,45]=true then Lx.cnt Lx.fo l+Lx.skipM false (l.drop (Lx.cnt Lx.fo l))else 0:=by
 have hp:Lib.hasPrefix l [45,45]=true↔∃r,l=45::45::r:=by
  unfold Lib.hasPrefix
  match l with
  |[]=>simp
  |[b]=>simp
  |b::c::r=>
   simp only[List.isPrefixOf,Bool.and_eq_true,beq_iff_eq,Bool.and_true]
   constructor
   · rintro⟨rfl,rfl⟩;exact⟨r,rfl⟩
   rintro⟨r',e⟩;simp at e;exact⟨e.1.symm,e.2.1.symm⟩
 split
 · rename_i hq;obtain⟨r,rfl⟩:=hp.1 hq;rw[<-wG]
   conv=>lhs;unfold Lx.skipM
   conv=>rhs;unfold Lx.skipM
   rw[if_pos ⟨rfl,rfl⟩,if_pos (by decide)]
 rename_i hq
 match l,h,hq,hp with
 |[],_,_,_=>rfl
 |b::r,h,hq,hp=>
  have hs:¬Lx.isSp b=true:=by intro hb;simp[Lx.cnt,hb]at h
  unfold Lx.skipM;rw[if_neg,if_neg hs];rintro⟨q1,q2⟩;have:b=45:=UInt8.toNat_inj.1 (by rw[q1];rfl);subst this
  cases r with
  |nil=>simp at q2
  |cons c r=>simp at q2;subst q2;exact hq (hp.2 ⟨r,rfl⟩)
theorem GR(l:Lx.Bs)(h:Lib.hasPrefix l [45,45]=true):1<=Lx.cnt Lx.fo l:=by
 match l,h with
 |[],h=>simp[Lib.hasPrefix]at h
 |b::r,h=>
  have:b=45:=by
   unfold Lib.hasPrefix at h;simp only[List.isPrefixOf,Bool.and_eq_true,beq_iff_eq]at h;exact h.1.symm
  subst this
  have:Lx.fo 45=true:=by decide
  simp[Lx.cnt,this]
theorem JL(w:World)(B:Nat)(s:ByteArray)(k st:Nat)(h:Rd w B s k st):
   Calls Tryz.prog 52 #[.pointer (some ⟨B,0,none⟩)] w fun e w'=>e=.returned (.bool (decide (k+Lx.bJ (s.data.toList.drop k)<s.size)))/\Rd w' B s (k+Lx.bJ (s.data.toList.drop k)) st/\w.grownBy w' (some B):=by
 have hsm:=h.small;have H:=hd h;clear h;go_enter Tryz.func52,Tryz.ntmps52;go_wp2;go_loopw [4] (fun _ wr=>∃j:Nat,Hid (Rd wr B s j st)/\Hid (w.grownBy wr (some B))/\Hid (k+Lx.bJ (s.data.toList.drop k)=j+Lx.skipM false (s.data.toList.drop j))) (fun _ wr=>s.size-nL wr B)
 case atStart=>exact⟨k,H,grownBy_refl _ _,rfl⟩
 case round=>
  obtain⟨j,HR,HG,HK⟩:=hrel;go_wp2_with fail;refine(ry wr B s j st HR.out).mono ?_;rintro e w1 ⟨u,rfl, -,h1,g1⟩;have HE:=hd (qI (s.data.toList.drop j));have HST:=hd (Av Lx.isSp (s.data.toList.drop j));rw[List.drop_drop]at HE HST
  have hn:0<=Lx.cnt Lx.isSp (s.data.toList.drop j):=by omega
  generalize Lx.cnt Lx.isSp (s.data.toList.drop j)=n at*;have G1:=hd (av HG.out g1);clear g1;obtain⟨⟨b0,b1,b2⟩,b3,b4,b5⟩:=h1.blk.three;have hle1:=h1.le;have HSK:=hd (Gq (s.data.toList.drop (j+n)) HST.out);have HX:=hd (Lib.extract_to_end s (j+n))
  cases hpx:Lib.hasPrefix (s.data.toList.drop (j+n)) [45,45]
  · go_wp2
    go_region_with (go_at_call 112;refine(Tryz.strings_HasPrefix _ _ _).mono ?_;rintro e w' ⟨rfl,rfl⟩;rw[HX.out])
    all_goals
     go_wp2
     go_region
     all_goals go_wp2
     all_goals go_ret
     all_goals
      have hk:k+Lx.bJ (s.data.toList.drop k)=j+n:=by
       have e1:=HK.out;have e2:=HE.out;have e3:=HSK.out;rw[hpx]at e3;simp only[Bool.false_eq_true,if_false]at e3;omega
      rw[hk];exact⟨fG (by rw[Bool.eq_iff_iff];simp;omega),h1.drew.drew,grownBy_drew (grownBy_drew G1.out)⟩
  have hd2:=GR _ hpx;go_wp2
  go_region_with (go_at_call 112;refine(Tryz.strings_HasPrefix _ _ _).mono ?_;rintro e w' ⟨rfl,rfl⟩;rw[HX.out])
  all_goals
   go_wp2_with fail;refine(uX _ B s (j+n) st h1.drew).mono ?_;rintro e w2 ⟨u2,rfl, -,h2,g2⟩;go_wp2;refine⟨⟨j+n+Lx.cnt Lx.fo (s.data.toList.drop (j+n)),h2,av (grownBy_drew G1.out) g2,?_⟩,?_⟩
   · have e1:=HK.out;have e2:=HE.out;have e3:=HSK.out;rw[hpx,List.drop_drop]at e3;simp only[if_true]at e3;show _=_;omega
   have hle2:=h2.le;rw[h2.nL,HR.out.nL];omega
theorem FV(k:Nat)(h:k<27)(w:World):(Instr.index 383 (.agg (dY Lx.keys)) (.int .i64 (k:Int))).run Tryz.prog w=.ok (.string ⟨(Lx.keys.getD k []).toArray⟩) w:=by
 have hk:Lx.keys[k]? =some (Lx.keys.getD k []):=by
  rw[List.getD_eq_getElem?_getD,List.getElem?_eq_getElem (show k<Lx.keys.length from h)];rfl
 have hc:(dY Lx.keys)[k]? =some (.string ⟨(Lx.keys.getD k []).toArray⟩):=by
  unfold dY;simp only[List.getElem?_toArray,List.getElem?_map,hk,Option.map_some]
 generalize dY Lx.keys=cs at*;simp[Instr.index,run_underlying Tryz.underlying383,asIntOf,part,Tryz.isAgg9,Tryz.sizeOf9,go_sem,h,hc]
theorem Cg(k:Nat)(h:k<16)(w:World):(Instr.index 338 (.agg (dY jH)) (.int .i64 (k:Int))).run Tryz.prog w=.ok (.string ⟨(jH.getD k []).toArray⟩) w:=by
 have hk:jH[k]? =some (jH.getD k []):=by
  rw[List.getD_eq_getElem?_getD,List.getElem?_eq_getElem (show k<jH.length from h)];rfl
 have hc:(dY jH)[k]? =some (.string ⟨(jH.getD k []).toArray⟩):=by
  unfold dY;simp only[List.getElem?_toArray,List.getElem?_map,hk,Option.map_some]
 generalize dY jH=cs at*;simp[Instr.index,run_underlying Tryz.underlying338,asIntOf,part,Tryz.isAgg9,Tryz.sizeOf9,go_sem,h,hc]
theorem vR(t:ByteArray)(w:World)(he:Nf w):Calls Tryz.prog 232 #[.string t] w fun e w'=>e=.returned (.bool (Lx.hasB Lx.keys t.data.toList))/\w'=w:=by
 obtain⟨ty,fr,hg⟩:=he.kws;have HG:=hd hg;clear hg;go_enter Tryz.func232,Tryz.ntmps232;go_wp2_with(refine wpList_load_row rfl 383 _ rfl 4 rfl ty _ fr _ HG.out Tryz.underlying383 rfl (by kernel_rfl) ?_)
 go_loop [6] (fun i=>∃k:Nat,k<=27/\i=.int .i64 k/\Hid (Lx.hasB Lx.keys t.data.toList=Lx.hasB (Lx.keys.drop k) t.data.toList)) (fun i=>27-(intOf i).toNat)
 case atStart=>exact⟨0,by omega,rfl,rfl⟩
 case round=>
  obtain⟨k,hk,rfl,HK⟩:=hrel;by_cases hlt:k<27
  · have hix:=FV k hlt;have HS:=hd (Au Lx.keys t.data.toList k hlt);obtain⟨u,hu⟩:∃u:ByteArray,u=⟨(Lx.keys.getD k []).toArray⟩:=⟨_,rfl⟩
    have HU:Hid (u.data.toList=Lx.keys.getD k []):=by rw[hu];show _=_;simp
    rw[<-hu]at hix;clear hu;go_wp2
    · go_ret
      have q:(u.toList==t.toList)=true:=by assumption
      exact⟨fG (by rw[HK.out,HS.out,<-HU.out,<-Lib.toList_data,<-Lib.toList_data,q];simp),rfl⟩
    go_round
    case rel=>
     have q:(u.toList==t.toList)=false:=by assumption
     exact⟨k+1,by omega,by go_num,by show _=_;rw[HK.out,HS.out,<-HU.out];rw[Lib.toList_data,Lib.toList_data]at q;rw[q];simp⟩
    case measure=>simp[intOf];omega
  go_wp2;go_ret;exact⟨fG (by rw[HK.out,List.drop_eq_nil_of_le (by show 27<=k;omega)];rfl),rfl⟩
theorem Aw(t:ByteArray)(w:World)(hm:t.size<=100000):Calls Tryz.prog 230 #[.string t,.string ⟨#[57,50,50,51,51,55,50,48,51,54,56,53,52,55,55,53,56,48,56]⟩] w fun e w'=>e=.returned (.bool (Lx.dR t.data.toList))/\w'=w:=by
 have HS:=hd (Lib.size_eq t);have HTL:=hd (Lib.toList_data t);by_cases h19:t.size=19
 · have q:((t.size:Int) !=19)=false:=by rw[h19];rfl
   have HO:Hid (Lx.dR t.data.toList=(!Op.bytesLess t.data.toList Lx.top&& !(t.data.toList==Lx.top))):=by
    show _=_;unfold Lx.dR;rw[<-HS.out,h19];simp
   have H19:=hd h19;clear h19;go_enter Tryz.func230,Tryz.ntmps230;go_wp2;go_ret;refine⟨fG ?_,rfl⟩;rw[HO.out,<-HTL.out]
   rfl
 have q:((t.size:Int) !=19)=true:=by rw[bne_iff_ne];omega
 have HO:Hid (Lx.dR t.data.toList=decide (19<t.size)):=by
  show _=_;unfold Lx.dR;rw[<-HS.out];simp[h19]
 clear h19;go_enter Tryz.func230,Tryz.ntmps230;go_wp2;go_ret;refine⟨fG ?_,rfl⟩;rw[HO.out,Bool.eq_iff_iff];simp;omega
def Told(r:Except Nat (Nat×Lx.Bs×Nat))(w:World)(B:Nat)(s:ByteArray)(k st:Nat)(out:Nat->ByteArray->Value)(e:Ending)(w':World):Prop:=
 w.grownBy w' (some B)/\match r with
 |.ok (c,t,n)=>∃tv:ByteArray,tv.data.toList=t/\e=.returned (out c tv)/\Rd w' B s (k+n) st
 |.error c=>e=.panicked [{v:=.iface 74 (.agg #[.int .i64 (st:Int),.int .i64 (c:Int)]),recovered:=false}]
theorem nM:∀(l:Lx.Bs) (j:Nat) (b:UInt8),(l.take (Lx.cnt Lx.dn l))[j]? =some b->b.toNat<128
 |[],j,b,h=>by simp at h
 |a::r,j,b,h=>by
  by_cases ha:Lx.dn a=true
  · simp only[Lx.cnt,ha,if_true,List.take_succ_cons]at h
    cases j with
    |zero=>
     simp at h;subst h;unfold Lx.dn Lx.aH Lx.isLet at ha;simp at ha;omega
    |succ j=>exact nM r j b (by simpa using h)
  simp[Lx.cnt,ha]at h
theorem FC(l:Lx.Bs):Lib.toUpperA l=l.map Lx.LJ:=by
 unfold Lib.toUpperA
 congr 1
 funext b
 unfold Lib.upperB Lx.LJ Lib.isLowerB;by_cases h:97<=b.toNat/\b.toNat<=122
 · rw[if_pos h,if_pos];simp[UInt8.le_iff_toNat_le];exact h
 rw[if_neg h,if_neg];simp[UInt8.le_iff_toNat_le];omega
theorem Fy(l:Lx.Bs):Lib.toLowerA l=l.map Lx.yQ:=by
 unfold Lib.toLowerA
 congr 1
 funext b
 unfold Lib.lowerB Lx.yQ Lib.isUpperB;by_cases h:65<=b.toNat/\b.toNat<=90
 · rw[if_pos h,if_pos];simp[UInt8.le_iff_toNat_le];exact h
 rw[if_neg h,if_neg];simp[UInt8.le_iff_toNat_le];omega
def xW(c:Nat)(t:ByteArray):Value:=.tuple #[.int .i64 (c:Int),.string t]
def pY(_:Nat)(t:ByteArray):Value:=.string t
theorem Ii(w:World)(B:Nat)(s:ByteArray)(k st:Nat)(h:Rd w B s k st)(hk:k<s.size)(hl:Lx.isLet s[k]=true):
   Calls Tryz.prog 176 #[.pointer (some ⟨B,0,none⟩)] w (Told (Lx.oneT (s.data.toList.drop k)) w B s k st xW):=by
 have hsm:=h.small;have HL:=hd (Bq s k hk hl);have HA:=hd (nM (s.data.toList.drop k));go_enter Tryz.func176,Tryz.ntmps176;go_wp2_with fail;refine(uC w B s k st h).mono ?_;rintro e w1 ⟨u,rfl,hu,h1,g1⟩;have HU:=hd hu
 have hus:u.size<=2000:=by
  rw[Lib.size_eq,hu];simp;omega
 clear hu;go_wp2_with fail;refine(Tryz.strings_ToUpper_ascii u w1 (by omega) (by rw[HU.out];exact HA.out)).mono ?_;rintro e w2 ⟨rfl,hb2⟩;rw[FC];obtain⟨up,hup⟩:∃up:ByteArray,up=⟨(u.data.toList.map Lx.LJ).toArray⟩:=⟨_,rfl⟩;rw[<-hup]
 have HUP:Hid (up.data.toList=u.data.toList.map Lx.LJ):=by rw[hup];show _=_;simp
 clear hup;have h2:=h1.below hb2;have G2:=hd (av g1 (Below.grownBy hb2));clear hb2;go_wp2_with fail;refine(vR up w2 h2.env.weak).mono ?_;rintro e w' ⟨rfl,rfl⟩
 cases hkey:Lx.hasB Lx.keys up.data.toList
 · go_wp2_with fail;refine(Tryz.strings_ToLower_ascii u _ (by omega) (by rw[HU.out];exact HA.out)).mono ?_;rintro e w3 ⟨rfl,hb3⟩;rw[Fy];go_wp2
   go_ret2
   refine⟨av G2.out (Below.grownBy hb3),?_⟩;rw[HL.out,<-HU.out,<-HUP.out,hkey];exact⟨⟨(u.data.toList.map Lx.yQ).toArray⟩,by simp,rfl,h2.below hb3⟩
 go_wp2
 go_ret2
 refine⟨G2.out,?_⟩;rw[HL.out,<-HU.out,<-HUP.out,hkey];exact⟨up,rfl,rfl,h2⟩
theorem ER{p:Int->Bool}{q:UInt8->Bool}(hf:Fits p q)(h1:p (-1)=false)(h2:p (-2)=false)(hhigh:∀b:UInt8,128<=b.toNat->q b=false)(s:ByteArray)(k:Nat):p (bf s k).1=decide (0<Lx.cnt q (s.data.toList.drop k)):=by
 unfold bf;by_cases hk:k<s.size
 · rw[if_pos hk];by_cases hc:Lx.aD (s.data.toList.drop k)=0
   · rw[if_pos hc];have:=(oN s k hk hc).2;rw[zm q s k hk,if_neg (by rw[hhigh _ this];simp)];simpa using h2
   rw[if_neg hc];simp only
   cases hp:p ((Utf8.decode s k).1:Int)
   · rw[hf.no s k hk hp];simp
   have:=hf.yes s k hk hp;rw[this.1];simp;omega
 rw[if_neg hk,oo q s k (by omega)];simpa using h1
theorem Ep:∀l:Lx.Bs,Lx.cnt Lx.dn l=Lx.cnt Lx.aH l+Lx.cnt Lx.dn (l.drop (Lx.cnt Lx.aH l))
 |[]=>by simp[Lx.cnt]
 |b::r=>by
  have ih:=Ep r;by_cases hb:Lx.aH b=true
  · have hw:Lx.dn b=true:=by simp[Lx.dn,hb]
    simp only[Lx.cnt,hb,hw,if_true,List.drop_succ_cons];omega
  simp[Lx.cnt,hb]
theorem uP:∀l:Lx.Bs,l≠[]->Lx.leastB l=if l.dropWhile (· ==48)=[]then[48]else l.dropWhile (· ==48)
 |[],h=>absurd rfl h
 |[b],_=>by
  by_cases hb:b=48
  · subst hb;rfl
  have hq:(b==48)=false:=by simpa using hb
  simp[Lx.leastB,List.dropWhile,hq]
 |b::c::r,_=>by
  have ih:=uP (c::r) (by simp);unfold Lx.leastB;by_cases hb:b=48
  · subst hb
    have e:List.dropWhile (fun x=>x==48) ((48:UInt8)::c::r)=List.dropWhile (fun x=>x==48) (c::r):=by rw[List.dropWhile_cons];rfl
    rw[if_pos (show(48:UInt8).toNat=48 from rfl),ih,e]
  have:¬b.toNat=48:=fun e=>hb (UInt8.toNat_inj.1 (by rw[e];rfl))
  rw[if_neg this]
  have hq:(b==48)=false:=by simpa using hb
  simp[List.dropWhile,hq]
theorem ig(w:World)(B:Nat)(s:ByteArray)(k st:Nat)(h:Rd w B s k st)(hk:k<s.size)(hl:Lx.isLet s[k]=false)(hdg:Lx.aH s[k]=true):
   Calls Tryz.prog 174 #[.pointer (some ⟨B,0,none⟩)] w (Told (Lx.oneT (s.data.toList.drop k)) w B s k st pY):=by
 have hsm:=h.small;have HL:=hd (sJ s k hk hl hdg)
 have QB:Hid (0<Lx.cnt Lx.aH (s.data.toList.drop k)):=by show 0<_;rw[drop_at s k hk];exact Lx.nT hdg
 have HSub:=hd (Ep (s.data.toList.drop k));rw[List.drop_drop]at HSub;go_enter Tryz.func174,Tryz.ntmps174;go_wp2_with fail;refine(rq w B s k st h).mono ?_;rintro e w1 ⟨u,rfl,hu,h1,g1⟩;have hcl:=Lx.qh Lx.aH (s.data.toList.drop k);rw[List.length_drop,show s.data.toList.length=s.size from by simp]at hcl;generalize hgn:Lx.cnt Lx.aH (s.data.toList.drop k)=n at*;have HGN:=hd hgn;clear hgn;have HU:=hd hu
 have hus:u.size=n:=by
  rw[Lib.size_eq,hu];simp;omega
 have hus2:u.size<=2000:=by omega
 have HUS:=hd hus;clear hu hus;go_wp2_with fail;refine(nU w1 B s (k+n) st h1).mono ?_;rintro e w2 ⟨rfl,hb2⟩;have h2:=h1.below hb2;have G2:=hd (av g1 (Below.grownBy hb2));clear hb2;have HPk:=hd (ER yg (by decide) (by decide) (fun b hb=>by unfold Lx.dn Lx.aH Lx.isLet;simp;omega) s (k+n));generalize bf s (k+n)=d at*;obtain⟨c,m⟩:=d;simp only at HPk⊢;go_wp2_with fail;refine(ib _ _).mono ?_;rintro e w' ⟨rfl,rfl⟩;rw[HPk.out];by_cases hw:0<Lx.cnt Lx.dn (s.data.toList.drop (k+n))
 · go_wp2_with fail;refine(iA _ B s (k+n) st 2 h2).mono ?_;rintro e w3 ⟨rfl,rfl⟩;refine⟨rfl,G2.out,?_⟩;rw[HL.out,if_pos (by rw[HSub.out];omega)]
   rfl
 have HL2:Hid (Lx.oneT (s.data.toList.drop k)=if Lx.dR (Lx.leastB u.data.toList)then .error 3 else .ok (16,Lx.leastB u.data.toList,n)):=by rw[HL.out,if_neg (by rw[HSub.out];omega),HU.out];rfl
 go_wp2_with fail;refine(Tryz.strings_TrimLeft_one u 48 (by decide) _).mono ?_;rintro e w3 ⟨rfl,rfl⟩;obtain⟨t,htt⟩:∃t:ByteArray,t=⟨(Lib.trimLeftB u.data.toList 48).toArray⟩:=⟨_,rfl⟩;rw[<-htt]
 have HTT:Hid (t.data.toList=u.data.toList.dropWhile (· ==48)):=by rw[htt];show _=_;simp[Lib.trimLeftB]
 clear htt
 have hts:t.size<=2000:=by
  rw[Lib.size_eq,HTT.out];have:=(List.dropWhile_suffix (l:=u.data.toList) (· ==48)).length_le;rw[<-Lib.size_eq]at this;omega
 have HLT:=hd (uP u.data.toList (by intro e;have:=HUS.out;rw[Lib.size_eq,e]at this;have:=QB.out;simp at*;omega));rw[<-HTT.out]at HLT
 cases hem:t.toList.isEmpty
 · have hne:t.data.toList≠[]:=by intro e;rw[Lib.toList_data,e]at hem;cases hem
   have HNE:=hd hne;clear hne;go_wp2_with fail;refine(Aw t _ (by omega)).mono ?_;rintro e w3 ⟨rfl,rfl⟩
   cases hov:Lx.dR t.data.toList
   · go_wp2;go_ret;refine⟨G2.out,?_⟩;rw[HL2.out,HLT.out,if_neg HNE.out,hov];exact⟨t,rfl,rfl,h2⟩
   go_wp2_with fail;refine(iA _ B s (k+n) st 3 h2).mono ?_;rintro e w3 ⟨rfl,rfl⟩;refine⟨rfl,G2.out,?_⟩;rw[HL2.out,HLT.out,if_neg HNE.out,hov]
   rfl
 have he:t.data.toList=[]:=by rw[Lib.toList_data]at hem;simpa using hem
 have HE:=hd he;clear he;go_wp2;go_ret;refine⟨G2.out,?_⟩;rw[HL2.out,HLT.out,if_pos HE.out];exact⟨⟨#[48]⟩,rfl,rfl,h2⟩
def firstPre:List Lx.Bs->Lx.Bs->Option Lx.Bs
 |[],_=>none
 |a::r,l=>if Lib.hasPrefix l a then some a else firstPre r l
theorem gY(a:Lx.Bs)(ss:List Lx.Bs)(x:Lx.Bs):Lx.hasB (a::ss) x=true↔a=x\/Lx.hasB ss x=true:=by
 show(a==x||Lx.hasB ss x)=true↔_;simp
theorem oq(l:Lx.Bs):∀ss:List Lx.Bs,(∀x∈ss,x.length=2)->∀rest,firstPre (ss++rest) l=if 2<=l.length/\Lx.hasB ss (l.take 2)=true then some (l.take 2)else firstPre rest l
 |[],_,rest=>by simp[Lx.hasB]
 |a::ss,h,rest=>by
  have ih:=oq l ss (fun x hx=>h x (by simp[hx])) rest;have ha:a.length=2:=h a (by simp);have hp:=Lib.hasPrefix_of_take l a;rw[ha]at hp;show(if Lib.hasPrefix l a=true then some a else firstPre (ss++rest) l)=_;by_cases hc:2<=l.length/\l.take 2=a
  · rw[if_pos (by rw[<-hp];simp[hc.1,hc.2]),if_pos ⟨hc.1,(gY _ _ _).2 (.inl hc.2.symm)⟩,hc.2]
  rw[if_neg (by rw[<-hp];simpa using fun h1 h2=>hc ⟨h1,h2⟩),ih];by_cases hd:2<=l.length/\Lx.hasB ss (l.take 2)=true
  · rw[if_pos hd,if_pos ⟨hd.1,(gY _ _ _).2 (.inr hd.2)⟩]
  rw[if_neg hd,if_neg];rintro⟨q1,q2⟩;rcases(gY _ _ _).1 q2 with q|q
  · exact hc ⟨q1,q.symm⟩
  exact hd ⟨q1,q⟩
theorem oL(l:Lx.Bs)(hl:l≠[]):∀ss:List Lx.Bs,(∀x∈ss,x.length=1)->firstPre ss l=if Lx.hasB ss (l.take 1)=true then some (l.take 1)else none
 |[],_=>by simp[Lx.hasB,firstPre]
 |a::ss,h=>by
  have ih:=oL l hl ss (fun x hx=>h x (by simp[hx]));have ha:a.length=1:=h a (by simp);have hp:=Lib.hasPrefix_of_take l a;rw[ha]at hp;have h1:1<=l.length:=List.length_pos_iff.2 hl;show(if Lib.hasPrefix l a=true then some a else firstPre ss l)=_;by_cases hc:l.take 1=a
  · rw[if_pos (by rw[<-hp];simp[h1,hc]),if_pos ((gY _ _ _).2 (.inl hc.symm)),hc]
  rw[if_neg (by rw[<-hp];simpa using fun _ h2=>hc h2),ih];by_cases hd:Lx.hasB ss (l.take 1)=true
  · rw[if_pos hd,if_pos ((gY _ _ _).2 (.inr hd))]
  rw[if_neg hd,if_neg];intro q2;rcases(gY _ _ _).1 q2 with q|q
  · exact hc q.symm
  exact hd q
theorem sign_spec(s:ByteArray)(k:Nat)(hk:k<s.size)(hl:Lx.isLet s[k]=false)(hdg:Lx.aH s[k]=false)(hq:¬(s[k].toNat=39\/s[k].toNat=34)):
   Lx.oneT (s.data.toList.drop k)=match firstPre jH (s.data.toList.drop k)with|some x=> .ok (51,x,x.length)|none=> .error 2:=by
 have e:=drop_at s k hk
 have el:(s.data.toList.drop k).length=s.size-k:=by simp
 rw[EN s k hk hl hdg hq];unfold jH;rw[oq _ Lx.De (by decide) Lx.ones,oL _ (by rw[e];simp) Lx.ones (by decide),el];by_cases h1:2<=s.size-k/\Lx.hasB Lx.De ((s.data.toList.drop k).take 2)=true
 · rw[if_pos h1,if_pos h1];simp only;rw[List.length_take,el,Nat.min_eq_left h1.1]
 rw[if_neg h1,if_neg h1];by_cases h2:Lx.hasB Lx.ones ((s.data.toList.drop k).take 1)=true
 · rw[if_pos h2,if_pos h2];simp only;rw[List.length_take,el,Nat.min_eq_left (by omega)]
 rw[if_neg h2,if_neg h2]
theorem AU(ss:List Lx.Bs)(l:Lx.Bs)(k:Nat)(h:k<ss.length):firstPre (ss.drop k) l=if Lib.hasPrefix l (ss.getD k [])then some (ss.getD k [])else firstPre (ss.drop (k+1)) l:=by
 rw[List.drop_eq_getElem_cons h,List.getD_eq_getElem?_getD,List.getElem?_eq_getElem h]
 rfl
theorem hasPrefix_le{l p:Lx.Bs}(h:Lib.hasPrefix l p=true):p.length<=l.length:=by
 unfold Lib.hasPrefix at h;exact(List.isPrefixOf_iff_prefix.1 h).length_le
theorem G7(w:World)(B:Nat)(s:ByteArray)(k st:Nat)(h:Rd w B s k st)(hk:k<s.size)(hl:Lx.isLet s[k]=false)(hdg:Lx.aH s[k]=false)(hq:¬(s[k].toNat=39\/s[k].toNat=34)):
   Calls Tryz.prog 179 #[.pointer (some ⟨B,0,none⟩)] w (Told (Lx.oneT (s.data.toList.drop k)) w B s k st pY):=by
 have hsm:=h.small;have HSp:=hd (sign_spec s k hk hl hdg hq);obtain⟨ty,fr,hg⟩:=h.env.sgs;have HG:Hid (w.drew.heap[1]? =some (.cells (dY jH) ty fr)):=hg;clear hg hl hdg hq;obtain⟨⟨b0,b1,b2⟩,b3,b4,b5⟩:=h.blk.three;have HX:=hd (Lib.extract_to_end s k);go_enter Tryz.func179,Tryz.ntmps179;go_wp2
 go_region
 all_goals go_wp2_with(refine wpList_load_row rfl 338 _ rfl 1 rfl ty _ fr _ HG.out Tryz.underlying338 rfl (by kernel_rfl) ?_)
 go_loop [16] (fun i=>∃j:Nat,j<=16/\i=.int .i64 j/\Hid (firstPre jH (s.data.toList.drop k)=firstPre (jH.drop j) (s.data.toList.drop k))) (fun i=>16-(intOf i).toNat)
 case atStart=>exact⟨0,by omega,rfl,rfl⟩
 case round=>
  obtain⟨j,hj,rfl,HK⟩:=hrel;by_cases hlt:j<16
  · have hix:=Cg j hlt;have HS:=hd (AU jH (s.data.toList.drop k) j hlt);obtain⟨u,hu⟩:∃u:ByteArray,u=⟨(jH.getD j []).toArray⟩:=⟨_,rfl⟩
    have HU:Hid (u.data.toList=jH.getD j []):=by rw[hu];show _=_;simp
    rw[<-hu]at hix;clear hu;rw[<-HU.out]at HS;go_wp2_with fail;refine(Tryz.strings_HasPrefix _ _ _).mono ?_;rintro e w' ⟨rfl,rfl⟩;rw[HX.out]
    cases hpx:Lib.hasPrefix (s.data.toList.drop k) u.data.toList
    · go_wp2
      go_round
      case rel=>exact⟨j+1,by omega,by go_num,by show _=_;rw[HK.out,HS.out,hpx];rfl⟩
      case measure=>simp[intOf];omega
    have hul:u.size<=s.size-k:=by
     have:=hasPrefix_le hpx;rw[<-Lib.size_eq]at this;simpa using this
    go_wp2;go_ret;refine⟨av (grownBy_drew (grownBy_refl _ _)) (mY _ B 1 _),?_⟩;rw[HSp.out,HK.out,HS.out,hpx];refine⟨u,rfl,rfl,?_⟩;have:=h.drew.set1 (k+u.size) (by omega);rw[<-Lib.size_eq];exact this
  go_wp2_with fail;refine(iA _ B s k st 2 h.drew).mono ?_;rintro e w3 ⟨rfl,rfl⟩;refine⟨rfl,grownBy_drew (grownBy_refl _ _),?_⟩;rw[HSp.out,HK.out,List.drop_eq_nil_of_le (by show 16<=j;omega)]
  rfl
theorem Gc(l x:Lx.Bs)(n i lo hi:Nat)(hi':i<n)(hn:n<=l.length):Lx.folB (l.take n++x) i lo hi=Lx.folB l i lo hi:=by
 unfold Lx.folB;rw[List.getElem?_append_left (by simp;omega),List.getElem?_take_of_lt hi']
theorem C9(l x:Lx.Bs)(h0:Lx.aD l≠0):Lx.aD (l.take (Lx.aD l)++x)=Lx.aD l:=by
 have hle:=Lx.gF l;obtain⟨n,hn⟩:∃n,Lx.aD l=n:=⟨_,rfl⟩;rw[hn]at h0 hle⊢
 match l,hn,hle with
 |[],hn,hle=>simp[Lx.aD]at hn;omega
 |b::r,hn,hle=>
  obtain⟨n',rfl⟩:∃n',n=n'+1:=⟨n-1,by omega⟩;have ft:=Gc (b::r) x (n'+1)
  have e:(b::r).take (n'+1)++x=b::(r.take n'++x):=by simp
  simp only[e]at ft;rw[e];simp only[Lx.aD]at hn⊢;by_cases c1:b.toNat<128
  · rw[if_pos c1]at hn⊢;exact hn
  rw[if_neg c1]at hn⊢;by_cases c2:(194<=b.toNat/\b.toNat<=223)/\Lx.folB (b::r) 1 128 191=true
  · rw[if_pos c2]at hn;rw[if_pos ⟨c2.1,by rw[ft 1 128 191 (by omega) hle];exact c2.2⟩];exact hn
  rw[if_neg c2]at hn;by_cases c3:(224<=b.toNat/\b.toNat<=239)/\Lx.folB (b::r) 1 (Lx.jC b.toNat) (Lx.lZ b.toNat)=true/\Lx.folB (b::r) 2 128 191=true
  · rw[if_pos c3]at hn;rw[if_neg (by omega),if_pos ⟨c3.1,by rw[ft 1 _ _ (by omega) hle];exact c3.2.1,by rw[ft 2 _ _ (by omega) hle];exact c3.2.2⟩];exact hn
  rw[if_neg c3]at hn;by_cases c4:(240<=b.toNat/\b.toNat<=244)/\Lx.folB (b::r) 1 (Lx.jC b.toNat) (Lx.lZ b.toNat)=true/\Lx.folB (b::r) 2 128 191=true/\Lx.folB (b::r) 3 128 191=true
  · rw[if_pos c4]at hn;rw[if_neg (by omega),if_neg (by omega),if_pos ⟨c4.1,by rw[ft 1 _ _ (by omega) hle];exact c4.2.1,by rw[ft 2 _ _ (by omega) hle];exact c4.2.2.1,by rw[ft 3 _ _ (by omega) hle];exact c4.2.2.2⟩];exact hn
  rw[if_neg c4]at hn;omega
theorem tN(l x:Lx.Bs)(h0:Lx.aD l≠0)(hb:∀b r,l=b::r->b.toNat≠0):Lx.bH (l.take (Lx.aD l)++x)=Lx.bH x:=by
 have hle:=Lx.gF l;have hc:=C9 l x h0;obtain⟨n,hn⟩:∃n,Lx.aD l=n:=⟨_,rfl⟩;rw[hn]at h0 hle hc⊢
 match l,hb,hle,hc with
 |[],hb,hle,hc=>simp at hle;omega
 |b::r,hb,hle,hc=>
  obtain⟨n',rfl⟩:∃n',n=n'+1:=⟨n-1,by omega⟩
  have e:(b::r).take (n'+1)++x=b::(r.take n'++x):=by simp
  rw[e]at hc⊢;rw[Lx.kI,hc,if_neg (by have:=hb b r rfl;omega)]
  congr 1
  simp only[List.drop_succ_cons]
  have hl:(r.take n').length=n':=by simp at hle⊢;omega
  rw[List.drop_append,hl,Nat.sub_self,List.drop_zero,List.drop_eq_nil_of_le (by omega),List.nil_append]
theorem lS(m:UInt8)(r x:Lx.Bs)(n lo hi:Nat)(hm:m.toNat<lo)(h:Lx.betw m r=some (x,n)):Lx.folB x 0 lo hi=Lx.folB r 0 lo hi/\(Lx.folB r 0 lo hi=true->∃c r1 x1 n1,r=c::r1/\x=c::x1/\Lx.betw m r1=some (x1,n1)):=by
 match r,h with
 |[],h=>simp[Lx.betw]at h
 |c::r1,h=>
  by_cases hc:c=m
  · subst hc
    have fr:Lx.folB (c::r1) 0 lo hi=false:=by simp[Lx.folB];omega
    rw[fr];refine⟨?_,by simp⟩
    match r1,h with
    |[],h=>simp[Lx.betw]at h;rw[h.1];rfl
    |d::r2,h=>
     simp only[Lx.betw,if_true]at h
     split at h
     · simp only[Option.map_eq_some_iff,Prod.exists,Prod.mk.injEq]at h;obtain⟨x',n',_,rfl,_⟩:=h;simp[Lx.folB];omega
     simp at h;rw[h.1];rfl
  rw[nG m c r1 hc]at h;simp only[Option.map_eq_some_iff,Prod.exists,Prod.mk.injEq]at h;obtain⟨x1,n1,h1,rfl,_⟩:=h;exact⟨rfl,fun _=>⟨c,r1,x1,n1,rfl,rfl,h1⟩⟩
theorem bS(b:UInt8)(r:Lx.Bs)(i lo hi:Nat):Lx.folB (b::r) (i+1) lo hi=Lx.folB r i lo hi:=by
 unfold Lx.folB;rw[List.getElem?_cons_succ]
theorem FM(m b:UInt8)(r x:Lx.Bs)(n:Nat)(hm:m.toNat<128)(h:Lx.betw m r=some (x,n)):Lx.aD (b::x)=Lx.aD (b::r):=by
 have lo:∀b,128<=Lx.jC b:=by
  intro b;unfold Lx.jC
  repeat' split
  all_goals omega
 have e1:=(lS m r x n 128 191 (by omega) h).1;have e2:=lS m r x n (Lx.jC b.toNat) (Lx.lZ b.toNat) (by have:=lo b.toNat;omega) h;simp only[Lx.aD,bS b x 0,bS b r 0,bS b x 1,bS b r 1,bS b x 2,bS b r 2,e1,e2.1]
 cases hn:Lx.folB r 0 (Lx.jC b.toNat) (Lx.lZ b.toNat)
 · simp
 obtain⟨c,r1,x1,n1,rfl,rfl,h1⟩:=e2.2 hn;have e3:=lS m r1 x1 n1 128 191 (by omega) h1;simp only[bS c x1 0,bS c r1 0,bS c x1 1,bS c r1 1,e3.1]
 cases hn2:Lx.folB r1 0 128 191
 · simp
 obtain⟨d,r2,x2,n2,rfl,rfl,h2⟩:=e3.2 hn2;have e4:=lS m r2 x2 n2 128 191 (by omega) h2;simp only[bS d x2 0,bS d r2 0,e4.1]
theorem JM(m:UInt8)(l t:Lx.Bs)(n:Nat)(hm:m.toNat<128)(hm0:m.toNat≠0)(hl:l≠[])(h:Lx.betw m l=some (t,n))(hb:Lx.aD l=0\/l.head? =some 0):Lx.bH t=false:=by
 match l,hl,h,hb with
 |b::r,_,h,hb=>
  have hbm:b≠m:=by
   rintro rfl;rcases hb with hb|hb
   · simp[Lx.aD,hm]at hb
   simp at hb;subst hb;simp at hm0
  rw[nG m b r hbm]at h;simp only[Option.map_eq_some_iff,Prod.exists,Prod.mk.injEq]at h;obtain⟨x,n',h1,rfl,_⟩:=h;rw[Lx.kI,if_pos];rcases hb with hb|hb
  · left;rw[FM m b r x n' hm h1];exact hb
  right;simp at hb;subst hb;rfl
theorem bZ.others{m:UInt8}:∀(n:Nat) {l:Lx.Bs} {k:Nat} {acc:Lx.Bs},bZ m l k acc->k+n<=l.length->(∀j,j<n->(l.drop k)[j]? ≠some m)->bZ m l (k+n) (acc++(l.drop k).take n)
 |0,l,k,acc,h,_,_=>by simpa using h
 |n+1,l,k,acc,h,hk,hne=>by
  have e:l.drop k=l[k]'(by omega)::l.drop (k+1):=List.drop_eq_getElem_cons (by omega);have h1:=h.other e (by have:=hne 0 (by omega);rw[e,List.getElem?_cons_zero]at this;exact fun q=>this (by rw[q]));have h2:=bZ.others n h1 (by omega) (fun j hj=>by have:=hne (j+1) (by omega);rw[e,List.getElem?_cons_succ]at this;exact this);rw[show k+1+n=k+(n+1)from by omega]at h2;rw[e,List.take_succ_cons];simpa using h2
def gJ(s:ByteArray)(k:Nat)(m:UInt8):Except Nat (Nat×Lx.Bs×Nat):=
 match Lx.betw m (s.data.toList.drop (k+1))with
 |some (t,n)=>if Lx.bH t=true then .ok (0,t,n+1)else .error 2
 |none=> .error 2
structure zV(s:ByteArray)(k:Nat)(m:UInt8)(j:Nat)(acc:Lx.Bs):Prop where
 at_:bZ m (s.data.toList.drop (k+1)) (j-(k+1)) acc
 ge:k+1<=j
 ok:∀x,Lx.bH (acc++x)=Lx.bH x
theorem zV.dropped{m:UInt8}{acc:Lx.Bs}(h:zV s k m j acc):(s.data.toList.drop (k+1)).drop (j-(k+1))=s.data.toList.drop j:=by
 rw[List.drop_drop];congr 1;have:=h.ge;omega
theorem zV.len{m:UInt8}{acc:Lx.Bs}(h:zV s k m j acc):acc.length<=j:=by
 have:=h.at_.2;omega
theorem zV.start(s:ByteArray)(k:Nat)(m:UInt8):zV s k m (k+1) []:=
 ⟨by rw[Nat.sub_self];exact bZ.start _ _,by omega,fun x=>rfl⟩
theorem zV.fail{m:UInt8}{acc:Lx.Bs}(h:zV s k m j acc)(hm:m.toNat<128)(hm0:m.toNat≠0)
   (hb:s.data.toList.drop j=[]\/Lx.aD (s.data.toList.drop j)=0\/(s.data.toList.drop j).head? =some 0):gJ s k m=.error 2:=by
 unfold gJ;have hq:=h.at_.1;rw[h.dropped]at hq;by_cases he:s.data.toList.drop j=[]
 · rw[he]at hq;rw[hq];rfl
 cases hbe:Lx.betw m (s.data.toList.drop j)with
 |none=>rw[hbe]at hq;rw[hq];rfl
 |some y=>
  obtain⟨x,n⟩:=y;rw[hbe]at hq;rw[hq];simp only[Option.map_some];rw[h.ok,JM m _ x n hm hm0 he hbe (hb.resolve_left he)]
  rfl
theorem zV.done{m:UInt8}{acc r:Lx.Bs}(h:zV s k m j acc)(e:s.data.toList.drop j=m::r)(hr:r.head? ≠some m):gJ s k m=.ok (0,acc,j-k+1):=by
 unfold gJ;have hq:=h.at_.last (r:=r) (by rw[h.dropped,e]) hr;rw[hq];have hv:=h.ok [];rw[List.append_nil]at hv;simp only;rw[hv,if_pos (show Lx.bH []=true from rfl)];have:=h.ge
 congr 3;omega
theorem zV.double{m:UInt8}{acc r:Lx.Bs}(h:zV s k m j acc)(hm:m.toNat<128)(hm0:m.toNat≠0)(e:s.data.toList.drop j=m::m::r):zV s k m (j+2) (acc++[m]):=by
 have hg:=h.ge;refine⟨?_,by omega,?_⟩
 · rw[show j+2-(k+1)=j-(k+1)+2 from by omega];exact h.at_.double (r:=r) (by rw[h.dropped,e])
 intro x;rw[laa,h.ok]
 have hc:Lx.aD [m]=1:=by simp[Lx.aD,hm]
 have:=tN [m] x (by rw[hc];simp) (by rintro b r' e';simp at e';rw[<-e'.1];exact hm0);rw[hc]at this;exact this
theorem zV.char{m:UInt8}{acc:Lx.Bs}(h:zV s k m j acc)(hj:j<s.size)(hm:m.toNat<128)(hc:Lx.aD (s.data.toList.drop j)≠0)(h0:s[j].toNat≠0)(hne:s[j]≠m):
   zV s k m (j+Lx.aD (s.data.toList.drop j)) (acc++(s.data.toList.drop j).take (Lx.aD (s.data.toList.drop j))):=by
 have hg:=h.ge;have hle:=Lx.gF (s.data.toList.drop j)
 have hsz:s.data.toList.length=s.size:=by simp
 rw[List.length_drop,hsz]at hle;have hgood:=jk s j hj hc;have e:=drop_at s j hj;refine⟨?_,by omega,?_⟩
 · rw[show j+Lx.aD (s.data.toList.drop j)-(k+1)=j-(k+1)+Lx.aD (s.data.toList.drop j)from by omega]
   have:=bZ.others (Lx.aD (s.data.toList.drop j)) h.at_ (by rw[List.length_drop,hsz];omega) (by
    intro i hi;rw[h.dropped,List.getElem?_drop,List.getElem?_eq_getElem (by rw[hsz];omega)];rcases hgood.2.2 with⟨q,_,_⟩|⟨q,_,q2⟩
    · have:i=0:=by omega
      subst this
      exact fun q=>hne (Option.some.inj q)
    have hh:=(xA s j hj q2).2.2 i (by rw[hgood.1];exact hi);rw[bV s (j+i) (by omega)]at hh;intro e2;have:s[j+i]=m:=Option.some.inj e2;rw[this]at hh
    omega)
   rw[h.dropped]at this;exact this
 intro x;rw[laa,h.ok];exact tN _ x hc (by rintro b r' e';rw[e]at e';simp at e';rw[<-e'.1];exact h0)
theorem Rd.under(h:Rd w B s k st)(hb:Below N w w')(hB:B<N):Rd w' B s k st:=by
 have hlow:=h.low
 have hk:∀i,i<12->w'.heap[i]? =w.heap[i]?:=fun i hi=>hb.block i (by omega)
 refine⟨h.blk.below hb hB,h.low,⟨⟨fun c hc=> ?_,fun i hi=> ?_⟩,?_,?_,Nat.le_trans h.env.room hb.size⟩,h.le,h.small⟩
 · rw[World.cell?_of_block (w:=w) (hk _ (by simp))];exact h.env.tabs.1 c hc
 · rw[World.cell?_of_block (w:=w) (hk _ (by simp)),World.cell?_of_block (w:=w) (hk _ (by simp))];exact h.env.tabs.2 i hi
 · rw[hk _ (by simp)];exact h.env.kws
 rw[hk _ (by simp)];exact h.env.sgs
theorem jd{w1 w2:World}{row:Option Nat}(h:w.grownBy w1 row)(hb:Below N w1 w2)(hN:w.heap.size<=N):w.grownBy w2 row:=
 ⟨hb.os.trans h.os,hb.tape.trans h.tape,hb.output.trans h.output,Nat.le_trans h.size hb.size,fun k hk hne=>(hb.block k (by omega)).trans (h.block k hk hne)⟩
theorem jY{T e:TypeId}{b:Nat}{bs:List Value}(h:Lib.IsBuilderF T e N b bs w)(hg:w.grownBy w' (some B))(hB:B<N):Lib.IsBuilderF T e N b bs w':=by
 have one:∀p,Lib.BuilderAtF T e N b p bs w->Lib.BuilderAtF T e N b p bs w':=by
  rintro p ⟨hNb,v,hb,hown,hne⟩;refine⟨hNb,v,?_,hown.kept hg ?_,hne⟩
  · rw[hg.block b (geA.1 hb).1 (by simp;omega)];exact hb
  cases hv:v.ownBlock with
  |none=>exact .inl rfl
  |some g=>right;have:=(hown.lt g hv).1;simp;omega
 exact h.elim (fun x=> .inl (one _ x)) (fun x=> .inr (one _ x))
theorem BH(w:World)(T e:TypeId):Lib.IsBuilderF T e w.heap.size w.heap.size [] (w.alloc (.cells #[.pointer none,.slice none 0 0] T)):=
 .inl ⟨nlr _,.slice none 0 0,heap_alloc_new w _,World.ownsRowF_nil _ _ _ _,by simp[Value.ownBlock]⟩
theorem Fz(s:ByteArray)(k:Nat)(m:UInt8)(hm:m.toNat<128):(bf s k).1=(m.toNat:Int)↔(s.data.toList.drop k).head? =some m:=by
 unfold bf;by_cases hk:k<s.size
 · rw[if_pos hk,drop_at s k hk,List.head?_cons,<-drop_at s k hk];by_cases hc:Lx.aD (s.data.toList.drop k)=0
   · rw[if_pos hc];have:=(oN s k hk hc).2
     constructor
     · intro e;simp at e
     intro e;simp at e;rw[e]at this;omega
   rw[if_neg hc];rcases(jk s k hk hc).2.2 with⟨_,q2,q3⟩|⟨_,q2,q3⟩
   · simp only;rw[q2]
     constructor
     · intro e;congr 1;exact UInt8.toNat_inj.1 (by omega)
     intro e;simp at e;rw[e]
   simp only
   constructor
   · intro e;omega
   intro e;simp at e;rw[e]at q3;omega
 rw[if_neg hk,List.drop_eq_nil_of_le (by simp;have:s.data.size=s.size:=rfl;omega)];simp
theorem Jn(m:UInt8)(hm:m.toNat<128):Lib.byteCells [m]=Lib.runeCells (m.toNat:Int):=by
 rw[<-Lib.byteCells_encodeRune];unfold Lib.encodeRune;rw[Lib.encodeRuneZ_one (by omega) (by omega)];simp
theorem rQ(w:World)(B:Nat)(s:ByteArray)(k st:Nat)(h:Rd w B s k st)(hk:k<s.size)(hm:s[k].toNat<128)(hm0:s[k].toNat≠0):
   Calls Tryz.prog 177 #[.pointer (some ⟨B,0,none⟩)] w (Told (gJ s k s[k]) w B s k st pY):=by
 have hsm:=h.small
 have hpk:bf s k=((s[k].toNat:Int),1):=by
  have hc:Lx.aD (s.data.toList.drop k)=1:=by rw[drop_at s k hk];simp[Lx.aD,hm]
  unfold bf;rw[if_pos hk,hc,if_neg (by simp),decode_ascii s k hk hm]
 obtain⟨m,hmm⟩:∃m,m=s[k]:=⟨_,rfl⟩;rw[<-hmm]at hm hm0 hpk⊢;clear hmm;have HPK:=hd hpk;clear hpk;go_enter Tryz.func177,Tryz.ntmps177;go_wp2_with fail;refine(sN w B s k st h).mono ?_;rintro e w1 ⟨rfl,h1,g1⟩;rw[HPK.out]at h1⊢;simp only at h1⊢;have hBlt:B<w1.heap.size:=h1.blk.lt;have MN:w.heap.size<=w1.heap.size:=g1.size;have HG1:=hd g1;clear g1;go_wp2;go_loopw [5] (fun _ wr=>∃(j:Nat) (acc:Lx.Bs),Hid (zV s k m j acc)/\Hid (Rd wr B s j st)/\Hid (w.grownBy wr (some B))/\Hid (Lib.IsBuilderF 115 5 w1.heap.size w1.heap.size (Lib.byteCells acc) wr)/\w1.heap.size<=wr.heap.size) (fun _ wr=>s.size-nL wr B)
 case atStart=>exact⟨k+1,[],zV.start _ _ _,h1.below ((Below.refl _ _).alloc (nlr _) _),av HG1.out (Below.grownBy ((Below.refl _ _).alloc (nlr _) _)),BH _ _ _,by simp⟩
 case round=>
  obtain⟨j,acc,HQ,HR,HG,HBd,hsz⟩:=hrel;have hjle:=HR.out.le;have haccl:=HQ.out.len;go_wp2_with fail;refine(sN wr B s j st HR.out).mono ?_;rintro e w2 ⟨rfl,h2,g2⟩;have HG2:=hd (av HG.out g2);have HB2:=hd (jY HBd.out g2 hBlt);have hsz2:w1.heap.size<=w2.heap.size:=Nat.le_trans hsz g2.size;clear g2;by_cases hjs:j<s.size
  · by_cases hc:Lx.aD (s.data.toList.drop j)=0
    · have hp:bf s j=(-2,1):=by unfold bf;rw[if_pos hjs,if_pos hc]
      have HF:=hd (HQ.out.fail hm hm0 (.inr (.inl hc)));rw[hp]at h2⊢;simp only at h2⊢;clear hp hc;go_wp2_with fail;refine(iA _ B s (j+1) st 2 h2).mono ?_;rintro e w3 ⟨rfl,rfl⟩;refine⟨rfl,HG2.out,?_⟩;rw[HF.out]
      rfl
    obtain⟨d1,d2,d3⟩:=jk s j hjs hc
    have hp:bf s j=(((Utf8.decode s j).1:Int),Lx.aD (s.data.toList.drop j)):=by unfold bf;rw[if_pos hjs,if_neg hc]
    by_cases h0:s[j].toNat=0
    · have hp0:bf s j=(0,1):=by
       rw[hp];rcases d3 with⟨q1,q2,_⟩|⟨_,_,q3⟩
       · rw[q1,q2,h0];rfl
       omega
      have HF:=hd (HQ.out.fail hm hm0 (.inr (.inr (by rw[drop_at s j hjs,List.head?_cons];congr 1;exact UInt8.toNat_inj.1 (by rw[h0];rfl)))));rw[hp0]at h2⊢;simp only at h2⊢;clear hp hp0 hc d1 d2 d3 h0;go_wp2_with fail;refine(iA _ B s (j+1) st 2 h2).mono ?_;rintro e w3 ⟨rfl,rfl⟩;refine⟨rfl,HG2.out,?_⟩;rw[HF.out]
      rfl
    by_cases hmk:s[j]=m
    · have hp0:bf s j=((m.toNat:Int),1):=by
       rw[hp];rcases d3 with⟨q1,q2,_⟩|⟨_,_,q3⟩
       · rw[q1,q2,hmk]
       rw[hmk]at q3;omega
      have HD:Hid (s.data.toList.drop j=m::s.data.toList.drop (j+1)):=(drop_at s j hjs).trans (by rw[hmk]);rw[hp0]at h2⊢;simp only at h2⊢;clear hp hp0 hc d1 d2 d3 h0 hmk
      have n1:¬(m.toNat:Int)=0:=by omega
      go_wp2_with fail;refine(nU _ B s (j+1) st h2).mono ?_;rintro e w3 ⟨rfl,hb3⟩;have h3:=h2.below hb3;have HG3:=hd (av HG2.out (Below.grownBy hb3));have HB3:=hd (jY HB2.out (Below.grownBy (row:=some B) hb3) hBlt);have NT:w1.heap.size<=w3.heap.size:=Nat.le_trans hsz2 hb3.size;clear hb3;have HM:=hd (Fz s (j+1) m hm);by_cases hnx:(s.data.toList.drop (j+1)).head? =some m
      · have hj1:j+1<s.size:=by
         rcases Nat.lt_or_ge (j+1) s.size with q|q
         · exact q
         rw[List.drop_eq_nil_of_le (by simp;have:s.data.size=s.size:=rfl;omega)]at hnx;simp at hnx
        have hsj:s[j+1]=m:=by rw[drop_at s (j+1) hj1]at hnx;simpa using hnx
        have hc1:Lx.aD (s.data.toList.drop (j+1))=1:=by rw[drop_at s (j+1) hj1,hsj];simp[Lx.aD,hm]
        have hp1:bf s (j+1)=((m.toNat:Int),1):=by
         unfold bf;rw[if_pos hj1,hc1,if_neg (by simp),decode_ascii s (j+1) hj1 (by rw[hsj];exact hm),hsj]
        have HQ2:=hd (HQ.out.double (r:=s.data.toList.drop (j+2)) hm hm0 (by rw[HD.out,drop_at s (j+1) hj1,hsj]));have HP1:=hd hp1;rw[hp1];simp only;clear hnx hsj hc1 hp1;go_wp2_with fail;refine(sN w3 B s (j+1) st h3).mono ?_;rintro e w4 ⟨rfl,h4,g4⟩;rw[HP1.out]at h4⊢;simp only at h4⊢;have HG4:=hd (av HG3.out g4);have HB4:=hd (jY HB3.out g4 hBlt);have Od:w1.heap.size<=w4.heap.size:=Nat.le_trans NT g4.size;clear g4;go_wp2_with fail;refine(Tryz.Builder_WriteRune_k w1.heap.size w1.heap.size (Lib.byteCells acc) (m.toNat:Int) (by omega) (by omega) w4 HB4.out (by rw[Lib.byteCells_length];omega) Od).mono ?_;rintro e w5 ⟨rfl,Mw,hb5, -⟩;go_wp2_with fail;refine⟨⟨j+2,acc++[m],HQ2.out,h4.under hb5 hBlt,jd HG4.out hb5 MN,?_,Nat.le_trans Od hb5.size⟩,?_⟩
        · right
          rw[Lib.byteCells_append,Jn m hm];exact Mw
        rw[(h4.under hb5 hBlt).nL,HR.out.nL];omega
      have hne:¬(bf s (j+1)).1=(m.toNat:Int):=fun q=>hnx (HM.out.1 q)
      have HDn:=hd (HQ.out.done HD.out hnx);generalize bf s (j+1)=pk at*;obtain⟨c',n'⟩:=pk;simp only at hne⊢
      have hne2:(c' !=(m.toNat:Int))=true:=by rw[bne_iff_ne];exact hne
      clear hne hnx HM;go_wp2_with fail;refine(Tryz.Builder_String_any_k w1.heap.size w1.heap.size acc w3 HB3.out NT).mono ?_;rintro e w4 ⟨rfl, -,hb4, -⟩;go_wp2;go_ret;refine⟨jd HG3.out hb4 MN,?_⟩;rw[HDn.out];refine⟨⟨acc.toArray⟩,by simp,rfl,?_⟩;have hge:=HQ.out.ge;rw[show k+(j-k+1)=j+1 from by omega];exact h3.under hb4 hBlt
    have HQ2:=hd (HQ.out.char hjs hm hc h0 hmk)
    have hcm:¬((Utf8.decode s j).1:Int)=(m.toNat:Int):=by
     intro q;rcases d3 with⟨_,q2,_⟩|⟨_,q2,_⟩
     · exact hmk (UInt8.toNat_inj.1 (by omega))
     omega
    have hc0:¬((Utf8.decode s j).1:Int)=0:=by
     intro q;rcases d3 with⟨_,q2,_⟩|⟨_,q2,_⟩<;>omega
    have hcle:=decode_le s j;have hcN:=Lx.gF (s.data.toList.drop j);rw[List.length_drop,show s.data.toList.length=s.size from by simp]at hcN;rw[hp]at h2⊢;simp only at h2⊢;have HD2:=hd d2;clear d1 d2 d3 hp h0 hmk;generalize Lx.aD (s.data.toList.drop j)=n at*;generalize (Utf8.decode s j).1=c at*;go_wp2_with fail;refine(Tryz.Builder_WriteRune_k w1.heap.size w1.heap.size (Lib.byteCells acc) (c:Int) (by omega) (by omega) w2 HB2.out (by rw[Lib.byteCells_length];omega) hsz2).mono ?_;rintro e w5 ⟨rfl,Mw,hb5, -⟩;go_wp2_with fail;refine⟨⟨j+n,acc++(s.data.toList.drop j).take n,HQ2.out,h2.under hb5 hBlt,jd HG2.out hb5 MN,?_,Nat.le_trans hsz2 hb5.size⟩,?_⟩
    · right
      rw[Lib.byteCells_append,<-HD2.out,Lib.byteCells_encodeRune];exact Mw
    rw[(h2.under hb5 hBlt).nL,HR.out.nL];omega
  have hp:bf s j=(-1,0):=by unfold bf;rw[if_neg hjs]
  have HF:=hd (HQ.out.fail hm hm0 (.inl (List.drop_eq_nil_of_le (by simp;have:s.data.size=s.size:=rfl;omega))));rw[hp]at h2⊢;simp only at h2⊢;clear hp;go_wp2_with fail;refine(iA _ B s (j+0) st 2 h2).mono ?_;rintro e w3 ⟨rfl,rfl⟩;refine⟨rfl,HG2.out,?_⟩;rw[HF.out]
  rfl
def nameR(r:Except Nat (Nat×Lx.Bs×Nat)):Except Nat (Nat×Lx.Bs×Nat):=
 match r with
 |.ok (c,t,n)=>if t=[]then .error 2 else .ok (c,t,n)
 |.error c=> .error c
theorem vw(w:World)(B:Nat)(s:ByteArray)(k st:Nat)(h:Rd w B s k st)(hk:k<s.size)(hm:s[k].toNat<128)(hm0:s[k].toNat≠0):
   Calls Tryz.prog 178 #[.pointer (some ⟨B,0,none⟩)] w (Told (nameR (gJ s k s[k])) w B s k st pY):=by
 have HQ:=rQ w B s k st h hk hm hm0;generalize gJ s k s[k]=r at*;have HQ2:=hd HQ;clear HQ;go_enter Tryz.func178,Tryz.ntmps178;go_wp2_with fail;refine HQ2.out.mono ?_;rintro e w1 ⟨g1,ht⟩
 match r,ht with
 |.error c,ht=>
  subst ht;exact⟨rfl,g1,rfl⟩
 |.ok (c,t,n),ht=>
  obtain⟨tv,rfl,rfl,h1⟩:=ht;unfold pY
  cases hem:tv.toList.isEmpty
  · have hne:tv.data.toList≠[]:=by intro e;rw[Lib.toList_data,e]at hem;cases hem
    have HNE:=hd hne;clear hne;go_wp2;go_ret;refine⟨g1,?_⟩;unfold nameR;simp only;rw[if_neg HNE.out];exact⟨tv,rfl,rfl,h1⟩
  have he:tv.data.toList=[]:=by rw[Lib.toList_data]at hem;simpa using hem
  have HE:=hd he;clear he;go_wp2_with fail;refine(iA _ B s (k+n) st 2 h1).mono ?_;rintro e w3 ⟨rfl,rfl⟩;refine⟨rfl,g1,?_⟩;unfold nameR;simp only;rw[if_pos HE.out]
  rfl
theorem uj(s:ByteArray)(k:Nat)(hk:k<s.size)(hl:Lx.isLet s[k]=false)(hdg:Lx.aH s[k]=false)(hq:s[k].toNat=39\/s[k].toNat=34):
   Lx.oneT (s.data.toList.drop k)=match(if s[k].toNat=34 then nameR (gJ s k s[k])else gJ s k s[k])with|.ok (_,t,n)=> .ok (if s[k].toNat=34 then 18 else 17,t,n)|.error c=> .error c:=by
 rw[oneT_quote s k hk hl hdg hq];unfold gJ nameR
 cases Lx.betw s[k] (s.data.toList.drop (k+1))with
 |none=>by_cases h34:s[k].toNat=34<;>simp[h34]
 |some y=>
  obtain⟨t,n⟩:=y;simp only
  cases hv:Lx.bH t
  · by_cases h34:s[k].toNat=34<;>simp[h34]
  simp only[if_true,Bool.true_eq_false,false_or];by_cases h34:s[k].toNat=34
  · by_cases ht:t=[]
    · simp[h34,ht]
    simp[h34,ht]
  simp[h34]
theorem Fa(s:ByteArray)(k:Nat)(hk:k<s.size):((bf s k).1=(s[k].toNat:Int)/\s[k].toNat<128)\/(((bf s k).1= -2\/128<=(bf s k).1)/\128<=s[k].toNat):=by
 unfold bf;rw[if_pos hk];by_cases hc:Lx.aD (s.data.toList.drop k)=0
 · rw[if_pos hc];exact .inr ⟨.inl rfl,(oN s k hk hc).2⟩
 rw[if_neg hc];rcases(jk s k hk hc).2.2 with⟨_,q2,q3⟩|⟨_,q2,q3⟩
 · exact .inl ⟨by simp only;rw[q2],q3⟩
 exact .inr ⟨.inr (by simp only;omega),q3⟩
theorem lN{r:Except Nat (Nat×Lx.Bs×Nat)}{e:Ending}(h:Told r w B s k st pY e w'):
   w.grownBy w' (some B)/\((∃c,r=.error c/\e=.panicked [{v:=.iface 74 (.agg #[.int .i64 (st:Int),.int .i64 (c:Int)]),recovered:=false}])\/(∃c t n tv,r=.ok (c,t,n)/\e=.returned (.string tv)/\tv.data.toList=t/\Rd w' B s (k+n) st)):=by
 refine⟨h.1,?_⟩
 match r,h.2 with
 |.error c,ht=>exact .inl ⟨c,rfl,ht⟩
 |.ok (c,t,n),⟨tv,h1,h2,h3⟩=>exact .inr ⟨c,t,n,tv,rfl,h2,h1,h3⟩
theorem EH(w:World)(B:Nat)(s:ByteArray)(k st:Nat)(h:Rd w B s k st)(hk:k<s.size):
   Calls Tryz.prog 114 #[.pointer (some ⟨B,0,none⟩)] w (Told (Lx.oneT (s.data.toList.drop k)) w B s k st xW):=by
 have HPB:=hd (Fa s k hk);go_enter Tryz.func114,Tryz.ntmps114;go_wp2_with fail;refine(nU w B s k st h).mono ?_;rintro e w1 ⟨rfl,hb1⟩;have h1:=h.below hb1;have HG1:Hid (w.grownBy w1 (some B)):=Below.grownBy hb1;clear hb1;generalize bf s k=d at*;obtain⟨c,n⟩:=d;simp only at HPB⊢;go_wp2_with fail;refine(iQ _ _).mono ?_;rintro e w' ⟨rfl,rfl⟩
 cases hdg:Lx.aH s[k]
 · have hd1:tT c=false:=by
    unfold Lx.aH at hdg;unfold tT;have:=HPB.out;simp at hdg⊢;omega
   cases hl:Lx.isLet s[k]
   · have hw1:JZ c=false:=by
      unfold Lx.isLet at hl;unfold JZ;unfold Lx.aH at hdg;have:=HPB.out;simp at hdg hl⊢;omega
     rw[hd1];go_wp2_with fail;refine(ib _ _).mono ?_;rintro e w' ⟨rfl,rfl⟩;rw[hw1];by_cases h39:s[k].toNat=39
     · have HS:=hd (uj s k hk hl hdg (.inl h39))
       have hc:c=39:=by have:=HPB.out;omega
       subst hc;rw[if_neg (by omega)]at HS;have HT:=hd (rQ _ B s k st h1 hk (by omega) (by omega));generalize gJ s k s[k]=r at*;go_wp2_with fail;refine HT.out.mono ?_;intro e w2 ht;rcases lN ht with⟨g2,⟨c,rfl,rfl⟩|⟨c,t,n,tv,rfl,rfl,htv,h2⟩⟩
       · exact⟨rfl,av HG1.out g2,by rw[HS.out]⟩
       go_wp2
       go_ret2
       refine⟨av HG1.out g2,?_⟩;rw[HS.out];simp only;rw[if_neg (by omega)];exact⟨tv,htv,rfl,h2⟩
     by_cases h34:s[k].toNat=34
     · have HS:=hd (uj s k hk hl hdg (.inr h34))
       have hc:c=34:=by have:=HPB.out;omega
       subst hc;rw[if_pos h34]at HS;have HT:=hd (vw _ B s k st h1 hk (by omega) (by omega));generalize nameR (gJ s k s[k])=r at*;go_wp2_with fail;refine HT.out.mono ?_;intro e w2 ht;rcases lN ht with⟨g2,⟨c,rfl,rfl⟩|⟨c,t,n,tv,rfl,rfl,htv,h2⟩⟩
       · exact⟨rfl,av HG1.out g2,by rw[HS.out]⟩
       go_wp2
       go_ret2
       refine⟨av HG1.out g2,?_⟩;rw[HS.out];simp only;rw[if_pos h34];exact⟨tv,htv,rfl,h2⟩
     have n1:(c==39)=false:=by rw[beq_eq_false_iff_ne];have:=HPB.out;omega
     have n2:(c==34)=false:=by rw[beq_eq_false_iff_ne];have:=HPB.out;omega
     have HT:=hd (G7 _ B s k st h1 hk hl hdg (by omega))
     have HK:Hid (∀x y z,Lx.oneT (s.data.toList.drop k)=.ok (x,y,z)->x=51):=by
      intro x y z e;rw[sign_spec s k hk hl hdg (by omega)]at e
      split at e
      · simp only[Except.ok.injEq,Prod.mk.injEq]at e;exact e.1.symm
      cases e
     generalize Lx.oneT (s.data.toList.drop k)=r at*;go_wp2_with fail;refine HT.out.mono ?_;intro e w2 ht;rcases lN ht with⟨g2,⟨c,rfl,rfl⟩|⟨c,t,n,tv,rfl,rfl,htv,h2⟩⟩
     · exact⟨rfl,av HG1.out g2,rfl⟩
     obtain rfl:=HK.out _ _ _ rfl;go_wp2
     go_ret2
     exact⟨av HG1.out g2,tv,htv,rfl,h2⟩
   have hw1:JZ c=true:=by
    unfold Lx.isLet at hl;unfold JZ;have:=HPB.out;simp at hl⊢;omega
   rw[hd1];go_wp2_with fail;refine(ib _ _).mono ?_;rintro e w' ⟨rfl,rfl⟩;rw[hw1];have HT:=hd (Ii _ B s k st h1 hk hl);generalize Lx.oneT (s.data.toList.drop k)=r at*;go_wp2_with fail;refine HT.out.mono ?_;intro e w2 ht;obtain⟨g2,ht⟩:=ht
   match r,ht with
   |.error c,ht=>subst ht;exact⟨rfl,av HG1.out g2,rfl⟩
   |.ok (c,t,n),⟨tv,htv,he,h2⟩=>
    subst he;unfold xW;go_wp2
    go_ret2
    exact⟨av HG1.out g2,tv,htv,rfl,h2⟩
 have hl:Lx.isLet s[k]=false:=by unfold Lx.aH at hdg;unfold Lx.isLet;simp at hdg⊢;omega
 have hd1:tT c=true:=by
  unfold Lx.aH at hdg;unfold tT;have:=HPB.out;simp at hdg⊢;omega
 rw[hd1];have HT:=hd (ig _ B s k st h1 hk hl hdg)
 have HK:Hid (∀x y z,Lx.oneT (s.data.toList.drop k)=.ok (x,y,z)->x=16):=by
  intro x y z e;rw[sJ s k hk hl hdg]at e
  split at e
  · cases e
  split at e
  · cases e
  simp only[Except.ok.injEq,Prod.mk.injEq]at e;exact e.1.symm
 generalize Lx.oneT (s.data.toList.drop k)=r at*;go_wp2_with fail;refine HT.out.mono ?_;intro e w2 ht;rcases lN ht with⟨g2,⟨c,rfl,rfl⟩|⟨c,t,n,tv,rfl,rfl,htv,h2⟩⟩
 · exact⟨rfl,av HG1.out g2,rfl⟩
 obtain rfl:=HK.out _ _ _ rfl;go_wp2
 go_ret2
 exact⟨av HG1.out g2,tv,htv,rfl,h2⟩
theorem pK(t:ByteArray)(w:World)(h:t.size<=100000):Calls Tryz.prog 115 #[.string t] w fun e w'=>e=.returned (.string t)/\Below w.heap.size w w':=by
 go_enter Tryz.func115,Tryz.ntmps115;go_wp2_with fail;refine(Tryz.stringslite_Clone t w (by omega)).mono ?_;rintro e w' ⟨rfl,hb⟩;go_wp2;go_ret;exact⟨rfl,hb⟩
theorem size_setCell(w:World)(p:Addr)(v:Value):(w.setCell p v).heap.size=w.heap.size:=by simp[World.setCell]
theorem lu{w1:World}{row:Option Nat}(h:w.grownBy w1 row)(i:Nat)(v:Value):w.grownBy (w1.setCell ⟨w.heap.size,i,none⟩ v) row:=
 ⟨h.os,h.tape,h.output,by rw[size_setCell];exact h.size,fun k hk hne=>(Below.heap_setCell w1 _ v k (by simp;omega)).trans (h.block k hk hne)⟩
theorem Rd.far(h:Rd w B s k st)(hne:¬N=B)(i:Nat)(v:Value)(hN:12<=N:=by omega):Rd (w.setCell ⟨N,i,none⟩ v) B s k st:=
 ⟨h.blk.far _ _ hne,h.low,h.env.grown (mY w N i v) hN,h.le,h.small⟩
def Og(r:Except Nat (Nat×Lx.Bs×Nat))(w:World)(B:Nat)(s:ByteArray)(k:Nat)(e:Ending)(w':World):Prop:=
 w.grownBy w' (some B)/\match r with
 |.ok (c,t,n)=>∃tv:ByteArray,tv.data.toList=t/\e=.returned (.agg #[.int .i64 (c:Int),.string tv,.int .i64 (k:Int)])/\Rd w' B s (k+n) k
 |.error c=>e=.panicked [{v:=.iface 74 (.agg #[.int .i64 (k:Int),.int .i64 (c:Int)]),recovered:=false}]
theorem GQ(w:World)(B:Nat)(s:ByteArray)(k st:Nat)(h:Rd w B s k st)(hk:k<s.size):
   Calls Tryz.prog 53 #[.pointer (some ⟨B,0,none⟩)] w (Og (Lx.oneT (s.data.toList.drop k)) w B s k):=by
 have hsm:=h.small;obtain⟨⟨b0,b1,b2⟩,b3,b4,b5⟩:=h.blk.three;have hBlt:=h.blk.lt
 have hone:∀c t n,Lx.oneT (s.data.toList.drop k)=.ok (c,t,n)->t.length<=2000:=by
  intro c t n e;have:=Lx.iB e;rw[List.length_drop,show s.data.toList.length=s.size from by simp]at this;omega
 have HON:=hd hone;clear hone;go_enter Tryz.func53,Tryz.ntmps53;go_wp2_with fail;have h1:Rd ((w.setCell ⟨B,2,none⟩ (.int .i64 (k:Int))).alloc (.cells #[.int .i64 0,.string ⟨#[]⟩,.int .i64 0] 146)) B s k k:=(h.set2 k).below ((Below.refl _ _).alloc (nlr _) _);have HG1:=hd (av (mY w B 2 (.int .i64 (k:Int))) (World.grownBy_alloc (w.setCell ⟨B,2,none⟩ (.int .i64 (k:Int))) (.cells #[.int .i64 0,.string ⟨#[]⟩,.int .i64 0] 146) (some B)));have R1:af ((w.setCell ⟨B,2,none⟩ (.int .i64 (k:Int))).alloc (.cells #[.int .i64 0,.string ⟨#[]⟩,.int .i64 0] 146)) w.heap.size #[.int .i64 0,.string ⟨#[]⟩,.int .i64 0] 146:=(by have x:=af.new (w.setCell ⟨B,2,none⟩ (.int .i64 (k:Int))) #[.int .i64 0,.string ⟨#[]⟩,.int .i64 0] 146;rwa [size_setCell]at x);refine(EH _ B s k k h1 hk).mono ?_;rintro e w2 ⟨g2,ht⟩;have HG2:=hd (av HG1.out g2)
 have R2:af w2 w.heap.size #[.int .i64 0,.string ⟨#[]⟩,.int .i64 0] 146:=by
  unfold af at R1⊢;rw[g2.block _ (geA.1 R1).1 (by simp;omega)];exact R1
 clear g2 R1 h1;rcases hr:Lx.oneT (s.data.toList.drop k)with c|⟨c,t,n⟩
 · rw[hr]at ht;simp only at ht;subst ht;exact⟨rfl,HG2.out,rfl⟩
 rw[hr]at ht;obtain⟨tv,htv,rfl,h2⟩:=ht;have hlen:=HON.out c t n hr
 have htl:tv.size<=2000:=by rw[Lib.size_eq,htv];exact hlen
 have HR:=hd hr;have HTV:=hd htv;clear hr htv hlen;unfold xW;obtain⟨⟨a0,a1,a2⟩,a3,a4,a5⟩:=h2.blk.three;obtain⟨⟨r0,r1,r2⟩,r3,r4,r5⟩:=R2.three;have hz2:w.heap.size<w2.heap.size:=R2.lt
 have hne:¬w.heap.size=B:=by omega
 have hlow:=h.low;clear b0 b1 b2 b3 b4 b5;go_wp2
 go_region_with (go_at_call 115;refine(pK tv _ (by omega)).mono ?_;rintro e w3 ⟨rfl,hb3⟩;have c2:=(h2.drew.below hb3).blk.cell 2;have q0:=(R2.drew.below hb3 hz2).cell 0;have q1:=(R2.drew.below hb3 hz2).cell 1;have q2:=(R2.drew.below hb3 hz2).cell 2;have q3:=(R2.drew.below hb3 hz2).free 0;have q4:=(R2.drew.below hb3 hz2).free 1;have q5:=(R2.drew.below hb3 hz2).free 2;simp at c2 q0 q1 q2)
 all_goals
  go_wp2;have F:=(((R2.drew.below hb3 hz2).set 0 (.int .i64 (c:Int))).set 1 (.string tv)).set 2 (.int .i64 (k:Int));obtain⟨⟨f0,f1,f2⟩, -⟩:=af.three F;have h3:=h2.drew.below hb3;refine bodyPost_ret (v:=.agg #[.int .i64 (c:Int),.string tv,.int .i64 (k:Int)]) ?_ rfl ⟨?_,?_⟩
  · simp only[f0,f1,f2,results,Tryz.results53,go_sem];simp[f0,f1,f2,go_sem]
  · exact lu (lu (lu (av (grownBy_drew HG2.out) (Below.grownBy hb3)) 0 _) 1 _) 2 _
  rw[HR.out];exact⟨tv,HTV.out,rfl,((h3.far hne 0 _).far hne 1 _).far hne 2 _⟩
theorem Gd{base base':Nat}{e:TypeId}{size:Nat}{v:Value}{n:Nat}{xs:List Value}(h:w.ownsRow base e size v n xs)(hb:base'<=base):w.ownsRow base' e size v n xs:=by
 refine⟨h.1,?_⟩;rcases h.2 with hn|⟨g,cap,cur,hv,hg,r⟩
 · exact .inl hn
 exact .inr ⟨g,cap,cur,hv,by omega,r⟩
theorem Rd.kept{row:Option Nat}(h:Rd w B s k st)(hg:w.grownBy w' row)(hB:some B≠row)(hlow:∀q,row=some q->12<=q):Rd w' B s k st:=by
 have hr:=h.env.room
 have hb:∀i,i<12->w'.heap[i]? =w.heap[i]?:=fun i hi=>hg.block i (by omega) (fun e=>by have:=hlow i e.symm;omega)
 refine⟨?_,h.low,⟨⟨fun c hc=> ?_,fun i hi=> ?_⟩,?_,?_,Nat.le_trans hr hg.size⟩,h.le,h.small⟩
 · have:=h.blk;unfold af at this⊢;rw[hg.block B h.blk.lt hB];exact this
 · rw[World.cell?_of_block (w:=w) (hb _ (by simp))];exact h.env.tabs.1 c hc
 · rw[World.cell?_of_block (w:=w) (hb _ (by simp)),World.cell?_of_block (w:=w) (hb _ (by simp))];exact h.env.tabs.2 i hi
 · rw[hb _ (by simp)];exact h.env.kws
 rw[hb _ (by simp)];exact h.env.sgs
def PE(r:Except (Nat×Nat) (List Lx.Tok))(w:World)(e:Ending)(w':World):Prop:=
 Below w.heap.size w w'/\match r with
 |.error (p,c)=>e=.panicked [{v:=.iface 74 (.agg #[.int .i64 (p:Int),.int .i64 (c:Int)]),recovered:=false}]
 |.ok ts=>∃v,e=.returned v/\w'.ownsRow w.heap.size 146 3 v ts.length (toksV ts)
theorem y7(s:ByteArray)(w:World)(he:Env w)(hm:s.size<=maxLen):
   Calls Tryz.prog 27 #[.string s] w (PE (Lx.lex s.data.toList) w):=by
 unfold maxLen at hm;obtain⟨i0,hi,hz0,hz1,hz2⟩:=info_parts Tryz.info146;have HSL:=hd (Lib.size_eq s).symm;by_cases hlong:2000<s.size
 · have HL:Hid (Lx.lex s.data.toList=.error (0,1)):=by show _=_;unfold Lx.lex;rw[if_pos (by rw[HSL.out];exact hlong)]
   go_enter Tryz.func27,Tryz.ntmps27;go_wp2_with fail;refine⟨rfl,Below.refl _ _,?_⟩;rw[HL.out]
   rfl
 have HL:Hid (Lx.lex s.data.toList=Lx.lexM 0 (Lx.bJ s.data.toList) (s.data.toList.drop (Lx.bJ s.data.toList))):=by show _=_;unfold Lx.lex;rw[if_neg (by rw[HSL.out];exact hlong)]
 have hroom:=he.room;have HE:=hd he;clear he;go_enter Tryz.func27,Tryz.ntmps27;go_wp2_with fail;go_loopw [4] (fun v wr=>∃(j:Nat) (ts:List Lx.Tok) (st:Nat),Hid (Rd wr w.heap.size s j st)/\Hid (wr.ownsRow (w.heap.size+1) 146 3 v ts.length (toksV ts))/\Hid (lG s.data.toList (j+Lx.bJ (s.data.toList.drop j)) ts)/\ts.length<=j/\Hid (Below w.heap.size w wr)) (fun _ wr=>s.size-nL wr w.heap.size)
 case atStart=>
  refine⟨0,[],0,⟨af.new _ _ _,hroom,HE.out.below ((Below.refl _ _).alloc (nlr _) _),by omega,by omega⟩,World.ownsRow_nil _ _ _ _,?_,by simp,(Below.refl _ _).alloc (nlr _) _⟩;rw[List.drop_zero,Nat.zero_add];exact lG.start _
 case round=>
  obtain⟨j,ts,st,HR,HO,HX,hts,HW⟩:=hrel;have hjle:=HR.out.le;go_wp2_with fail;refine(JL wr w.heap.size s j st HR.out).mono ?_;rintro e w1 ⟨rfl,h1,g1⟩;have HW1:Hid (Below w.heap.size w w1):=HW.out.grown g1 HW.out.size (fun q hq=>by simp at hq;omega)
  have HO1:Hid (w1.ownsRow (w.heap.size+1) 146 3 u4 ts.length (toksV ts)):=HO.out.kept g1 (by
   cases hv:u4.ownBlock with
   |none=>exact .inl rfl
   |some g=>right;have:=(HO.out.lt g hv).1;simp;omega)
  have hg1:=g1.size;clear g1;have hkle:=h1.le;generalize hkk:j+Lx.bJ (s.data.toList.drop j)=k at*;have HKK:=hd hkk;clear hkk;by_cases hlt:k<s.size
  · go_wp2_with fail;refine(GQ w1 w.heap.size s k st h1 hlt).mono ?_;rintro e w2 ⟨g2,ht⟩;have HW2:Hid (Below w.heap.size w w2):=HW1.out.grown g2 HW1.out.size (fun q hq=>by simp at hq;omega)
    have HO2:Hid (w2.ownsRow (w.heap.size+1) 146 3 u4 ts.length (toksV ts)):=HO1.out.kept g2 (by
     cases hv:u4.ownBlock with
     |none=>exact .inl rfl
     |some g=>right;have:=(HO1.out.lt g hv).1;simp;omega)
    have hg2:=g2.size;clear g2;rcases hone:Lx.oneT (s.data.toList.drop k)with c|⟨c,t,n⟩
    · rw[hone]at ht;simp only at ht;subst ht;refine⟨rfl,HW2.out,?_⟩;rw[HL.out,HX.out.fail (by rw[HSL.out];exact hlt) hone]
    rw[hone]at ht;obtain⟨tv,htv,rfl,h2⟩:=ht;have hlen:=Lx.iB hone;simp only[List.length_drop]at hlen;rw[HSL.out]at hlen;have HS:=hd (HX.out.step (by rw[HSL.out];exact hlt) hone)
    have HT:Hid (tv=⟨t.toArray⟩):=by rw[<-htv];exact(Lib.mk_data tv).symm
    have hzw:=HW2.out.size;have hBlt:w.heap.size<w2.heap.size:=h2.blk.lt;clear hone htv
    go_wp2_with(first
     |(at_builtin;refine wpList_append_own _ rfl _ _ 76 rfl (w.heap.size+1) 146 i0 (.agg #[.int .i64 0,.string ⟨#[]⟩,.int .i64 0]) 3 32 Tryz.underlying76 hi hz0 hz1 hz2 rfl (by decide) _ _ _ rfl (HO2.out.alloc _) ⟨w2.heap.size,0,none⟩ 1 1 [.int .i64 (c:Int),.string tv,.int .i64 (k:Int)] rfl rfl ?c1 ?c2 ?c3 ?c4 ?c5 ?_)
     |fail)
    case c1=>exact Dy w2 _ _ _ _ _ rfl
    case c2=>intro u hu;simp at hu;rcases hu with rfl|rfl|rfl<;>rfl
    case c3=>unfold maxLen;omega
    case c4=>omega
    case c5=>simp;omega
    intro v' w3 hown' hgrow _
    have HO3:Hid (w3.ownsRow (w.heap.size+1) 146 3 v' (ts++[Lx.Tok.mk c t k]).length (toksV (ts++[Lx.Tok.mk c t k]))):=by
     rw[List.length_append,List.length_singleton,nP,Gb];show World.ownsRow _ _ _ _ _ _ _;unfold EP;rw[<-HT.out];exact hown'
    have HW3:Hid (Below w.heap.size w w3):=((HW2.out.alloc hzw _)).grown hgrow (by simp;omega) (fun q hq=>by have:=(HO2.out.lt q hq).1;omega)
    have h3:Rd w3 w.heap.size s (k+n) k:=(h2.below ((Below.refl _ _).alloc (nlr _) _)).kept hgrow (by
     cases hv:u4.ownBlock with
     |none=>simp
     |some g=>have:=(HO2.out.lt g hv).1;simp;omega) (by
     intro q hq;have:=(HO2.out.lt q hq).1;omega)
    clear hown' hgrow;go_wp2_with fail;go_roundw
    case rel=>exact⟨k+n,ts++[Lx.Tok.mk c t k],k,h3,HO3,HS,by simp;have:=HKK.out;omega,HW3⟩
    case measure=>rw[h3.nL,HR.out.nL];have:=HKK.out;omega
  go_wp2_with fail;go_ret;refine⟨HW1.out,?_⟩;rw[HL.out,HX.out.done (by rw[HSL.out];omega)];exact⟨_,rfl,Gd HO1.out (by omega)⟩
theorem JH(p c:Int)(w:World):(Instr.typeAssert (.iface 74 (.agg #[.int .i64 p,.int .i64 c])) 20 74 true).run Tryz.prog w=.ok (.tuple #[.agg #[.int .i64 p,.int .i64 c],.bool true]) w:=by kernel_rfl
theorem I5(p c:Int)(w:World):
   Calls Tryz.prog 18 #[.iface 74 (.agg #[.int .i64 p,.int .i64 c])] w fun e w'=>e=.returned (.tuple #[.int .i64 p,.int .i64 c])/\Below w.heap.size w w':=by
 have hta:=JH p c;go_enter Tryz.func18,Tryz.ntmps18;go_wp2
 go_region
 all_goals go_wp2
 all_goals go_ret2
 all_goals exact⟨rfl,((Below.refl _ _).alloc (nlr _) _).drew⟩
end Go.Proofs.YthhhfcdakfbpkaaGreatDoor
