/- Parts of the proof -/
import Derived.Test.YthhhfcdakfbpkaaGreatDoorP3
namespace Go.Proofs.YthhhfcdakfbpkaaGreatDoor
set_option linter.unusedSimpArgs false
set_option linter.unusedVariables false
set_option maxRecDepth 100000
set_option maxHeartbeats 16000000
open Go.RowKit
variable {B m sz tp:Nat}{w:World}{lv:Value}{dp:Bool}
section
section
variable (B:Nat)(lv:Value)(ts:List Lx.Tok)(sz:Nat)(dp:Bool)
def kV(m n:Nat):Prop:=∀(w:World) (q:List Lx.Tok),q.length<=n->Cx w B lv ts sz q dp->Calls Tryz.prog 236 #[.pointer (some ⟨B,0,none⟩),.int .i64 (m:Int)] w (ah w B lv ts sz dp (gG sz m) q Ew cu)
end
theorem tH{tt:Lx.Bs}{q:List Lx.Tok}{r:Px.iq Nat}(ht:Px.iM tt<=9223372036854775808)(htop:Px.iM tt=9223372036854775808↔tt=Lx.top)(h:yw sz 9223372036854775807 (⟨16,tt,tp⟩::q) r):gG sz 9 (⟨16,tt,tp⟩::q) (Px.mapR (fun n:Nat=>Px.E.num n) r):=by
 unfold yw at h;simp only at h;rw[if_neg (by simp)]at h;by_cases he:tt=Lx.top
 · rw[if_pos (.inl he)]at h;subst h;refine dI (Px.Ex.atom rfl ?_);simp only[Px.atom];rw[if_pos trivial,if_pos he]
 have:Px.iM tt≠9223372036854775808:=fun e=>he (htop.1 e)
 rw[if_neg (by rintro(e|e);exact he e;omega)]at h;subst h;refine dW (by omega) (Px.Ex.atom rfl ?_) ?_
 · simp only[Px.atom];rw[if_pos trivial,if_neg he]
   rfl
 simp only[Px.E.ok];omega
theorem CZ{tt:Lx.Bs}{q:List Lx.Tok}(hl:tt.length<=2000):gG sz 9 (⟨17,tt,tp⟩::q) (.ok (.str tt,q)):=dW (by omega) (Px.Ex.atom rfl rfl) hl
theorem qG{tt:Lx.Bs}{q:List Lx.Tok}{r:Px.iq Lx.Bs}(h:Px.nameR sz (⟨18,tt,tp⟩::q) r):gG sz 9 (⟨18,tt,tp⟩::q) (Px.mapR Px.E.nm r):=by
 unfold Px.nameR at h;simp only[Px.name]at h;rw[if_neg (by simp)]at h;by_cases hl:30<tt.length
 · rw[if_pos hl]at h
   cases h
   refine dI (Px.Ex.atom rfl ?_);simp only[Px.atom];rw[if_neg (by decide),if_neg (by decide),if_pos trivial,if_pos hl]
 rw[if_neg hl]at h
 cases h
 refine dW (by omega) (Px.Ex.atom rfl ?_) (by show tt.length<=30;omega);simp only[Px.atom];rw[if_neg (by decide),if_neg (by decide),if_pos trivial,if_neg hl]
 rfl
theorem mK{q:List Lx.Tok}(hs:∀t∈q,Px.nZ t){s:Lx.Bs}{e:Px.E}(h:Px.sees s q=true)(hk:(s=Px.fB/\e=.bool true)\/(s=Px.dE/\e=.bool false)\/(s=Px.aX/\e=.null)):gG sz 9 q (.ok (e,q.tail)):=by
 obtain⟨t,r,rfl⟩:=Px.pR h
 have hkey:Lx.hasB Lx.keys s=true:=by rcases hk with⟨rfl,_⟩|⟨rfl,_⟩|⟨rfl,_⟩<;>decide
 obtain⟨h1,h2⟩:=(Px.Ao hkey (hs t (by simp))).1 h;obtain⟨tk,tt,tp⟩:=t;simp only at h1 h2;subst h1 h2;rcases hk with⟨rfl,rfl⟩|⟨rfl,rfl⟩|⟨rfl,rfl⟩
 · exact dW (by omega) (Px.Ex.atom rfl rfl) trivial
 · exact dW (by omega) (Px.Ex.atom rfl rfl) trivial
 exact dW (by omega) (Px.Ex.atom rfl rfl) trivial
theorem Bv{q:List Lx.Tok}(h16:(pk sz q).kind≠16)(h17:(pk sz q).kind≠17)(h18:(pk sz q).kind≠18)(h1:Px.sees Px.fB q=false)(h2:Px.sees Px.dE q=false)(h3:Px.sees Px.aX q=false)(h4:Px.sees Px.mD q=false):gG sz 9 q (.error (Px.plc sz q,4)):=by
 refine dI (Px.Ex.atom h4 ?_)
 cases q with
 |nil=>rfl
 |cons t r=>
  simp only[pk]at h16 h17 h18;simp only[Px.atom,Px.plc];rw[if_neg h16,if_neg h17,if_neg h18]
  split
  · rename_i h50
    have K:∀s,Px.sees s (t::r)=false->t.text≠s:=by
     intro s hs e;simp[Px.sees,h50,e]at hs
    rw[if_neg (K _ h3),if_neg (K _ h1),if_neg (K _ h2)]
  rfl
theorem ny{q:List Lx.Tok}(h:Px.sees Px.mD q=true){r:Px.iq Px.E}(h1:gG sz 1 q.tail r){r':Px.iq Px.E}(h2:Px.Then r (fun e p s=>Px.Rg.seq (Px.bG sz Px.kE) (fun _=>Px.Rg.ret e) p s) r'):gG sz 9 q r':=by
 match r,h1,h2 with
 |.error (p,c),h1,h2=>
  simp only[Px.Then]at h2;subst h2;exact dI (Px.Ex.PI h h1.1 rfl)
 |.ok (e,p),h1,h2=>
  simp only[Px.Then]at h2;rcases Px.seq_ok h2 with⟨⟨p1,c1⟩,h3,rfl⟩|⟨_,p',h3,h4⟩
  · rcases Px.aK h3 with⟨_,h5⟩|⟨h5,h6⟩
    · cases h5
    cases h6
    refine dI (Px.Ex.PI h h1.1 ?_);show _=_;rw[if_neg (by simp[h5])]
  cases h4
  rcases Px.aK h3 with⟨h5,h6⟩|⟨_,h5⟩
  · cases h6
    refine dW (by omega) (Px.Ex.PI h h1.1 ?_) (h1.2 _ _ rfl).1;show _=_;rw[if_pos h5]
  cases h5
theorem Cx.Ra{ts:List Lx.Tok}{q:List Lx.Tok}(h:Cx w B lv ts sz q dp):∀t∈q,Px.nZ t:=by
 obtain⟨k,rfl,h2⟩:=h;intro t ht;exact(h2.toks t (List.mem_of_mem_drop ht)).2.1
theorem zw(B:Nat)(lv:Value)(ts:List Lx.Tok)(sz:Nat)(dp:Bool)(w:World)(q:List Lx.Tok)(tk:Nat)(tt:Lx.Bs)(tp:Nat)(hk:tk=16\/tk=17\/tk=18)(h:Cx w B lv ts sz (⟨tk,tt,tp⟩::q) dp):
   Calls Tryz.prog 336 #[.pointer (some ⟨B,0,none⟩)] w (ah w B lv ts sz dp (gG sz 9) (⟨tk,tt,tp⟩::q) Ew cu):=by
 have hf0:=Oe;have hf1:=PR;rcases hk with rfl|rfl|rfl
 · obtain⟨hok,_,_,hlen⟩:=h.tok;obtain⟨hne,hdig,hov⟩:=hok.digs rfl;simp only at hne hdig hov hlen;have HT:=hd (El hdig hov);have HX:=hd h;clear h hok hne hdig hov;go_enter Tryz.func336,Tryz.ntmps336;go_wp2_with fail;refine(bF w B lv ts sz _ dp HX.out).mono ?_;rintro x w1 ⟨rfl,hb⟩;have HX1:=hd (HX.out.below hb);have HB:=hd hb;clear hb;unfold gN pk;simp only;go_wp2_with fail;refine(fE w1 B lv ts sz _ dp HX1.out 9223372036854775807 (by omega)).mono ?_;rintro x w2 ho;obtain⟨hg,⟨p,c,hr,rfl⟩|⟨n,q',v,hr,rfl,hv,hx⟩⟩:=ho.cases
   · exact⟨rfl,ah.err (av (Below.grownBy HB.out) hg) (tH HT.out.2 HT.out.1 hr)⟩
   cases hv
   have HR:=hd (tH HT.out.2 HT.out.1 hr);go_wp2_with fail;go_ret;exact ah.ok (av (Below.grownBy HB.out) hg) HR.out rfl hx
 · have hlen:=h.tok.2.2.2;simp only at hlen;have HX:=hd h;clear h;go_enter Tryz.func336,Tryz.ntmps336;go_wp2_with fail;refine(bF w B lv ts sz _ dp HX.out).mono ?_;rintro x w1 ⟨rfl,hb⟩;have HX1:=hd (HX.out.below hb);have HB:=hd hb;clear hb;unfold gN pk;simp only;go_wp2_with fail;refine(nI w1 B lv ts sz 17 tt tp q dp HX1.out 17 rfl).mono ?_;rintro x w2 ⟨rfl,hx,hg⟩;unfold gN;simp only;go_wp2_with fail;go_ret;exact ah.ok (av (Below.grownBy HB.out) hg) (CZ hlen) rfl hx
 have HX:=hd h;clear h;go_enter Tryz.func336,Tryz.ntmps336;go_wp2_with fail;refine(bF w B lv ts sz _ dp HX.out).mono ?_;rintro x w1 ⟨rfl,hb⟩;have HX1:=hd (HX.out.below hb);have HB:=hd hb;clear hb;unfold gN pk;simp only;go_wp2_with fail;refine(dz w1 B lv ts sz _ dp HX1.out).mono ?_;rintro x w2 ho;obtain⟨hg,⟨p,c,hr,rfl⟩|⟨n,q',v,hr,rfl,hv,hx⟩⟩:=ho.cases
 · exact⟨rfl,ah.err (av (Below.grownBy HB.out) hg) (qG hr)⟩
 cases hv
 have HR:=hd (qG hr);go_wp2_with fail;go_ret;exact ah.ok (av (Below.grownBy HB.out) hg) HR.out rfl hx
theorem wu(B:Nat)(lv:Value)(ts:List Lx.Tok)(sz:Nat)(dp:Bool)(w:World)(q:List Lx.Tok)(tk:Nat)(tt:Lx.Bs)(tp:Nat)(ht:pk sz q=⟨tk,tt,tp⟩)(h16:tk≠16)(h17:tk≠17)(h18:tk≠18)(h:Cx w B lv ts sz q dp)
   (ih:∀n,n<q.length->kV B lv ts sz dp 1 n):
   Calls Tryz.prog 336 #[.pointer (some ⟨B,0,none⟩)] w (ah w B lv ts sz dp (gG sz 9) q Ew cu):=by
 have hf0:=Oe;have HX:=hd h;have HT:=hd ht;have HS:=hd h.Ra;have HI:=hd ih
 have e16:((tk:Int)==16)=false:=by rw[beq_eq_false_iff_ne];omega
 have e17:((tk:Int)==17)=false:=by rw[beq_eq_false_iff_ne];omega
 have e18:((tk:Int)==18)=false:=by rw[beq_eq_false_iff_ne];omega
 clear h ht ih;go_enter Tryz.func336,Tryz.ntmps336;go_wp2_with fail;refine(bF w B lv ts sz _ dp HX.out).mono ?_;rintro x w1 ⟨rfl,hb⟩;have HX1:=hd (HX.out.below hb);have HB:=hd (Below.grownBy (row:=some B) hb);clear hb;rw[HT.out];unfold gN;simp only
 cases hs1:Px.sees Px.fB q with
 |true=>
  go_wp2_with fail;refine(mg ⟨#[84,82,85,69]⟩ w1 B lv ts sz q dp HX1.out hs1 (by simp)).mono ?_;rintro x w2 ⟨rfl,hx,hg⟩;go_wp2_with fail;go_ret;exact ah.ok (av HB.out hg) (mK HS.out hs1 (.inl ⟨rfl,rfl⟩)) rfl hx
 |false=>
  go_wp2_with fail;refine(cB ⟨#[84,82,85,69]⟩ w1 B lv ts sz q dp HX1.out hs1 (by simp)).mono ?_;rintro x w2 ⟨rfl,hb2⟩;have HX2:=hd (HX1.out.below hb2);have HB2:=hd (av HB.out (Below.grownBy (row:=some B) hb2));clear hb2
  cases hs2:Px.sees Px.dE q with
  |true=>
   go_wp2_with fail;refine(mg ⟨#[70,65,76,83,69]⟩ w2 B lv ts sz q dp HX2.out hs2 (by simp)).mono ?_;rintro x w3 ⟨rfl,hx,hg⟩;go_wp2_with fail;go_ret;exact ah.ok (av HB2.out hg) (mK HS.out hs2 (.inr (.inl ⟨rfl,rfl⟩))) rfl hx
  |false=>
   go_wp2_with fail;refine(cB ⟨#[70,65,76,83,69]⟩ w2 B lv ts sz q dp HX2.out hs2 (by simp)).mono ?_;rintro x w3 ⟨rfl,hb3⟩;have HX3:=hd (HX2.out.below hb3);have HB3:=hd (av HB2.out (Below.grownBy (row:=some B) hb3));clear hb3
   cases hs3:Px.sees Px.aX q with
   |true=>
    go_wp2_with fail;refine(mg ⟨#[78,85,76,76]⟩ w3 B lv ts sz q dp HX3.out hs3 (by simp)).mono ?_;rintro x w4 ⟨rfl,hx,hg⟩;go_wp2_with fail;go_ret;exact ah.ok (av HB3.out hg) (mK HS.out hs3 (.inr (.inr ⟨rfl,rfl⟩))) rfl hx
   |false=>
    go_wp2_with fail;refine(cB ⟨#[78,85,76,76]⟩ w3 B lv ts sz q dp HX3.out hs3 (by simp)).mono ?_;rintro x w4 ⟨rfl,hb4⟩;have HX4:=hd (HX3.out.below hb4);have HB4:=hd (av HB3.out (Below.grownBy (row:=some B) hb4));clear hb4;go_wp2_with fail;refine(bz ⟨#[40]⟩ w4 B lv ts sz q dp HX4.out (by simp)).mono ?_;rintro x w5 ho;obtain⟨hg5,⟨p,c,hr,rfl⟩|⟨_,q5,v,hr,rfl,hv,hx5⟩⟩:=ho.cases
    · refine⟨rfl,ah.err (av HB4.out hg5) ?_⟩;rcases Px.aK hr with⟨_,h6⟩|⟨h6,h7⟩
      · cases h6
      cases h7
      exact Bv (by rw[HT.out];exact h16) (by rw[HT.out];exact h17) (by rw[HT.out];exact h18) hs1 hs2 hs3 h6
    cases hv
    have hopen:Px.sees Px.mD q=true/\q5=q.tail:=by
     rcases Px.aK hr with⟨h6,h7⟩|⟨_,h6⟩
     · cases h7;exact⟨h6,rfl⟩
     cases h6
    obtain⟨hop,rfl⟩:=hopen;have HO:=hd hop;have HX5:=hd hx5;have HB5:=hd (av HB4.out hg5);have hlen:=Px.aW hop;clear hr hop hx5 hg5;go_wp2_with fail;refine(HI.out q.tail.length (by omega) w5 q.tail (nlr _) HX5.out).mono ?_;rintro x w6 ho;obtain⟨hg6,⟨p,c,hr,rfl⟩|⟨e,q6,v,hr,rfl,hv,hx6⟩⟩:=ho.cases
    · exact⟨rfl,ah.err (av HB5.out hg6) (ny HO.out hr rfl)⟩
    cases hv
    have HR6:=hd hr;have HX6:Hid (Cx w6 B lv ts sz q6 dp):=hx6;have HB6:=hd (av HB5.out hg6);obtain⟨et,ex,hev⟩:=fZ e;have HEV:=hd hev;rw[hev];clear hr hx6 hg6 hev;go_wp2_with fail;refine(bz ⟨#[41]⟩ w6 B lv ts sz q6 dp HX6.out (by simp)).mono ?_;rintro x w7 ho;obtain⟨hg7,⟨p,c,hr,rfl⟩|⟨_,q7,v,hr,rfl,hv,hx7⟩⟩:=ho.cases
    · exact⟨rfl,ah.err (av HB6.out hg7) (ny HO.out HR6.out (Px.Rg.err hr))⟩
    cases hv
    have HR7:=hd hr;clear hr;go_wp2_with fail;go_ret;exact ah.ok (av HB6.out hg7) (ny HO.out HR6.out (Px.Rg.go HR7.out rfl)) (by rw[<-HEV.out];rfl) hx7
end
theorem yT(B:Nat)(lv:Value)(ts:List Lx.Tok)(sz:Nat)(dp:Bool)(w:World)(q:List Lx.Tok)(h:Cx w B lv ts sz q dp)(ih:∀n,n<q.length->kV B lv ts sz dp 1 n):
   Calls Tryz.prog 336 #[.pointer (some ⟨B,0,none⟩)] w (ah w B lv ts sz dp (gG sz 9) q Ew cu):=by
 rcases ht:pk sz q with⟨tk,tt,tp⟩;by_cases hk:tk=16\/tk=17\/tk=18
 · obtain⟨q',rfl⟩:=rF ht (by omega);exact zw B lv ts sz dp w q' tk tt tp hk h
 exact wu B lv ts sz dp w q tk tt tp ht (by omega) (by omega) (by omega) h ih
theorem Er{q:List Lx.Tok}{r:Px.iq Px.E}(hs:Px.sees Px.kH q=false)(h:gG sz 9 q r):gG sz 8 q r:=⟨Px.Ex.Q0 hs h.1,h.2⟩
theorem Kr{q q':List Lx.Tok}(hs:Px.sees Px.kH q=true)(ht:q.tail=⟨16,Lx.top,tp⟩::q'):gG sz 8 q (.ok (.num Px.bot,q')):=by
 refine dW (by omega) ?_ (by simp only[Px.E.ok,Px.bot];omega);have:=Px.Ex.top (sz:=sz) (a:=[]) hs (by rw[ht];rfl);rw[ht]at this;exact this
theorem He{q:List Lx.Tok}{tk:Nat}{tt:Lx.Bs}(ht:pk sz q=⟨tk,tt,tp⟩)(h:¬(tk=16/\tt=Lx.top)):Px.xL q=false:=by
 cases q with
 |nil=>rfl
 |cons t q=>
  simp only[pk]at ht;subst ht;simp only[Px.xL,Bool.and_eq_false_iff,decide_eq_false_iff_not,beq_eq_false_iff_ne];by_cases h1:tk=16
  · exact .inr fun e=>h ⟨h1,e⟩
  exact .inl h1
theorem KY{q:List Lx.Tok}{r r':Px.iq Px.E}(hs:Px.sees Px.kH q=true)(ht:Px.xL q.tail=false)(h:gG sz 8 q.tail r)(h':Px.Then r (fun e p s=>(∃z,e=.num z/\s=if z=Px.bot then .error (Px.plc sz q,3)else .ok (.num (-z),p))\/(e.isNum=false/\s=.ok (.un 19 e,p))) r'):gG sz 8 q r':=by
 match r,h,h' with
 |.error (p,c),h,h'=>
  simp only[Px.Then]at h';subst h';exact dI (Px.Ex.neg hs ht h.1 rfl)
 |.ok (e,p),h,h'=>
  simp only[Px.Then]at h';have ho:=(h.2 _ _ rfl).1;rcases h' with⟨z,rfl,rfl⟩|⟨hn,rfl⟩
  · by_cases hz:z=Px.bot
    · rw[if_pos hz];refine dI (Px.Ex.neg hs ht h.1 ?_);show Px.negate _ _ _=_;rw[Px.sQ,if_pos hz]
    rw[if_neg hz];refine dW (by omega) (Px.Ex.neg hs ht h.1 ?_) ?_
    · show Px.negate _ _ _=_;rw[Px.sQ,if_neg hz]
    simp only[Px.E.ok,Px.bot]at*;omega
  refine dW (by omega) (Px.Ex.neg hs ht h.1 ?_) ⟨by omega,by omega,fun _=>hn,ho⟩;exact Px.Cv _ 2000 e _ hn ho
theorem oG(B:Nat)(lv:Value)(ts:List Lx.Tok)(sz:Nat)(dp:Bool)(w:World)(q:List Lx.Tok)(h:Cx w B lv ts sz q dp)(ih:∀n,n<q.length->kV B lv ts sz dp 1 n)
   (rec:∀(w:World) (q':List Lx.Tok),q'.length<q.length->Cx w B lv ts sz q' dp->Calls Tryz.prog 303 #[.pointer (some ⟨B,0,none⟩)] w (ah w B lv ts sz dp (gG sz 8) q' Ew cu)):
   Calls Tryz.prog 303 #[.pointer (some ⟨B,0,none⟩)] w (ah w B lv ts sz dp (gG sz 8) q Ew cu):=by
 have hf2:=MH;have HX:=hd h;have HI:=hd ih;have HR:=hd rec;rcases ht:pk sz q with⟨tk,tt,tp⟩;have HT:=hd ht;have HP:=hd (Et ht);clear h ih rec ht
 cases hs:Px.sees Px.kH q with
 |false=>
  go_enter Tryz.func303,Tryz.ntmps303;go_wp2_with fail;refine(bF w B lv ts sz _ dp HX.out).mono ?_;rintro x w1 ⟨rfl,hb⟩;have HX1:=hd (HX.out.below hb);have HB:=hd (Below.grownBy (row:=some B) hb);clear hb;rw[HT.out];unfold gN;simp only;go_wp2_with fail;refine(cB ⟨#[45]⟩ w1 B lv ts sz q dp HX1.out hs (by simp)).mono ?_;rintro x w2 ⟨rfl,hb2⟩;have HX2:=hd (HX1.out.below hb2);have HB2:=hd (av HB.out (Below.grownBy (row:=some B) hb2));clear hb2;go_wp2_with fail;refine(yT B lv ts sz dp w2 q HX2.out HI.out).mono ?_;rintro x w3 ho;obtain⟨hg,⟨p,c,hr,rfl⟩|⟨e,q',v,hr,rfl,hv,hx⟩⟩:=ho.cases
  · exact⟨rfl,ah.err (av HB2.out hg) (Er hs hr)⟩
  have HRR:=hd hr;have HV:=hd hv;obtain⟨et,ex,hev⟩:=fZ e
  have hve:v=.iface et ex:=by rw[<-hev];exact hv
  subst hve;clear hr hv hev;go_wp2_with fail;go_ret;exact ah.ok (av HB2.out hg) (Er hs HRR.out) HV.out hx
 |true=>
  have hlen:=Px.aW hs;go_enter Tryz.func303,Tryz.ntmps303;go_wp2_with fail;refine(bF w B lv ts sz _ dp HX.out).mono ?_;rintro x w1 ⟨rfl,hb⟩;have HX1:=hd (HX.out.below hb);have HB:=hd (Below.grownBy (row:=some B) hb);clear hb;rw[HT.out];unfold gN;simp only;go_wp2_with fail;refine(mg ⟨#[45]⟩ w1 B lv ts sz q dp HX1.out hs (by simp)).mono ?_;rintro x w2 ⟨rfl,hx2,hg2⟩;have HX2:=hd hx2;have HB2:=hd (av HB.out hg2);clear hx2 hg2;rcases ht2:pk sz q.tail with⟨uk,ut,up⟩;have HT2:=hd ht2;clear ht2;go_wp2_with fail;refine(bF w2 B lv ts sz _ dp HX2.out).mono ?_;rintro x w3 ⟨rfl,hb3⟩;rw[HT2.out];unfold gN;simp only;have Ns:=hd (HX2.out.below hb3);have QF:=hd (av HB2.out (Below.grownBy (row:=some B) hb3));have HX3:=hd ((HX2.out.below hb3).below ((Below.refl _ _).alloc (nlr _) (.cells #[.int .i64 (uk:Int),.string ⟨ut.toArray⟩,.int .i64 (up:Int)] 146)));have HB3:=hd (qE (av HB2.out (Below.grownBy (row:=some B) hb3)) (.cells #[.int .i64 (uk:Int),.string ⟨ut.toArray⟩,.int .i64 (up:Int)] 146));clear hb3;by_cases htop:uk=16/\ut=Lx.top
  · obtain⟨rfl,rfl⟩:=htop;obtain⟨q',hq'⟩:=rF HT2.out (by omega);obtain⟨k,hk2,hblk⟩:=Ns.out.blk;have HQ:=hd hq';have c1:w3.cell? ⟨B,1,none⟩=some (.int .i64 (k:Int)):=hblk.cell 1;have f1:=hblk.free 1;have HBK:=hd hblk;have hlt:=Ns.out.lt
    have d1:¬B=w3.heap.size:=by omega
    have d2:¬w3.heap.size=B:=by omega
    clear hq' hblk
    have hte:((⟨Lx.top.toArray⟩:ByteArray).toList==[57,50,50,51,51,55,50,48,51,54,56,53,52,55,55,53,56,48,56])=true:=by rw[Lib.toList_data];rfl
    have HL:=hd (Kr (sz:=sz) hs HQ.out)
    have HNX:Hid (Cx ((w3.setCell ⟨B,1,none⟩ (.int .i64 ((k:Int)+1))).alloc (.cells #[.int .i64 16,.string ⟨Lx.top.toArray⟩,.int .i64 (up:Int)] 146)) B lv ts sz q' dp):=by
     have:=Ns.out.step (dp':=dp) (qE (mY w3 B 1 (.int .i64 ((k:Int)+1))) (.cells #[.int .i64 16,.string ⟨Lx.top.toArray⟩,.int .i64 (up:Int)] 146)) (by rw[HQ.out];simp) k c1 ((HBK.out.set 1 _).alloc _);rw[HQ.out]at this;exact this
    have HGX:Hid (w.grownBy ((w3.setCell ⟨B,1,none⟩ (.int .i64 ((k:Int)+1))).alloc (.cells #[.int .i64 16,.string ⟨Lx.top.toArray⟩,.int .i64 (up:Int)] 146)) (some B)):=qE (av QF.out (mY w3 B 1 (.int .i64 ((k:Int)+1)))) _;clear HX3 HB3;generalize (⟨Lx.top.toArray⟩:ByteArray)=tb at*;go_wp2_with fail;go_ret;exact ah.ok HGX.out HL.out rfl HNX.out
  have HNT:=hd (He HT2.out htop)
  have Ot:((uk:Int)==16)=false\/(((uk:Int)==16)=true/\((⟨ut.toArray⟩:ByteArray).toList==[57,50,50,51,51,55,50,48,51,54,56,53,52,55,55,53,56,48,56])=false):=by
   by_cases h16:uk=16
   · right
     refine⟨by simp[h16],?_⟩;rw[beq_eq_false_iff_ne,Lib.toList_data];intro e;exact htop ⟨h16,e⟩
   left;rw[beq_eq_false_iff_ne];omega
  have FIN:Hid (∀(r:Px.iq Px.E),gG sz 8 q.tail r->∀r',Px.Then r (fun e p s=>(∃z,e=.num z/\s=if z=Px.bot then .error (tp,3)else .ok (.num (-z),p))\/(e.isNum=false/\s=.ok (.un 19 e,p))) r'->gG sz 8 q r'):=by
   intro r hr r' hr';refine KY hs HNT.out hr ?_;rw[HP.out];exact hr'
  clear htop;generalize (⟨ut.toArray⟩:ByteArray)=ub at*;rcases Ot with h16|⟨h16,hte⟩
  all_goals
   go_wp2_with fail;refine(HR.out _ q.tail (by omega) HX3.out).mono ?_;rintro x w4 ho;obtain⟨hg,⟨p,c,hr,rfl⟩|⟨e,q',v,hr,rfl,hv,hx⟩⟩:=ho.cases
   · exact⟨rfl,ah.err (av HB3.out hg) (FIN.out _ hr _ rfl)⟩
   have HRR:=hd hr;have HGF:=hd (av HB3.out hg);have HXF:Hid (Cx w4 B lv ts sz q' dp):=hx
   cases hv
   clear hr hx hg;by_cases I4:e.isNum=true
   · obtain⟨z,rfl⟩:∃z,e=.num z:=by cases e<;>simp[Px.E.isNum]at I4;exact⟨_,rfl⟩
     have hz:=(HRR.out.2 _ _ rfl).1;simp only[Px.E.ok]at hz;unfold ev;by_cases M8:z=Px.bot
     · subst M8;go_wp2_with fail;refine(FR w4 _ tp).mono ?_;rintro x w5 ⟨rfl,hb5⟩;exact⟨rfl,ah.err (av HGF.out (Below.grownBy hb5)) (FIN.out _ HRR.out _ (.inl ⟨_,rfl,by rw[if_pos rfl]⟩))⟩
     go_wp2_with fail;refine(Fx w4 _ tp z (by unfold Px.bot at M8;omega) hz.2).mono ?_;rintro x w5 ⟨rfl,hb5⟩;have HB5:=hd hb5;clear hb5;go_wp2_with fail;go_ret;exact ah.ok (a:=Px.E.num (-z)) (q':=q') (av HGF.out (Below.grownBy HB5.out)) (FIN.out _ HRR.out _ (.inl ⟨_,rfl,by rw[if_neg M8]⟩)) rfl (HXF.out.below HB5.out)
   have I4:e.isNum=false:=by simpa using I4
   obtain⟨et,ex,hev⟩:=fZ e;have HEV:=hd hev;rw[hev];clear hev;go_wp2_with fail;refine Calls.mono (by have:=EU w4 (.pointer (some ⟨B,0,none⟩)) tp e I4;rw[HEV.out]at this;exact this) ?_;rintro x w5 ⟨rfl,hb5⟩;have HB5:=hd hb5;clear hb5;obtain⟨et2,ex2,MU⟩:=fZ (.un 19 e);have Qo:=hd MU;rw[MU];clear MU;go_wp2_with fail;go_ret;exact ah.ok (a:=Px.E.un 19 e) (q':=q') (av HGF.out (Below.grownBy HB5.out)) (FIN.out _ HRR.out _ (.inr ⟨I4,rfl⟩)) (by rw[<-Qo.out];rfl) (HXF.out.below HB5.out)
theorem Ae(B:Nat)(lv:Value)(ts:List Lx.Tok)(sz:Nat)(dp:Bool)(N:Nat)(ih:∀n,n<N->kV B lv ts sz dp 1 n):∀(n:Nat) (w:World) (q:List Lx.Tok),q.length<=n->n<=N->Cx w B lv ts sz q dp->
   Calls Tryz.prog 303 #[.pointer (some ⟨B,0,none⟩)] w (ah w B lv ts sz dp (gG sz 8) q Ew cu):=by
 intro n
 induction n with
 |zero=>intro w q hq hN h;exact oG B lv ts sz dp w q h (fun m hm=>ih m (by omega)) (fun w' q' hq' _=>by omega)
 |succ n ihn=>intro w q hq hN h;exact oG B lv ts sz dp w q h (fun m hm=>ih m (by omega)) (fun w' q' hq' h'=>ihn w' q' (by omega) (by omega) h')
theorem Ba(l:Nat):Px.opIn Px.bP l []=0:=by simp[Px.bP,Px.opIn,Px.QQ,Px.M3]
theorem AA(l sz:Nat)(q:List Lx.Tok):Px.opIn Px.bP l (pG (pk sz q))=Px.oper l q:=by
 cases q with
 |nil=>exact Ba l
 |cons t q=>
  rw[Px.BQ];show Px.opIn Px.bP l (pG t)=_;unfold pG
  split
  · rfl
  exact Ba l
def MG(sz:Nat):Px.Rg Nat:=fun q r=>if Px.sees Px.jq q=true then Px.Rg.seq (Px.bG sz Px.aX) (fun _=>Px.Rg.ret 22) q.tail r else Px.Rg.seq (Px.bG sz Px.aX) (fun _=>Px.Rg.ret 21) q r
theorem Ch(B:Nat)(lv:Value)(ts:List Lx.Tok)(sz:Nat)(dp:Bool)(w:World)(q:List Lx.Tok)(h:Cx w B lv ts sz q dp):
   Calls Tryz.prog 335 #[.pointer (some ⟨B,0,none⟩)] w (ah w B lv ts sz dp (MG sz) q NN cu):=by
 have HX:=hd h;clear h
 cases hs:Px.sees Px.jq q with
 |true=>
  have HR:Hid (∀r,Px.Rg.seq (Px.bG sz Px.aX) (fun _=>Px.Rg.ret 22) q.tail r->MG sz q r):=fun r hr=>by unfold MG;rw[if_pos hs];exact hr
  go_enter Tryz.func335,Tryz.ntmps335;go_wp2_with fail;refine(mg ⟨#[78,79,84]⟩ w B lv ts sz q dp HX.out hs (by simp)).mono ?_;rintro x w2 ⟨rfl,hx,hg⟩;have HX2:=hd hx;have HG2:=hd hg;clear hx hg;go_wp2_with fail;refine(bz ⟨#[78,85,76,76]⟩ w2 B lv ts sz q.tail dp HX2.out (by simp)).mono ?_;rintro x w3 ho;obtain⟨hg,⟨p,c,hr,rfl⟩|⟨_,q',v,hr,rfl,hv,hx⟩⟩:=ho.cases
  · exact⟨rfl,ah.err (av HG2.out hg) (HR.out _ (Px.Rg.err hr))⟩
  cases hv
  have HRR:=hd hr;clear hr;go_wp2_with fail;go_ret;exact ah.ok (a:=22) (av HG2.out hg) (HR.out _ (Px.Rg.go HRR.out rfl)) rfl hx
 |false=>
  have HR:Hid (∀r,Px.Rg.seq (Px.bG sz Px.aX) (fun _=>Px.Rg.ret 21) q r->MG sz q r):=fun r hr=>by unfold MG;rw[if_neg (by simp[hs])];exact hr
  go_enter Tryz.func335,Tryz.ntmps335;go_wp2_with fail;refine(cB ⟨#[78,79,84]⟩ w B lv ts sz q dp HX.out hs (by simp)).mono ?_;rintro x w2 ⟨rfl,hb⟩;have HX2:=hd (HX.out.below hb);have HG2:=hd (Below.grownBy (row:=some B) hb);clear hb;go_wp2_with fail;refine(bz ⟨#[78,85,76,76]⟩ w2 B lv ts sz q dp HX2.out (by simp)).mono ?_;rintro x w3 ho;obtain⟨hg,⟨p,c,hr,rfl⟩|⟨_,q',v,hr,rfl,hv,hx⟩⟩:=ho.cases
  · exact⟨rfl,ah.err (av HG2.out hg) (HR.out _ (Px.Rg.err hr))⟩
  cases hv
  have HRR:=hd hr;clear hr;go_wp2_with fail;go_ret;exact ah.ok (a:=21) (av HG2.out hg) (HR.out _ (Px.Rg.go HRR.out rfl)) rfl hx
theorem KZ{q:List Lx.Tok}{p c:Nat}(h:gG sz 5 q (.error (p,c))):gG sz 4 q (.error (p,c)):=dI (Px.Ex.cmp h.1 rfl)
theorem IX{q q1:List Lx.Tok}{e:Px.E}(h:gG sz 5 q (.ok (e,q1)))(hs:Px.sees Px.Gs q1=false)(ho:Px.oper 4 q1=0):gG sz 4 q (.ok (e,q1)):=
 dW (by omega) (Px.Ex.cmp h.1 (Px.Dh hs ho)) (h.2 _ _ rfl).1
theorem Mr{q q1:List Lx.Tok}{e:Px.E}(h:gG sz 5 q (.ok (e,q1)))(hs:Px.sees Px.Gs q1=false)(ho:Px.oper 4 q1≠0){r:Px.iq Px.E}(h2:gG sz 5 q1.tail r):gG sz 4 q (Px.mapR (Px.E.bin (Px.oper 4 q1) e) r):=by
 match r,h2 with
 |.error (p,c),h2=>exact dI (Px.Ex.cmp h.1 (Px.Bc hs ho h2.1 rfl))
 |.ok (b,q2),h2=>
  have hr:=Px.vG ho;exact dW (by omega) (Px.Ex.cmp h.1 (Px.Bc hs ho h2.1 rfl)) ⟨hr.1,hr.2,(h.2 _ _ rfl).1,(h2.2 _ _ rfl).1⟩
theorem Jt{q q1:List Lx.Tok}{e:Px.E}(h:gG sz 5 q (.ok (e,q1)))(hs:Px.sees Px.Gs q1=true){r:Px.iq Nat}(h2:MG sz q1.tail r):gG sz 4 q (Px.mapR (fun k=>Px.E.un k e) r):=by
 have ho:=(h.2 _ _ rfl).1;unfold MG at h2
 split at h2
 · rename_i hn;have ht:=Px.Bo (sz:=sz) (b:=e.nodes) hs hn;rcases Px.seq_ok h2 with⟨⟨p,c⟩,h3,rfl⟩|⟨_,q2,h3,h4⟩
   · rcases Px.aK h3 with⟨_,h5⟩|⟨h5,h6⟩
     · cases h5
     cases h6
     rw[if_neg (by simp[h5])]at ht;exact dI (Px.Ex.cmp h.1 ht)
   cases h4
   rcases Px.aK h3 with⟨h5,h6⟩|⟨_,h5⟩
   · cases h6
     rw[if_pos h5]at ht;exact dW (by omega) (Px.Ex.cmp h.1 ht) ⟨by omega,by omega,by omega,ho⟩
   cases h5
 rename_i hn;have ht:=Px.G5 (sz:=sz) (b:=e.nodes) hs (by simpa using hn);rcases Px.seq_ok h2 with⟨⟨p,c⟩,h3,rfl⟩|⟨_,q2,h3,h4⟩
 · rcases Px.aK h3 with⟨_,h5⟩|⟨h5,h6⟩
   · cases h5
   cases h6
   rw[if_neg (by simp[h5])]at ht;exact dI (Px.Ex.cmp h.1 ht)
 cases h4
 rcases Px.aK h3 with⟨h5,h6⟩|⟨_,h5⟩
 · cases h6
   rw[if_pos h5]at ht;exact dW (by omega) (Px.Ex.cmp h.1 ht) ⟨by omega,by omega,by omega,ho⟩
 cases h5
theorem Gj(B:Nat)(lv:Value)(ts:List Lx.Tok)(sz:Nat)(dp:Bool)(w:World)(q:List Lx.Tok)(h:Cx w B lv ts sz q dp)(ih:kV B lv ts sz dp 5 q.length):
   Calls Tryz.prog 302 #[.pointer (some ⟨B,0,none⟩)] w (ah w B lv ts sz dp (gG sz 4) q Ew cu):=by
 have HX:=hd h;have HI:=hd ih;clear h ih;go_enter Tryz.func302,Tryz.ntmps302;go_wp2_with fail;refine(HI.out w q (nlr _) HX.out).mono ?_;rintro x w1 ho;obtain⟨hg,⟨p,c,hr,rfl⟩|⟨e,q1,v,hr,rfl,hv,hx⟩⟩:=ho.cases
 · exact⟨rfl,ah.err hg (KZ hr)⟩
 cases hv
 have HR:=hd hr;have HX1:Hid (Cx w1 B lv ts sz q1 dp):=hx;have HG1:=hd hg;have hlen:=(hr.2 _ _ rfl).2;obtain⟨et,ex,hev⟩:=fZ e;have HEV:=hd hev;rw[hev];clear hr hx hg hev ho
 cases hs:Px.sees Px.Gs q1 with
 |true=>
  go_wp2_with fail;refine(mg ⟨#[73,83]⟩ w1 B lv ts sz q1 dp HX1.out hs (by simp)).mono ?_;rintro x w2 ⟨rfl,hx2,hg2⟩;have HX2:=hd hx2;have HG2:=hd (av HG1.out hg2);clear hx2 hg2;go_wp2_with fail;refine(Ch B lv ts sz dp w2 q1.tail HX2.out).mono ?_;rintro x w3 ho;obtain⟨hg,⟨p,c,hr,rfl⟩|⟨k,q',v,hr,rfl,hv,hx⟩⟩:=ho.cases
  · exact⟨rfl,ah.err (av HG2.out hg) (Jt HR.out hs hr)⟩
  cases hv
  have HRR:=hd (Jt HR.out hs hr);clear hr;go_wp2_with fail;go_ret;exact ah.ok (a:=Px.E.un k e) (av HG2.out hg) HRR.out (by show _=ev _;unfold ev;rw[HEV.out];rfl) hx
 |false=>
  go_wp2_with fail;refine(cB ⟨#[73,83]⟩ w1 B lv ts sz q1 dp HX1.out hs (by simp)).mono ?_;rintro x w2 ⟨rfl,hb2⟩;have HX2:=hd (HX1.out.below hb2);have HG2:=hd (av HG1.out (Below.grownBy (row:=some B) hb2));clear hb2;go_wp2_with fail;refine(iU w2 B lv ts sz q1 dp HX2.out).mono ?_;rintro x w3 ⟨rfl,hb3⟩;have HX3:=hd (HX2.out.below hb3);have HG3:=hd (av HG2.out (Below.grownBy (row:=some B) hb3));clear hb3;go_wp2_with fail;refine(lF ⟨(pG (pk sz q1)).toArray⟩ 4 w3 HX3.out.env (by omega)).mono ?_;rintro x w4 ⟨rfl,hb4⟩;have HX4:=hd (HX3.out.below hb4);have HG4:=hd (av HG3.out (Below.grownBy (row:=some B) hb4));have hop:=AA 4 sz q1;simp only[hop];clear hb4 hop;by_cases h0:Px.oper 4 q1=0
  · have HF:=hd (IX HR.out hs h0);rw[h0];go_wp2_with fail;go_ret;exact ah.ok (a:=e) HG4.out HF.out (by show _=ev _;rw[HEV.out];rfl) HX4.out
  have hdec:decide (Px.oper 4 q1≠0)=true:=decide_eq_true h0
  have hq1:q1≠[]:=by rintro rfl;exact h0 rfl
  obtain⟨k,hk2,hblk⟩:=HX4.out.blk;have c1:w4.cell? ⟨B,1,none⟩=some (.int .i64 (k:Int)):=hblk.cell 1;have f1:=hblk.free 1;have HX5:Hid (Cx (w4.setCell ⟨B,1,none⟩ (.int .i64 ((k:Int)+1))) B lv ts sz q1.tail dp):=HX4.out.step (mY w4 B 1 _) hq1 k c1 (hblk.set 1 _);have HG5:=hd (av HG4.out (mY w4 B 1 (.int .i64 ((k:Int)+1))))
  have htl:q1.tail.length<=q.length:=by have:=Px.gM q1;have:=e.size_pos;omega
  rw[hdec];have HF:=hd (fun r (hr:gG sz 5 q1.tail r)=>Mr HR.out hs h0 hr);generalize Px.oper 4 q1=ok at*;clear hblk hdec h0;go_wp2_with fail;refine(HI.out _ q1.tail htl HX5.out).mono ?_;rintro x w6 ho;obtain⟨hg,⟨p,c,hr,rfl⟩|⟨b,q',v,hr,rfl,hv,hx⟩⟩:=ho.cases
  · exact⟨rfl,ah.err (av HG5.out hg) (HF.out _ hr)⟩
  cases hv
  have HRR:=hd (HF.out _ hr);obtain⟨bt,bx,hev⟩:=fZ b;have MR:=hd hev;rw[hev];clear hr hev;go_wp2_with fail;go_ret;exact ah.ok (a:=Px.E.bin ok e b) (av HG5.out hg) HRR.out (by show _=ev _;unfold ev;rw[HEV.out,MR.out];rfl) hx
theorem Ea{q:List Lx.Tok}{r:Px.iq Px.E}(hs:Px.sees Px.jq q=false)(h:gG sz 4 q r):gG sz 3 q r:=⟨Px.Ex.Rc hs h.1,h.2⟩
theorem EE{q:List Lx.Tok}{r:Px.iq Px.E}(hs:Px.sees Px.jq q=true)(h:gG sz 3 q.tail r):gG sz 3 q (Px.mapR (Px.E.un 20) r):=by
 match r,h with
 |.error (p,c),h=>exact dI (Px.Ex.not hs h.1 rfl)
 |.ok (e,p),h=>exact dW (by omega) (Px.Ex.not hs h.1 rfl) ⟨by omega,by omega,by omega,(h.2 _ _ rfl).1⟩
theorem tC(B:Nat)(lv:Value)(ts:List Lx.Tok)(sz:Nat)(dp:Bool)(w:World)(q:List Lx.Tok)(h:Cx w B lv ts sz q dp)(ih:kV B lv ts sz dp 4 q.length)
   (rec:∀(w:World) (q':List Lx.Tok),q'.length<q.length->Cx w B lv ts sz q' dp->Calls Tryz.prog 301 #[.pointer (some ⟨B,0,none⟩)] w (ah w B lv ts sz dp (gG sz 3) q' Ew cu)):
   Calls Tryz.prog 301 #[.pointer (some ⟨B,0,none⟩)] w (ah w B lv ts sz dp (gG sz 3) q Ew cu):=by
 have HX:=hd h;have HI:=hd ih;have HR:=hd rec;clear h ih rec
 cases hs:Px.sees Px.jq q with
 |true=>
  have hlen:=Px.aW hs;go_enter Tryz.func301,Tryz.ntmps301;go_wp2_with fail;refine(mg ⟨#[78,79,84]⟩ w B lv ts sz q dp HX.out hs (by simp)).mono ?_;rintro x w2 ⟨rfl,hx,hg⟩;have HX2:=hd hx;have HG2:=hd hg;clear hx hg;go_wp2_with fail;refine(HR.out w2 q.tail (by omega) HX2.out).mono ?_;rintro x w3 ho;obtain⟨hg,⟨p,c,hr,rfl⟩|⟨e,q',v,hr,rfl,hv,hx⟩⟩:=ho.cases
  · exact⟨rfl,ah.err (av HG2.out hg) (EE hs hr)⟩
  cases hv
  have HRR:=hd (EE hs hr);obtain⟨et,ex,hev⟩:=fZ e;have HEV:=hd hev;rw[hev];clear hr hev;go_wp2_with fail;go_ret;exact ah.ok (a:=Px.E.un 20 e) (av HG2.out hg) HRR.out (by show _=ev _;unfold ev;rw[HEV.out];rfl) hx
 |false=>
  go_enter Tryz.func301,Tryz.ntmps301;go_wp2_with fail;refine(cB ⟨#[78,79,84]⟩ w B lv ts sz q dp HX.out hs (by simp)).mono ?_;rintro x w2 ⟨rfl,hb⟩;have HX2:=hd (HX.out.below hb);have HG2:=hd (Below.grownBy (row:=some B) hb);clear hb;go_wp2_with fail;refine(HI.out w2 q (nlr _) HX2.out).mono ?_;rintro x w3 ho;obtain⟨hg,⟨p,c,hr,rfl⟩|⟨e,q',v,hr,rfl,hv,hx⟩⟩:=ho.cases
  · exact⟨rfl,ah.err (av HG2.out hg) (Ea hs hr)⟩
  cases hv
  have HRR:=hd (Ea hs hr);obtain⟨et,ex,hev⟩:=fZ e;have HEV:=hd hev;rw[hev];clear hr hev;go_wp2_with fail;go_ret;exact ah.ok (a:=e) (av HG2.out hg) HRR.out (by show _=ev _;rw[HEV.out];rfl) hx
theorem Gl(B:Nat)(lv:Value)(ts:List Lx.Tok)(sz:Nat)(dp:Bool):∀(n:Nat),kV B lv ts sz dp 4 n->∀(w:World) (q:List Lx.Tok),q.length<=n->Cx w B lv ts sz q dp->
   Calls Tryz.prog 301 #[.pointer (some ⟨B,0,none⟩)] w (ah w B lv ts sz dp (gG sz 3) q Ew cu):=by
 intro n ih
 have key:∀(k:Nat) (w:World) (q:List Lx.Tok),q.length<=k->q.length<=n->Cx w B lv ts sz q dp->Calls Tryz.prog 301 #[.pointer (some ⟨B,0,none⟩)] w (ah w B lv ts sz dp (gG sz 3) q Ew cu):=by
  intro k
  induction k with
  |zero=>intro w q hq hn h;exact tC B lv ts sz dp w q h (fun w' q' hq' h'=>ih w' q' (by omega) h') (fun w' q' hq' _=>by omega)
  |succ k ihk=>intro w q hq hn h;exact tC B lv ts sz dp w q h (fun w' q' hq' h'=>ih w' q' (by omega) h') (fun w' q' hq' h'=>ihk w' q' (by omega) (by omega) h')
 intro w q hq h;exact key q.length w q (nlr _) hq h
theorem Ht(B:Nat)(lv:Value)(ts:List Lx.Tok)(sz:Nat)(dp:Bool)(n:Nat)(ih:kV B lv ts sz dp 4 n):kV B lv ts sz dp 3 n:=by
 intro w q hq h;have HC:=hd (Gl B lv ts sz dp n ih w q hq h);clear h ih hq;go_enter Tryz.func236,Tryz.ntmps236;go_wp2_with fail;refine HC.out.mono ?_;rintro x w3 ho;obtain⟨hg,⟨p,c,hr,rfl⟩|⟨e,q',v,hr,rfl,hv,hx⟩⟩:=ho.cases
 · exact⟨rfl,ah.err hg hr⟩
 cases hv
 have HRR:=hd hr;obtain⟨et,ex,hev⟩:=fZ e;have HEV:=hd hev;rw[hev];clear hr hev;go_wp2_with fail;go_ret;exact ah.ok (a:=e) hg HRR.out (by show _=ev _;rw[HEV.out];rfl) hx
theorem JP(B:Nat)(lv:Value)(ts:List Lx.Tok)(sz:Nat)(dp:Bool)(n:Nat)(ih:kV B lv ts sz dp 5 n):kV B lv ts sz dp 4 n:=by
 intro w q hq h;have HC:=hd (Gj B lv ts sz dp w q h (fun w' q' hq' h'=>ih w' q' (by omega) h'));clear h ih hq;go_enter Tryz.func236,Tryz.ntmps236;go_wp2_with fail;refine HC.out.mono ?_;rintro x w3 ho;obtain⟨hg,⟨p,c,hr,rfl⟩|⟨e,q',v,hr,rfl,hv,hx⟩⟩:=ho.cases
 · exact⟨rfl,ah.err hg hr⟩
 cases hv
 have HRR:=hd hr;obtain⟨et,ex,hev⟩:=fZ e;have HEV:=hd hev;rw[hev];clear hr hev;go_wp2_with fail;go_ret;exact ah.ok (a:=e) hg HRR.out (by show _=ev _;rw[HEV.out];rfl) hx
theorem GH(B:Nat)(lv:Value)(ts:List Lx.Tok)(sz:Nat)(dp:Bool)(n:Nat)(ih:∀k,k<n->kV B lv ts sz dp 1 k):kV B lv ts sz dp 8 n:=by
 intro w q hq h;have HC:=hd (Ae B lv ts sz dp n ih n w q hq (nlr _) h);clear h ih hq;go_enter Tryz.func236,Tryz.ntmps236;go_wp2_with fail;refine HC.out.mono ?_;rintro x w3 ho;obtain⟨hg,⟨p,c,hr,rfl⟩|⟨e,q',v,hr,rfl,hv,hx⟩⟩:=ho.cases
 · exact⟨rfl,ah.err hg hr⟩
 cases hv
 have HRR:=hd hr;obtain⟨et,ex,hev⟩:=fZ e;have HEV:=hd hev;rw[hev];clear hr hev;go_wp2_with fail;go_ret;exact ah.ok (a:=e) hg HRR.out (by show _=ev _;rw[HEV.out];rfl) hx
def rJ(w:World)(B:Nat):Nat:=match w.cell? ⟨B,1,none⟩with
 |some (.int _ z)=>z.toNat
 |_=>0
theorem Cx.rJ{ts:List Lx.Tok}{q:List Lx.Tok}(h:Cx w B lv ts sz q dp):q.length=ts.length-rJ w B:=by
 obtain⟨k,rfl,h⟩:=h;unfold Go.Proofs.YthhhfcdakfbpkaaGreatDoor.rJ;rw[h.cells.2.1];simp
structure pW(sz m:Nat)(q:List Lx.Tok)(e:Px.E)(q1:List Lx.Tok):Prop where
 ok:e.ok 2000
 len:q1.length<q.length
 goes:∀r,Px.Ex sz (m+10) e.nodes q1 r->Px.Ex sz m [] q r
def eH(m:Nat):Prop:=m=1\/m=2\/m=5\/m=6\/m=7
theorem Jh{q:List Lx.Tok}{p c:Nat}(hm:eH m)(h:gG sz (m+1) q (.error (p,c))):gG sz m q (.error (p,c)):=by
 unfold eH at hm;exact dI (Px.Ex.left (by omega) (by omega) (by omega) h.1 rfl)
theorem CB{q q1:List Lx.Tok}{e:Px.E}(hm:eH m)(h:gG sz (m+1) q (.ok (e,q1))):pW sz m q e q1:=by
 unfold eH at hm;have h2:=h.2 _ _ rfl;have:=e.size_pos;exact⟨h2.1,by omega,fun r hr=>Px.Ex.left (by omega) (by omega) (by omega) h.1 hr⟩
theorem Ha{q q1:List Lx.Tok}{e:Px.E}(hm:eH m)(h:pW sz m q e q1)(ho:Px.oper m q1=0):gG sz m q (.ok (e,q1)):=by
 unfold eH at hm;exact dW (by omega) (h.goes _ (Px.Ex.end_ ho)) h.ok
theorem F9{q q1:List Lx.Tok}{e:Px.E}(h:pW sz m q e q1)(ho:Px.oper m q1≠0){p c:Nat}(h2:gG sz (m+1) q1.tail (.error (p,c))):gG sz m q (.error (p,c)):=
 dI (h.goes _ (Px.Ex.more ho h2.1 rfl))
theorem ES{q q1 q2:List Lx.Tok}{e b:Px.E}(h:pW sz m q e q1)(ho:Px.oper m q1≠0)(h2:gG sz (m+1) q1.tail (.ok (b,q2))):pW sz m q (.bin (Px.oper m q1) e b) q2:=by
 have hr:=Px.vG ho;have:=h2.2 _ _ rfl;have:=Px.gM q1;have:=h.len;exact⟨⟨hr.1,hr.2,h.ok,(h2.2 _ _ rfl).1⟩,by omega,fun r hr=>h.goes _ (Px.Ex.more ho h2.1 hr)⟩
theorem dG(B:Nat)(lv:Value)(ts:List Lx.Tok)(sz:Nat)(dp:Bool)(m n:Nat)(hm:eH m)(ih:kV B lv ts sz dp (m+1) n):kV B lv ts sz dp m n:=by
 intro w q hq h;have HX:=hd h
 have HI:Hid (∀(w:World) (q:List Lx.Tok),q.length<=n->Cx w B lv ts sz q dp->Calls Tryz.prog 236 #[.pointer (some ⟨B,0,none⟩),.int .i64 ((m:Int)+1)] w (ah w B lv ts sz dp (gG sz (m+1)) q Ew cu)):=fun w q hq hx=>by
  have:=ih w q hq hx
  rwa [show((m+1:Nat):Int)=(m:Int)+1 by omega]at this
 have HM:=hd hm
 have e3:((m:Int)==3)=false:=by rw[beq_eq_false_iff_ne];unfold eH at hm;omega
 have e4:((m:Int)==4)=false:=by rw[beq_eq_false_iff_ne];unfold eH at hm;omega
 have e8:((m:Int)==8)=false:=by rw[beq_eq_false_iff_ne];unfold eH at hm;omega
 have hm9:m<=9:=by unfold eH at hm;omega
 clear h ih hm;go_enter Tryz.func236,Tryz.ntmps236;go_wp2_with fail;refine(HI.out w q hq HX.out).mono ?_;rintro x w1 ho;obtain⟨hg,⟨p,c,hr,rfl⟩|⟨e,q1,v,hr,rfl,hv,hx⟩⟩:=ho.cases
 · exact⟨rfl,ah.err hg (Jh HM.out hr)⟩
 cases hv
 have HL:=hd (CB HM.out hr);have HX1:Hid (Cx w1 B lv ts sz q1 dp):=hx;have HG1:=hd hg;obtain⟨et,ex,hev⟩:=fZ e;have HEV:=hd hev;rw[hev];clear hr hx hg hev ho;go_wp2_with fail;go_loopw [5] (fun v wr=>∃(e:Px.E) (q1:List Lx.Tok),Hid (v=ev e)/\Hid (Cx wr B lv ts sz q1 dp)/\Hid (w.grownBy wr (some B))/\Hid (pW sz m q e q1)) (fun _ wr=>ts.length-rJ wr B)
 case atStart=>exact⟨e,q1,HEV.out.symm,HX1,HG1,HL⟩
 case round=>
  clear HL HX1 HG1 HEV;obtain⟨e,q1,HEV,HX1,HG1,HL⟩:=hrel;obtain⟨et,ex,hev⟩:=fZ e
  have hv:u5=.iface et ex:=by rw[HEV.out,hev]
  subst hv;clear hev;go_wp2_with fail;refine(iU wr B lv ts sz q1 dp HX1.out).mono ?_;rintro x w3 ⟨rfl,hb3⟩;have HX3:=hd (HX1.out.below hb3);have HG3:=hd (av HG1.out (Below.grownBy (row:=some B) hb3));clear hb3;go_wp2_with fail;refine(lF ⟨(pG (pk sz q1)).toArray⟩ m w3 HX3.out.env hm9).mono ?_;rintro x w4 ⟨rfl,hb4⟩;have HX4:=hd (HX3.out.below hb4);have HG4:=hd (av HG3.out (Below.grownBy (row:=some B) hb4));have hop:=AA m sz q1;simp only[hop];clear hb4 hop;by_cases h0:Px.oper m q1=0
  · have HF:=hd (Ha HM.out HL.out h0);rw[h0];go_wp2_with fail;go_ret;exact ah.ok (a:=e) HG4.out HF.out (by show _=ev _;rw[<-HEV.out];rfl) HX4.out
  have hdec:decide (Px.oper m q1≠0)=true:=decide_eq_true h0
  have hq1:q1≠[]:=by rintro rfl;exact h0 rfl
  obtain⟨k,hk2,hblk⟩:=HX4.out.blk;have c1:w4.cell? ⟨B,1,none⟩=some (.int .i64 (k:Int)):=hblk.cell 1;have f1:=hblk.free 1;have HX5:Hid (Cx (w4.setCell ⟨B,1,none⟩ (.int .i64 ((k:Int)+1))) B lv ts sz q1.tail dp):=HX4.out.step (mY w4 B 1 _) hq1 k c1 (hblk.set 1 _);have HG5:=hd (av HG4.out (mY w4 B 1 (.int .i64 ((k:Int)+1))))
  have htl:q1.tail.length<=n:=by have:=Px.gM q1;have:=HL.out.len;omega
  have htl2:q1.tail.length+1=q1.length:=by cases q1 with
   |nil=>exact absurd rfl hq1
   |cons t r=>simp
  rw[hdec];have HF1:=hd (fun p c (hr:gG sz (m+1) q1.tail (.error (p,c)))=>F9 HL.out h0 hr);have HF2:=hd (fun b q2 (hr:gG sz (m+1) q1.tail (.ok (b,q2)))=>ES HL.out h0 hr);generalize Px.oper m q1=ok at*;clear hblk hdec h0;go_wp2_with fail;refine(HI.out _ q1.tail htl HX5.out).mono ?_;rintro x w6 ho;obtain⟨hg,⟨p,c,hr,rfl⟩|⟨b,q',v,hr,rfl,hv,hx⟩⟩:=ho.cases
  · exact⟨rfl,ah.err (av HG5.out hg) (HF1.out _ _ hr)⟩
  cases hv
  have HRR:=hd (HF2.out _ _ hr);have hlen2:=(hr.2 _ _ rfl).2;obtain⟨bt,bx,hev⟩:=fZ b;have MR:=hd hev;have HX6:Hid (Cx w6 B lv ts sz q' dp):=hx;have HG6:=hd (av HG5.out hg);have hl1:=HX1.out.rJ;have hl6:=HX6.out.rJ;rw[hev];clear hr hev hx hg ho;go_wp2_with fail;go_roundw
  case rel=>exact⟨.bin ok e b,q',(by show _=ev _;unfold ev;rw[<-HEV.out,MR.out]),HX6,HG6,HRR⟩
  case measure=>have:=b.size_pos;omega
theorem EZ(B:Nat)(lv:Value)(ts:List Lx.Tok)(sz:Nat)(dp:Bool):∀n,kV B lv ts sz dp 1 n:=by
 have key:∀n,∀k,k<=n->kV B lv ts sz dp 1 k:=by
  intro n
  induction n with
  |zero=>
   intro k hk;have h8:=GH B lv ts sz dp k (fun j hj=>by omega);have h7:=dG B lv ts sz dp 7 k (by unfold eH;omega) h8;have h6:=dG B lv ts sz dp 6 k (by unfold eH;omega) h7;have h5:=dG B lv ts sz dp 5 k (by unfold eH;omega) h6;have h3:=Ht B lv ts sz dp k (JP B lv ts sz dp k h5);have h2:=dG B lv ts sz dp 2 k (by unfold eH;omega) h3;exact dG B lv ts sz dp 1 k (by unfold eH;omega) h2
  |succ n ih=>
   intro k hk;have h8:=GH B lv ts sz dp k (fun j hj=>ih j (by omega));have h7:=dG B lv ts sz dp 7 k (by unfold eH;omega) h8;have h6:=dG B lv ts sz dp 6 k (by unfold eH;omega) h7;have h5:=dG B lv ts sz dp 5 k (by unfold eH;omega) h6;have h3:=Ht B lv ts sz dp k (JP B lv ts sz dp k h5);have h2:=dG B lv ts sz dp 2 k (by unfold eH;omega) h3;exact dG B lv ts sz dp 1 k (by unfold eH;omega) h2
 intro n;exact key n n (nlr _)
theorem wrap_small(x:Int)(h1: -1000000<=x)(h2:x<=1000000):IntKind.i64.wrap x=x:=by
 rw[IntKind.wrap_i64];omega
theorem iC(t:Nat)(v:Value)(ht:t=290\/t=285\/t=287\/t=289\/t=271)(w:World):
   Calls Tryz.prog 237 #[.iface t v] w fun x w'=>x=.returned (.int .i64 1)/\Below w.heap.size w w':=by
 have h1:=Kh t v ht;have h2:=Ig t v ht;clear ht;go_enter Tryz.func237,Tryz.ntmps237;go_wp2_with fail;go_ret;exact⟨rfl,Below.refl _ _⟩
theorem Ja(k:Int)(tv:Nat)(xv:Value)(d:Nat)(hd1:d<=100000)(ih:∀w:World,Calls Tryz.prog 237 #[.iface tv xv] w fun x w'=>x=.returned (.int .i64 (d:Int))/\Below w.heap.size w w')(w:World):
   Calls Tryz.prog 237 #[.iface 292 (.agg #[.int .i64 k,.iface tv xv])] w fun x w'=>x=.returned (.int .i64 (1+(d:Int)))/\Below w.heap.size w w':=by
 have h1:=OI (.int .i64 k) (.iface tv xv);go_enter Tryz.func237,Tryz.ntmps237;go_wp2_with fail;refine(ih _).mono ?_;rintro x w1 ⟨rfl,hb⟩;have HB:=hd hb;clear hb;go_wp2_with fail;go_ret;exact⟨rfl,((Below.refl _ _).alloc (nlr _) _).trans (HB.out.mono (by simp))⟩
theorem DL(k:Int)(tu:Nat)(xu:Value)(tv:Nat)(xv:Value)(d e:Nat)(hd1:d<=100000)(he1:e<=100000)(iha:∀w:World,Calls Tryz.prog 237 #[.iface tu xu] w fun x w'=>x=.returned (.int .i64 (d:Int))/\Below w.heap.size w w')
   (ihb:∀w:World,Calls Tryz.prog 237 #[.iface tv xv] w fun x w'=>x=.returned (.int .i64 (e:Int))/\Below w.heap.size w w') (w:World) (hde:(d:Int)<(e:Int)):
   Calls Tryz.prog 237 #[.iface 294 (.agg #[.int .i64 k,.iface tu xu,.iface tv xv])] w fun x w'=>x=.returned (.int .i64 (1+(e:Int)))/\Below w.heap.size w w':=by
 have hmx:max (d:Int) (e:Int)=(e:Int):=by omega
 have hwr:IntKind.i64.wrap (1+(e:Int))=1+(e:Int):=wrap_small _ (by omega) (by omega);have h1:=H7 (.int .i64 k) (.iface tu xu) (.iface tv xv);have h2:=JD (.int .i64 k) (.iface tu xu) (.iface tv xv);go_enter Tryz.func237,Tryz.ntmps237;go_wp2_with fail;clear h1 h2;have KW:=af.new w #[.int .i64 k,.iface tu xu,.iface tv xv] 294;have BW:Below w.heap.size w (w.alloc (.cells #[.int .i64 k,.iface tu xu,.iface tv xv] 294)):=(Below.refl _ _).alloc (nlr _) _;generalize w.alloc (.cells #[.int .i64 k,.iface tu xu,.iface tv xv] 294)=W at*;have k1:W.cell? ⟨w.heap.size,1,none⟩=some (.iface tu xu):=KW.cell 1;have k2:W.cell? ⟨w.heap.size,2,none⟩=some (.iface tv xv):=KW.cell 2;have HK:=hd KW;have HB:=hd BW;have HIA:=hd iha;have HIB:=hd ihb;clear KW BW iha ihb
 go_region_with (go_at_call 237;first
  |(go_at_call_of 237 (Value.iface tu xu)
    refine Calls.mono (HIA.out _) ?_;rintro x w1 ⟨rfl,hb1⟩;have hK:af w1 w.heap.size #[.int .i64 k,.iface tu xu,.iface tv xv] 294:=HK.out.drew.below hb1 HK.out.lt;have q1:w1.cell? ⟨w.heap.size,1,none⟩=some (.iface tu xu):=hK.cell 1;have q2:w1.cell? ⟨w.heap.size,2,none⟩=some (.iface tv xv):=hK.cell 2;have HB1:=hd hb1
    clear hK hb1)
  |(refine Calls.mono (HIB.out _) ?_
    rintro x w2 ⟨rfl,hb2⟩;have HB2:=hd hb2
    clear hb2))
 all_goals
  have hs1:=HB1.out.size;have hs:=HB.out.size;have HBF:Hid (Below w.heap.size w w2):=(HB.out.trans ((Below.refl _ _).drew.trans (HB1.out.mono (by simp at*;omega)))).trans (HB2.out.mono (by simp at*;omega));clear HB HB1 HB2 q1 q2 k1 k2;go_wp2;go_ret;exact⟨rfl,HBF.out⟩
theorem Dt(k:Int)(tu:Nat)(xu:Value)(tv:Nat)(xv:Value)(d e:Nat)(hd1:d<=100000)(he1:e<=100000)(iha:∀w:World,Calls Tryz.prog 237 #[.iface tu xu] w fun x w'=>x=.returned (.int .i64 (d:Int))/\Below w.heap.size w w')
   (ihb:∀w:World,Calls Tryz.prog 237 #[.iface tv xv] w fun x w'=>x=.returned (.int .i64 (e:Int))/\Below w.heap.size w w') (w:World) (hde:¬(d:Int)<(e:Int)):
   Calls Tryz.prog 237 #[.iface 294 (.agg #[.int .i64 k,.iface tu xu,.iface tv xv])] w fun x w'=>x=.returned (.int .i64 (1+(d:Int)))/\Below w.heap.size w w':=by
 have hmx:max (d:Int) (e:Int)=(d:Int):=by omega
 have hwr:IntKind.i64.wrap (1+(d:Int))=1+(d:Int):=wrap_small _ (by omega) (by omega);have h1:=H7 (.int .i64 k) (.iface tu xu) (.iface tv xv);have h2:=JD (.int .i64 k) (.iface tu xu) (.iface tv xv);go_enter Tryz.func237,Tryz.ntmps237;go_wp2_with fail;clear h1 h2;have KW:=af.new w #[.int .i64 k,.iface tu xu,.iface tv xv] 294;have BW:Below w.heap.size w (w.alloc (.cells #[.int .i64 k,.iface tu xu,.iface tv xv] 294)):=(Below.refl _ _).alloc (nlr _) _;generalize w.alloc (.cells #[.int .i64 k,.iface tu xu,.iface tv xv] 294)=W at*;have k1:W.cell? ⟨w.heap.size,1,none⟩=some (.iface tu xu):=KW.cell 1;have k2:W.cell? ⟨w.heap.size,2,none⟩=some (.iface tv xv):=KW.cell 2;have HK:=hd KW;have HB:=hd BW;have HIA:=hd iha;have HIB:=hd ihb;clear KW BW iha ihb
 go_region_with (go_at_call 237;first
  |(go_at_call_of 237 (Value.iface tu xu)
    refine Calls.mono (HIA.out _) ?_;rintro x w1 ⟨rfl,hb1⟩;have hK:af w1 w.heap.size #[.int .i64 k,.iface tu xu,.iface tv xv] 294:=HK.out.drew.below hb1 HK.out.lt;have q1:w1.cell? ⟨w.heap.size,1,none⟩=some (.iface tu xu):=hK.cell 1;have q2:w1.cell? ⟨w.heap.size,2,none⟩=some (.iface tv xv):=hK.cell 2;have HB1:=hd hb1
    clear hK hb1)
  |(refine Calls.mono (HIB.out _) ?_
    rintro x w2 ⟨rfl,hb2⟩;have HB2:=hd hb2
    clear hb2))
 all_goals
  have hs1:=HB1.out.size;have hs:=HB.out.size;have HBF:Hid (Below w.heap.size w w2):=(HB.out.trans ((Below.refl _ _).drew.trans (HB1.out.mono (by simp at*;omega)))).trans (HB2.out.mono (by simp at*;omega));clear HB HB1 HB2 q1 q2 k1 k2;go_wp2;go_ret;exact⟨rfl,HBF.out⟩
theorem AY(e:Px.E)(hs:e.size<=100000):∀w:World,Calls Tryz.prog 237 #[ev e] w fun x w'=>x=.returned (.int .i64 (e.depth:Int))/\Below w.heap.size w w':=by
 induction e with
 |un k e ih=>
  intro w;obtain⟨t,y,hy⟩:=fZ e
  have hsz:e.size<=100000:=by simp only[Px.E.size]at hs;omega
  have hdp:=e.nY;have ih':=ih hsz;rw[hy]at ih';have:=Ja (k:Int) t y e.depth (by omega) ih' w;unfold ev;rw[hy];refine this.mono ?_;rintro x w' ⟨rfl,hb⟩;exact⟨by simp only[Px.E.depth];rw[show((e.depth+1:Nat):Int)=1+(e.depth:Int) by omega],hb⟩
 |bin k a b iha ihb=>
  intro w;obtain⟨ta,ya,hya⟩:=fZ a;obtain⟨tb,yb,hyb⟩:=fZ b
  have hsa:a.size<=100000:=by simp only[Px.E.size]at hs;omega
  have hsb:b.size<=100000:=by simp only[Px.E.size]at hs;omega
  have hda:=a.nY;have hdb:=b.nY;have Ny:=iha hsa;have Na:=ihb hsb;rw[hya]at Ny;rw[hyb]at Na;unfold ev;rw[hya,hyb];by_cases hde:(a.depth:Int)<(b.depth:Int)
  · refine(DL (k:Int) ta ya tb yb a.depth b.depth (by omega) (by omega) Ny Na w hde).mono ?_;rintro x w' ⟨rfl,hb⟩;refine⟨?_,hb⟩;simp only[Px.E.depth];rw[Nat.max_eq_right (by omega),show((b.depth+1:Nat):Int)=1+(b.depth:Int) by omega]
  refine(Dt (k:Int) ta ya tb yb a.depth b.depth (by omega) (by omega) Ny Na w hde).mono ?_;rintro x w' ⟨rfl,hb⟩;refine⟨?_,hb⟩;simp only[Px.E.depth];rw[Nat.max_eq_left (by omega),show((a.depth+1:Nat):Int)=1+(a.depth:Int) by omega]
 |null=>intro w;exact iC _ _ (.inl rfl) w
 |bool b=>intro w;exact iC _ _ (.inr (.inl rfl)) w
 |num z=>intro w;exact iC _ _ (.inr (.inr (.inl rfl))) w
 |str s=>intro w;exact iC _ _ (.inr (.inr (.inr (.inl rfl)))) w
 |nm s=>intro w;exact iC _ _ (.inr (.inr (.inr (.inr rfl)))) w
def dV(e:Px.E):Bool:=decide (40<e.depth)
theorem fU(B:Nat)(lv:Value)(ts:List Lx.Tok)(sz:Nat)(dp:Bool)(w:World)(q:List Lx.Tok)(h:Cx w B lv ts sz q dp):
   Calls Tryz.prog 183 #[.pointer (some ⟨B,0,none⟩)] w (ah w B lv ts sz dp (Px.zU sz) q Ew dV):=by
 have HL:=hd (EZ B lv ts sz dp q.length w q (nlr _) h)
 have hlen:q.length<=2000:=by
  obtain⟨k,rfl,h⟩:=h;have:=h.len;simp;omega
 clear h;go_enter Tryz.func183,Tryz.ntmps183;go_wp2_with fail;refine HL.out.mono ?_;rintro x w1 ho;obtain⟨hg,⟨p,c,hr,rfl⟩|⟨e,q1,v,hr,rfl,hv,hx⟩⟩:=ho.cases
 · exact⟨rfl,ah.err hg hr⟩
 cases hv
 have HX1:Hid (Cx w1 B lv ts sz q1 dp):=hx;have HG1:=hd hg;have HR:Hid (Px.zU sz q (.ok (e,q1))):=hr;have hsz:=(hr.2 _ _ rfl).2;have HD:=hd (AY e (by omega) w1);have hdl:=e.nY;obtain⟨et,ex,hev⟩:=fZ e;have HEV:=hd hev;rw[hev]at HD⊢;clear hr hx hg hev ho;go_wp2_with fail;refine HD.out.mono ?_;rintro x w2 ⟨rfl,hb2⟩;have HX2:=hd (HX1.out.below hb2);have HG2:=hd (av HG1.out (Below.grownBy (row:=some B) hb2));clear hb2 HD;by_cases hdp:40<e.depth
 · have P9:(40:Int)<(e.depth:Int):=by omega
   obtain⟨k,hk,hs⟩:=HX2.out;have c3:=hs.cells.2.2.2;have f3:=hs.blk.free 3;have HX3:Hid (Cx (w2.setCell ⟨B,3,none⟩ (.bool true)) B lv ts sz q1 true):=⟨k,hk,hs.KS⟩;have HG3:=hd (av HG2.out (mY w2 B 3 (.bool true)));clear hs;go_wp2_with fail;go_ret;exact ah.ok (a:=e) HG3.out HR.out (by show _=ev _;rw[HEV.out];rfl) (by unfold dV;rw[decide_eq_true hdp];exact HX3.out)
 have P9:¬(40:Int)<(e.depth:Int):=by omega
 go_wp2_with fail;go_ret;exact ah.ok (a:=e) HG2.out HR.out (by show _=ev _;rw[HEV.out];rfl) (by unfold dV;rw[decide_eq_false hdp];exact HX2.out)
def ev?:Option Px.E->Value
 |none=> .nilIface
 |some e=>ev e
def Rb(o:Option Px.E)(v:Value)(_:World):Prop:=v=ev? o
def fF:Option Px.E->Bool
 |none=>false
 |some e=>dV e
theorem kJ(B:Nat)(lv:Value)(ts:List Lx.Tok)(sz:Nat)(dp:Bool)(w:World)(q:List Lx.Tok)(h:Cx w B lv ts sz q dp):
   Calls Tryz.prog 123 #[.pointer (some ⟨B,0,none⟩)] w (ah w B lv ts sz dp (Px.eY sz) q Rb fF):=by
 have HX:=hd h;clear h
 cases hs:Px.sees Px.uy q with
 |true=>
  have HR:Hid (∀r,Px.Rg.seq (Px.zU sz) (fun e=>Px.Rg.ret (some e)) q.tail r->Px.eY sz q r):=fun r hr=>by unfold Px.eY;rw[if_pos hs];exact hr
  go_enter Tryz.func123,Tryz.ntmps123;go_wp2_with fail;refine(mg ⟨#[87,72,69,82,69]⟩ w B lv ts sz q dp HX.out hs (by simp)).mono ?_;rintro x w2 ⟨rfl,hx,hg⟩;have HX2:=hd hx;have HG2:=hd hg;clear hx hg;go_wp2_with fail;refine(fU B lv ts sz dp w2 q.tail HX2.out).mono ?_;rintro x w3 ho;obtain⟨hg,⟨p,c,hr,rfl⟩|⟨e,q',v,hr,rfl,hv,hx⟩⟩:=ho.cases
  · exact⟨rfl,ah.err (av HG2.out hg) (HR.out _ (Px.Rg.err hr))⟩
  cases hv
  have HRR:=hd hr;obtain⟨et,ex,hev⟩:=fZ e;have HEV:=hd hev;rw[hev];clear hr hev;go_wp2_with fail;go_ret;exact ah.ok (a:=some e) (av HG2.out hg) (HR.out _ (Px.Rg.go HRR.out rfl)) (by show _=ev _;rw[HEV.out];rfl) hx
 |false=>
  have HR:Hid (Px.eY sz q (.ok (none,q))):=by show Px.eY _ _ _;unfold Px.eY;rw[if_neg (by simp[hs])]
  go_enter Tryz.func123,Tryz.ntmps123;go_wp2_with fail;refine(cB ⟨#[87,72,69,82,69]⟩ w B lv ts sz q dp HX.out hs (by simp)).mono ?_;rintro x w2 ⟨rfl,hb⟩;have HX2:=hd (HX.out.below hb);have HG2:=hd (Below.grownBy (row:=some B) hb);clear hb;go_wp2_with fail;go_ret;exact ah.ok (a:=none) HG2.out HR.out rfl HX2.out
theorem af.grown{w':World}{b:Nat}{cs:Array Value}{t:TypeId}(h:af w b cs t)(hg:w.grownBy w' (some B))(hne:b≠B):af w' b cs t:=by
 unfold af at h⊢;rw[hg.block b (geA.1 h).1 (by simp;omega)];exact h
theorem Cx.aZ{ts:List Lx.Tok}{q:List Lx.Tok}(h:Cx w B lv ts sz q dp):∀g,lv.ownBlock=some g->g<w.heap.size:=by
 obtain⟨k,_,h⟩:=h;obtain⟨b,ho⟩:=h.own;intro g hg;exact(ho.lt g hg).2
theorem Cx.far{w0:World}{ts:List Lx.Tok}{q q0:List Lx.Tok}{dp0:Bool}(h:Cx w B lv ts sz q dp)(h0:Cx w0 B lv ts sz q0 dp0){M:Nat}(hM:w0.heap.size<=M)(i:Nat)(v:Value):Cx (w.setCell ⟨M,i,none⟩ v) B lv ts sz q dp:=by
 have hB:=h0.lt;have hL:=h0.aZ;obtain⟨k,hk,h⟩:=h;have hr:=h.low;obtain⟨b,ho⟩:=h.own;refine⟨k,hk,h.blk.far ⟨M,i,none⟩ v (by show M≠B;omega),⟨b,ho.kept (mY w M i v) ?_⟩,h.ne,h.toks,h.len,h.size,h.le,h.env.grown (mY w M i v) (by omega),h.low⟩
 cases hv:lv.ownBlock with
 |none=>simp
 |some g=>right;intro e;simp only[Option.some.injEq]at e;subst e;have:=hL _ hv;omega
def Pt(x:Lx.Bs×Px.E)(v:Value)(_:World):Prop:=v=.agg #[.string ⟨x.1.toArray⟩,ev x.2]
def xI(x:Lx.Bs×Px.E):Bool:=dV x.2
theorem xJ(B:Nat)(lv:Value)(ts:List Lx.Tok)(sz:Nat)(dp:Bool)(w:World)(q:List Lx.Tok)(h:Cx w B lv ts sz q dp):
   Calls Tryz.prog 125 #[.pointer (some ⟨B,0,none⟩)] w (ah w B lv ts sz dp (Px.zg sz) q Pt xI):=by
 have HX:=hd h;have hlt:=h.lt;have HB0:Hid (Below w.heap.size w (w.alloc (.cells #[.string ⟨#[]⟩,.nilIface] 223))):=(Below.refl _ _).alloc (nlr _) _;have KR:=af.new w #[.string ⟨#[]⟩,.nilIface] 223;have HKR:=hd KR;clear h KR;go_enter Tryz.func125,Tryz.ntmps125;go_wp2_with fail;refine(dz _ B lv ts sz q dp (HX.out.below HB0.out)).mono ?_;rintro x w1 ho;obtain⟨hg,⟨p,c,hr,rfl⟩|⟨n,q1,v,hr,rfl,hv,hx⟩⟩:=ho.cases
 · exact⟨rfl,ah.err (av (Below.grownBy HB0.out) hg) (Px.Rg.err hr)⟩
 cases hv
 have HR1:=hd hr;have HX1:Hid (Cx w1 B lv ts sz q1 dp):=hx;have HG1:=hd (av (Below.grownBy HB0.out) hg);have HK1:=hd (HKR.out.grown hg (by omega));clear hr hx hg ho HB0 HKR;go_wp2_with fail;refine(bz ⟨#[61]⟩ w1 B lv ts sz q1 dp HX1.out (by simp)).mono ?_;rintro x w2 ho;obtain⟨hg,⟨p,c,hr,rfl⟩|⟨_,q2,v,hr,rfl,hv,hx⟩⟩:=ho.cases
 · exact⟨rfl,ah.err (av HG1.out hg) (Px.Rg.go HR1.out (Px.Rg.err hr))⟩
 cases hv
 have HR2:=hd hr;have HX2:Hid (Cx w2 B lv ts sz q2 dp):=hx;have HG2:=hd (av HG1.out hg);have HK2:=hd (HK1.out.grown hg (by omega));clear hr hx hg ho HG1 HK1;go_wp2_with fail;refine(fU B lv ts sz dp w2 q2 HX2.out).mono ?_;rintro x w3 ho;obtain⟨hg,⟨p,c,hr,rfl⟩|⟨e,q3,v,hr,rfl,hv,hx⟩⟩:=ho.cases
 · exact⟨rfl,ah.err (av HG2.out hg) (Px.Rg.go HR1.out (Px.Rg.go HR2.out (Px.Rg.err hr)))⟩
 cases hv
 have HR3:=hd hr;have HX3:=hd hx;have HG3:=hd (av HG2.out hg);have HK3:=hd (HK2.out.grown hg (by omega));obtain⟨et,ex,hev⟩:=fZ e;have HEV:=hd hev;rw[hev];have m0:w3.cell? ⟨w.heap.size,0,none⟩=some (.string ⟨#[]⟩):=HK3.out.cell 0;have m1:w3.cell? ⟨w.heap.size,1,none⟩=some .nilIface:=HK3.out.cell 1;have g0:=HK3.out.free 0;have g1:=HK3.out.free 1;clear hr hx hg ho HG2 HK2 hev;go_wp2_with fail;have KF:=(HK3.out.set 0 (.string ⟨n.toArray⟩)).set 1 (.iface et ex);have e0:=KF.cell 0;have e1:=KF.cell 1;simp at e0 e1;refine bodyPost_ret (v:=.agg #[.string ⟨n.toArray⟩,.iface et ex]) (by simp[results,Tryz.results125,go_sem,e0,e1]) rfl ?_;exact ah.ok (a:=(n,e)) (bC (bC HG3.out (nlr _) 0 _) (nlr _) 1 _) (Px.Rg.go HR1.out (Px.Rg.go HR2.out (Px.Rg.go HR3.out rfl))) (by show _=Value.agg #[_,ev e];rw[HEV.out]) ((HX3.out.far HX.out (nlr _) 0 _).far HX.out (nlr _) 1 _)
def LU:Option Px.E->Value
 |none=> .agg #[.bool true,.nilIface]
 |some e=> .agg #[.bool false,ev e]
def O9(x:Option Px.E)(v:Value)(_:World):Prop:=v=LU x
theorem tV(B:Nat)(lv:Value)(ts:List Lx.Tok)(sz:Nat)(dp:Bool)(w:World)(q:List Lx.Tok)(h:Cx w B lv ts sz q dp):
   Calls Tryz.prog 127 #[.pointer (some ⟨B,0,none⟩)] w (ah w B lv ts sz dp (Px.fO sz) q O9 fF):=by
 have HX:=hd h;have hlt:=h.lt;have HB0:Hid (Below w.heap.size w (w.alloc (.cells #[.bool false,.nilIface] 225))):=(Below.refl _ _).alloc (nlr _) _;have KR:=af.new w #[.bool false,.nilIface] 225;have HKR:=hd KR;clear h KR
 cases hs:Px.sees Px.JA q with
 |true=>
  have HR:Hid (Px.fO sz q (.ok (none,q.tail))):=by show Px.fO _ _ _;unfold Px.fO;rw[if_pos hs]
  go_enter Tryz.func127,Tryz.ntmps127;go_wp2_with fail;refine(mg ⟨#[42]⟩ _ B lv ts sz q dp (HX.out.below HB0.out) hs (by simp)).mono ?_;rintro x w3 ⟨rfl,hx,hg⟩;have HX3:=hd hx;have HG3:=hd (av (Below.grownBy HB0.out) hg);have HK3:=hd (HKR.out.grown hg (by omega));have m0:w3.cell? ⟨w.heap.size,0,none⟩=some (.bool false):=HK3.out.cell 0;have m1:w3.cell? ⟨w.heap.size,1,none⟩=some .nilIface:=HK3.out.cell 1;have g0:=HK3.out.free 0;have g1:=HK3.out.free 1;clear hx hg HB0 HKR;go_wp2_with fail;have KF:=(HK3.out.set 0 (.bool true)).set 1 .nilIface;have e0:=KF.cell 0;have e1:=KF.cell 1;simp at e0 e1;refine bodyPost_ret (v:=.agg #[.bool true,.nilIface]) (by simp[results,Tryz.results127,go_sem,e0,e1]) rfl ?_;exact ah.ok (a:=none) (bC (bC HG3.out (nlr _) 0 _) (nlr _) 1 _) HR.out rfl ((HX3.out.far HX.out (nlr _) 0 _).far HX.out (nlr _) 1 _)
 |false=>
  have HR:Hid (∀r,Px.Rg.seq (Px.zU sz) (fun e=>Px.Rg.ret (some e)) q r->Px.fO sz q r):=fun r hr=>by unfold Px.fO;rw[if_neg (by simp[hs])];exact hr
  go_enter Tryz.func127,Tryz.ntmps127;go_wp2_with fail;refine(cB ⟨#[42]⟩ _ B lv ts sz q dp (HX.out.below HB0.out) hs (by simp)).mono ?_;rintro x w2 ⟨rfl,hb⟩;have HX2:=hd ((HX.out.below HB0.out).below hb);have HG2:=hd (av (Below.grownBy (row:=some B) HB0.out) (Below.grownBy (row:=some B) hb));have HK2:=hd (HKR.out.below hb (by simp));clear hb HB0 HKR;go_wp2_with fail;refine(fU B lv ts sz dp w2 q HX2.out).mono ?_;rintro x w3 ho;obtain⟨hg,⟨p,c,hr,rfl⟩|⟨e,q3,v,hr,rfl,hv,hx⟩⟩:=ho.cases
  · exact⟨rfl,ah.err (av HG2.out hg) (HR.out _ (Px.Rg.err hr))⟩
  cases hv
  have HR3:=hd hr;have HX3:=hd hx;have HG3:=hd (av HG2.out hg);have HK3:=hd (HK2.out.grown hg (by omega));obtain⟨et,ex,hev⟩:=fZ e;have HEV:=hd hev;rw[hev];have m0:w3.cell? ⟨w.heap.size,0,none⟩=some (.bool false):=HK3.out.cell 0;have m1:w3.cell? ⟨w.heap.size,1,none⟩=some .nilIface:=HK3.out.cell 1;have g0:=HK3.out.free 0;have g1:=HK3.out.free 1;clear hr hx hg ho HG2 HK2 hev;go_wp2_with fail;have KF:=(HK3.out.set 0 (.bool false)).set 1 (.iface et ex);have e0:=KF.cell 0;have e1:=KF.cell 1;simp at e0 e1;refine bodyPost_ret (v:=.agg #[.bool false,.iface et ex]) (by simp[results,Tryz.results127,go_sem,e0,e1]) rfl ?_;exact ah.ok (a:=some e) (bC (bC HG3.out (nlr _) 0 _) (nlr _) 1 _) (HR.out _ (Px.Rg.go HR3.out rfl)) (by show _=Value.agg #[_,ev e];rw[HEV.out]) ((HX3.out.far HX.out (nlr _) 0 _).far HX.out (nlr _) 1 _)
theorem pI(B:Nat)(lv:Value)(ts:List Lx.Tok)(sz:Nat)(dp:Bool)(w:World)(q:List Lx.Tok)(h:Cx w B lv ts sz q dp):
   Calls Tryz.prog 181 #[.pointer (some ⟨B,0,none⟩)] w (ah w B lv ts sz dp (Px.fu sz) q NN cu):=by
 have HX:=hd h;clear h
 cases hs1:Px.sees Px.kG q with
 |true=>
  have HR:Hid (Px.fu sz q (.ok (1,q.tail))):=by show Px.fu _ _ _;unfold Px.fu;rw[if_pos hs1]
  go_enter Tryz.func181,Tryz.ntmps181;go_wp2_with fail;refine(mg ⟨#[73,78,84,69,71,69,82]⟩ w B lv ts sz q dp HX.out hs1 (by simp)).mono ?_;rintro x w2 ⟨rfl,hx,hg⟩;go_wp2_with fail;go_ret;exact ah.ok (a:=1) hg HR.out rfl hx
 |false=>
  cases hs2:Px.sees Px.mI q with
  |true=>
   have HR:Hid (Px.fu sz q (.ok (2,q.tail))):=by show Px.fu _ _ _;unfold Px.fu;rw[if_neg (by simp[hs1]),if_pos hs2]
   go_enter Tryz.func181,Tryz.ntmps181;go_wp2_with fail;refine(cB ⟨#[73,78,84,69,71,69,82]⟩ w B lv ts sz q dp HX.out hs1 (by simp)).mono ?_;rintro x w1 ⟨rfl,hb⟩;have HX1:=hd (HX.out.below hb);have HG1:=hd (Below.grownBy (row:=some B) hb);clear hb;go_wp2_with fail;refine(mg ⟨#[84,69,88,84]⟩ w1 B lv ts sz q dp HX1.out hs2 (by simp)).mono ?_;rintro x w2 ⟨rfl,hx,hg⟩;go_wp2_with fail;go_ret;exact ah.ok (a:=2) (av HG1.out hg) HR.out rfl hx
  |false=>
   have HR:Hid (∀r,Px.Rg.seq (Px.bG sz Px.iD) (fun _=>Px.Rg.ret 3) q r->Px.fu sz q r):=fun r hr=>by unfold Px.fu;rw[if_neg (by simp[hs1]),if_neg (by simp[hs2])];exact hr
   go_enter Tryz.func181,Tryz.ntmps181;go_wp2_with fail;refine(cB ⟨#[73,78,84,69,71,69,82]⟩ w B lv ts sz q dp HX.out hs1 (by simp)).mono ?_;rintro x w1 ⟨rfl,hb⟩;have HX1:=hd (HX.out.below hb);have HG1:=hd (Below.grownBy (row:=some B) hb);clear hb;go_wp2_with fail;refine(cB ⟨#[84,69,88,84]⟩ w1 B lv ts sz q dp HX1.out hs2 (by simp)).mono ?_;rintro x w2 ⟨rfl,hb⟩;have HX2:=hd (HX1.out.below hb);have HG2:=hd (av HG1.out (Below.grownBy (row:=some B) hb));clear hb;go_wp2_with fail;refine(bz ⟨#[66,79,79,76,69,65,78]⟩ w2 B lv ts sz q dp HX2.out (by simp)).mono ?_;rintro x w3 ho;obtain⟨hg,⟨p,c,hr,rfl⟩|⟨_,q2,v,hr,rfl,hv,hx⟩⟩:=ho.cases
   · exact⟨rfl,ah.err (av HG2.out hg) (HR.out _ (Px.Rg.err hr))⟩
   cases hv
   have HRR:=hd hr;clear hr;go_wp2_with fail;go_ret;exact ah.ok (a:=3) (av HG2.out hg) (HR.out _ (Px.Rg.go HRR.out rfl)) rfl hx
def MQ(x:Px.E×Bool)(v:Value)(_:World):Prop:=v=.agg #[ev x.1,.bool x.2]
def wT(x:Px.E×Bool):Bool:=dV x.1
theorem qN(B:Nat)(lv:Value)(ts:List Lx.Tok)(sz:Nat)(dp:Bool)(w:World)(q:List Lx.Tok)(h:Cx w B lv ts sz q dp):
   Calls Tryz.prog 129 #[.pointer (some ⟨B,0,none⟩)] w (ah w B lv ts sz dp (Px.jf sz) q MQ wT):=by
 have HX:=hd h;have hlt:=h.lt;have HB0:Hid (Below w.heap.size w (w.alloc (.cells #[.nilIface,.bool false] 227))):=(Below.refl _ _).alloc (nlr _) _;have KR:=af.new w #[.nilIface,.bool false] 227;have HKR:=hd KR;clear h KR;go_enter Tryz.func129,Tryz.ntmps129;go_wp2_with fail;refine(fU B lv ts sz dp _ q (HX.out.below HB0.out)).mono ?_;rintro x w1 ho;obtain⟨hg,⟨p,c,hr,rfl⟩|⟨e,q1,v,hr,rfl,hv,hx⟩⟩:=ho.cases
 · exact⟨rfl,ah.err (av (Below.grownBy HB0.out) hg) (Px.Rg.err hr)⟩
 cases hv
 have HR1:=hd hr;obtain⟨et,ex,hev⟩:=fZ e;have HEV:=hd hev;rw[hev];have hsz1:=hg.size;simp only[World.size_alloc]at hsz1;have HX1:=hd (hx.below ((Below.refl _ _).alloc (nlr _) (.cells #[.iface et ex,.bool false] 227)));have HG1:=hd (qE (av (Below.grownBy HB0.out) hg) (.cells #[.iface et ex,.bool false] 227));have HK1:=hd ((HKR.out.grown hg (by omega)).alloc (.cells #[.iface et ex,.bool false] 227));have HL1:=hd (af.new w1 #[.iface et ex,.bool false] 227);clear hr hx hg ho HB0 HKR hev
 cases hs:Px.sees Px.Ab q1 with
 |true=>
  have HR:Hid (Px.iF e q1 (.ok ((e,true),q1.tail))):=by show Px.iF _ _ _;unfold Px.iF;rw[if_pos hs]
  go_wp2_with fail;refine(mg ⟨#[68,69,83,67]⟩ _ B lv ts sz q1 _ HX1.out hs (by simp)).mono ?_;rintro x w2 ⟨rfl,hx,hg⟩;have HX2:=hd hx;have HG2:=hd (av HG1.out hg);have HK2:=hd (HK1.out.grown hg (by omega));have HL2:=hd (HL1.out.grown hg (by omega));have m0:w2.cell? ⟨w.heap.size,0,none⟩=some .nilIface:=HK2.out.cell 0;have m1:w2.cell? ⟨w.heap.size,1,none⟩=some (.bool false):=HK2.out.cell 1;have g0:=HK2.out.free 0;have g1:=HK2.out.free 1;have n0:w2.cell? ⟨w1.heap.size,0,none⟩=some (.iface et ex):=HL2.out.cell 0;have n1:w2.cell? ⟨w1.heap.size,1,none⟩=some (.bool false):=HL2.out.cell 1;have f1:=HL2.out.free 1
  have d1:¬w1.heap.size=w.heap.size:=by omega
  have d2:¬w.heap.size=w1.heap.size:=by omega
  clear hx hg HX1 HG1 HK1 HL1;go_wp2_with fail;have KF:=((HK2.out.far ⟨w1.heap.size,1,none⟩ (.bool true) d1).set 0 (.iface et ex)).set 1 (.bool true);have e0:=KF.cell 0;have e1:=KF.cell 1;simp at e0 e1;refine bodyPost_ret (v:=.agg #[.iface et ex,.bool true]) (by simp[results,Tryz.results129,go_sem,e0,e1]) rfl ?_;exact ah.ok (a:=(e,true)) (bC (bC (bC HG2.out (by omega) 1 _) (nlr _) 0 _) (nlr _) 1 _) (Px.Rg.go HR1.out HR.out) (by show _=Value.agg #[ev e,_];rw[HEV.out]) (((HX2.out.far HX.out (by omega) 1 _).far HX.out (nlr _) 0 _).far HX.out (nlr _) 1 _)
 |false=>
  go_wp2_with fail;refine(cB ⟨#[68,69,83,67]⟩ _ B lv ts sz q1 _ HX1.out hs (by simp)).mono ?_;rintro x w2 ⟨rfl,hb⟩;have hsz2:=hb.size;simp only[World.size_alloc]at hsz2;have HL20:=hd (HL1.out.below hb (by simp));have n00:w2.cell? ⟨w1.heap.size,0,none⟩=some (.iface et ex):=HL20.out.cell 0;have n01:w2.cell? ⟨w1.heap.size,1,none⟩=some (.bool false):=HL20.out.cell 1;have f01:=HL20.out.free 1;have HX2:=hd ((HX1.out.below hb).far HX.out (M:=w1.heap.size) (by omega) 1 (.bool false));have HG2:=hd (bC (av HG1.out (Below.grownBy (row:=some B) hb)) (M:=w1.heap.size) (by omega) 1 (.bool false))
  have d1:¬w1.heap.size=w.heap.size:=by omega
  have d2:¬w.heap.size=w1.heap.size:=by omega
  have HK2:=hd ((HK1.out.below hb (by simp;omega)).far ⟨w1.heap.size,1,none⟩ (.bool false) d1);have HL2:=hd (HL20.out.set 1 (.bool false));clear hb HX1 HG1 HK1 HL1
  cases hs2:Px.sees Px.Ni q1 with
  |true=>
   have HR:Hid (Px.iF e q1 (.ok ((e,false),q1.tail))):=by show Px.iF _ _ _;unfold Px.iF;rw[if_neg (by simp[hs]),if_pos hs2]
   go_wp2_with fail;refine(mg ⟨#[65,83,67]⟩ _ B lv ts sz q1 _ HX2.out hs2 (by simp)).mono ?_;rintro x w3 ⟨rfl,hx,hg⟩;have HX3:=hd hx;have HG3:=hd (av HG2.out hg);have HK3:=hd (HK2.out.grown hg (by omega));have HL3:Hid (af w3 w1.heap.size #[.iface et ex,.bool false] 227):=HL2.out.grown hg (by omega);have m0:w3.cell? ⟨w.heap.size,0,none⟩=some .nilIface:=HK3.out.cell 0;have m1:w3.cell? ⟨w.heap.size,1,none⟩=some (.bool false):=HK3.out.cell 1;have g0:=HK3.out.free 0;have g1:=HK3.out.free 1;have n0:w3.cell? ⟨w1.heap.size,0,none⟩=some (.iface et ex):=HL3.out.cell 0;have n1:w3.cell? ⟨w1.heap.size,1,none⟩=some (.bool false):=HL3.out.cell 1;clear hx hg HX2 HG2 HK2 HL2;go_wp2_with fail;have KF:=(HK3.out.set 0 (.iface et ex)).set 1 (.bool false);have e0:=KF.cell 0;have e1:=KF.cell 1;simp at e0 e1;refine bodyPost_ret (v:=.agg #[.iface et ex,.bool false]) (by simp[results,Tryz.results129,go_sem,e0,e1]) rfl ?_;exact ah.ok (a:=(e,false)) (bC (bC HG3.out (nlr _) 0 _) (nlr _) 1 _) (Px.Rg.go HR1.out HR.out) (by show _=Value.agg #[ev e,_];rw[HEV.out]) ((HX3.out.far HX.out (nlr _) 0 _).far HX.out (nlr _) 1 _)
  |false=>
   have HR:Hid (Px.iF e q1 (.ok ((e,false),q1))):=by show Px.iF _ _ _;unfold Px.iF;rw[if_neg (by simp[hs]),if_neg (by simp[hs2])]
   go_wp2_with fail;refine(cB ⟨#[65,83,67]⟩ _ B lv ts sz q1 _ HX2.out hs2 (by simp)).mono ?_;rintro x w3 ⟨rfl,hb3⟩;have HX3:=hd (HX2.out.below hb3);have HG3:=hd (av HG2.out (Below.grownBy (row:=some B) hb3));have HK3:=hd (HK2.out.below hb3 HK2.out.lt);have HL3:Hid (af w3 w1.heap.size #[.iface et ex,.bool false] 227):=HL2.out.below hb3 HL2.out.lt;have m0:w3.cell? ⟨w.heap.size,0,none⟩=some .nilIface:=HK3.out.cell 0;have m1:w3.cell? ⟨w.heap.size,1,none⟩=some (.bool false):=HK3.out.cell 1;have g0:=HK3.out.free 0;have g1:=HK3.out.free 1;have n0:w3.cell? ⟨w1.heap.size,0,none⟩=some (.iface et ex):=HL3.out.cell 0;have n1:w3.cell? ⟨w1.heap.size,1,none⟩=some (.bool false):=HL3.out.cell 1;clear hb3 HX2 HG2 HK2 HL2;go_wp2_with fail;have KF:=(HK3.out.set 0 (.iface et ex)).set 1 (.bool false);have e0:=KF.cell 0;have e1:=KF.cell 1;simp at e0 e1;refine bodyPost_ret (v:=.agg #[.iface et ex,.bool false]) (by simp[results,Tryz.results129,go_sem,e0,e1]) rfl ?_;exact ah.ok (a:=(e,false)) (bC (bC HG3.out (nlr _) 0 _) (nlr _) 1 _) (Px.Rg.go HR1.out HR.out) (by show _=Value.agg #[ev e,_];rw[HEV.out]) ((HX3.out.far HX.out (nlr _) 0 _).far HX.out (nlr _) 1 _)
def P6(x:Lx.Bs×Nat)(v:Value)(_:World):Prop:=v=.agg #[.string ⟨x.1.toArray⟩,.int .i64 (x.2:Int)]
theorem C8{q q':List Lx.Tok}{k:Nat}(h:Px.fu sz q (.ok (k,q'))):k<=3:=by
 unfold Px.fu at h
 split at h
 · cases h;omega
 split at h
 · cases h;omega
 rcases Px.seq_ok h with⟨e,_,h2⟩|⟨_,_,_,h2⟩
 · cases h2
 cases h2;omega
theorem zN(B:Nat)(lv:Value)(ts:List Lx.Tok)(sz:Nat)(dp:Bool)(w:World)(q:List Lx.Tok)(h:Cx w B lv ts sz q dp)(i:Nat)(hi:i<=100000):
   Calls Tryz.prog 119 #[.pointer (some ⟨B,0,none⟩),.int .i64 ((i:Int)+1)] w (ah w B lv ts sz dp (Px.jh sz i) q P6 cu):=by
 have hf2:=MH;have HX:=hd h;have hlt:=h.lt;rcases ht:pk sz q with⟨tk,tt,tp⟩;have HT:=hd ht;have HP:=hd (Et ht);have HB0:Hid (Below w.heap.size w (w.alloc (.cells #[.string ⟨#[]⟩,.int .i64 0] 220))):=(Below.refl _ _).alloc (nlr _) _;have HKR:=hd (af.new w #[.string ⟨#[]⟩,.int .i64 0] 220);clear h ht;go_enter Tryz.func119,Tryz.ntmps119;go_wp2_with fail;refine(bF _ B lv ts sz q dp (HX.out.below HB0.out)).mono ?_;rintro x w0 ⟨rfl,hb⟩;rw[HT.out];unfold gN;simp only;have HX0:=hd ((HX.out.below HB0.out).below hb);have HG0:=hd (av (Below.grownBy (row:=some B) HB0.out) (Below.grownBy (row:=some B) hb));have HK0:=hd (HKR.out.below hb (by simp));clear hb HB0 HKR;go_wp2_with fail;refine(dz w0 B lv ts sz q dp HX0.out).mono ?_;rintro x w1 ho;obtain⟨hg,⟨p,c,hr,rfl⟩|⟨n,q1,v,hr,rfl,hv,hx⟩⟩:=ho.cases
 · exact⟨rfl,ah.err (av HG0.out hg) (Px.Rg.err hr)⟩
 cases hv
 have HR1:=hd hr;have HX1:Hid (Cx w1 B lv ts sz q1 dp):=hx;have HG1:=hd (av HG0.out hg);have HK1:=hd (HK0.out.grown hg (by omega));clear hr hx hg ho HX0 HG0 HK0;by_cases h6:6<=i
 · have h6':(6:Int)<(i:Int)+1:=by omega
   have HR:Hid (Px.jh sz i q (.error (tp,4))):=Px.Rg.go HR1.out (by rw[if_pos h6,HP.out]);go_wp2_with fail;refine(fT _ _ tp 4).mono ?_;rintro x w2 ⟨rfl,rfl⟩;exact⟨rfl,ah.err HG1.out HR.out⟩
 have h6':¬(6:Int)<(i:Int)+1:=by omega
 have HR:Hid (∀r,Px.Rg.seq (Px.fu sz) (Px.iX sz n) q1 r->Px.jh sz i q r):=fun r hr=>Px.Rg.go HR1.out (by rw[if_neg h6];exact hr)
 go_wp2_with fail;refine(pI B lv ts sz dp w1 q1 HX1.out).mono ?_;rintro x w2 ho;obtain⟨hg,⟨p,c,hr,rfl⟩|⟨k,q2,v,hr,rfl,hv,hx⟩⟩:=ho.cases
 · exact⟨rfl,ah.err (av HG1.out hg) (HR.out _ (Px.Rg.err hr))⟩
 cases hv
 have hk3:=C8 hr;have HR2:=hd hr;have hsz1:=(av HG1.out hg).size
 have Lv:w.heap.size<w2.heap.size:=by have:=HK1.out.lt;have:=hg.size;omega
 have HX2:=hd (Cx.below (w':=w2.alloc (.cells #[.string ⟨n.toArray⟩,.int .i64 (k:Int)] 220)) hx ((Below.refl _ _).alloc (nlr _) _));have HG2:=hd (qE (av HG1.out hg) (.cells #[.string ⟨n.toArray⟩,.int .i64 (k:Int)] 220));have HK2:=hd ((HK1.out.grown hg (by omega)).alloc (.cells #[.string ⟨n.toArray⟩,.int .i64 (k:Int)] 220));have HL2:=hd (af.new w2 #[.string ⟨n.toArray⟩,.int .i64 (k:Int)] 220)
 have d1:¬w2.heap.size=w.heap.size:=by omega
 have d2:¬w.heap.size=w2.heap.size:=by omega
 clear hr hx hg ho HG1 HK1 HX1
 cases hs:Px.sees Px.jq q2 with
 |false=>
  have HRN:Hid (Px.iX sz n k q2 (.ok ((n,k),q2))):=by show Px.iX _ _ _ _ _;unfold Px.iX;rw[if_neg (by simp[hs])]
  go_wp2_with fail;refine(cB ⟨#[78,79,84]⟩ _ B lv ts sz q2 _ HX2.out hs (by simp)).mono ?_;rintro x w3 ⟨rfl,hb3⟩;have HX3:=hd (HX2.out.below hb3);have HG3:=hd (av HG2.out (Below.grownBy (row:=some B) hb3));have HK3:=hd (HK2.out.below hb3 HK2.out.lt);have HL3:=hd (HL2.out.below hb3 HL2.out.lt);have m0:w3.cell? ⟨w.heap.size,0,none⟩=some (.string ⟨#[]⟩):=HK3.out.cell 0;have m1:w3.cell? ⟨w.heap.size,1,none⟩=some (.int .i64 0):=HK3.out.cell 1;have g0:=HK3.out.free 0;have g1:=HK3.out.free 1;have n0:w3.cell? ⟨w2.heap.size,0,none⟩=some (.string ⟨n.toArray⟩):=HL3.out.cell 0;have n1:w3.cell? ⟨w2.heap.size,1,none⟩=some (.int .i64 (k:Int)):=HL3.out.cell 1;clear hb3 HX2 HG2 HK2 HL2;go_wp2_with fail;have KF:=(HK3.out.set 0 (.string ⟨n.toArray⟩)).set 1 (.int .i64 (k:Int));have e0:=KF.cell 0;have e1:=KF.cell 1;simp at e0 e1;refine bodyPost_ret (v:=.agg #[.string ⟨n.toArray⟩,.int .i64 (k:Int)]) (by simp[results,Tryz.results119,go_sem,e0,e1]) rfl ?_;exact ah.ok (a:=(n,k)) (bC (bC HG3.out (nlr _) 0 _) (nlr _) 1 _) (HR.out _ (Px.Rg.go HR2.out HRN.out)) rfl ((HX3.out.far HX.out (nlr _) 0 _).far HX.out (nlr _) 1 _)
 |true=>
  have HRN:Hid (∀r,Px.Rg.seq (Px.bG sz Px.aX) (fun _=>Px.Rg.ret (n,k+4)) q2.tail r->Px.iX sz n k q2 r):=fun r hr=>by unfold Px.iX;rw[if_pos hs];exact hr
  go_wp2_with fail;refine(mg ⟨#[78,79,84]⟩ _ B lv ts sz q2 _ HX2.out hs (by simp)).mono ?_;rintro x w3 ⟨rfl,hx3,hg3⟩;have HX3:=hd hx3;have HG3:=hd (av HG2.out hg3);have HK3:=hd (HK2.out.grown hg3 (by omega));have HL3:=hd (HL2.out.grown hg3 (by have:=HX2.out.lt;have:=HX.out.lt;omega));clear hx3 hg3 HX2 HG2 HK2 HL2;go_wp2_with fail;refine(bz ⟨#[78,85,76,76]⟩ w3 B lv ts sz q2.tail _ HX3.out (by simp)).mono ?_;rintro x w4 ho;obtain⟨hg,⟨p,c,hr,rfl⟩|⟨_,q4,v,hr,rfl,hv,hx⟩⟩:=ho.cases
  · exact⟨rfl,ah.err (av HG3.out hg) (HR.out _ (Px.Rg.go HR2.out (HRN.out _ (Px.Rg.err hr))))⟩
  cases hv
  have HR4:=hd hr;have HX4:=hd hx;have HG4:=hd (av HG3.out hg);have HK4:=hd (HK3.out.grown hg (by omega));have HL4:=hd (HL3.out.grown hg (by omega));have m0:w4.cell? ⟨w.heap.size,0,none⟩=some (.string ⟨#[]⟩):=HK4.out.cell 0;have m1:w4.cell? ⟨w.heap.size,1,none⟩=some (.int .i64 0):=HK4.out.cell 1;have g0:=HK4.out.free 0;have g1:=HK4.out.free 1;have n0:w4.cell? ⟨w2.heap.size,0,none⟩=some (.string ⟨n.toArray⟩):=HL4.out.cell 0;have n1:w4.cell? ⟨w2.heap.size,1,none⟩=some (.int .i64 (k:Int)):=HL4.out.cell 1;have f1:=HL4.out.free 1
  have hcast:((k+4:Nat):Int)=(k:Int)+4:=by omega
  clear hr hx hg ho HX3 HG3 HK3 HL3;go_wp2_with fail;have KF:=((HK4.out.far ⟨w2.heap.size,1,none⟩ (.int .i64 ((k:Int)+4)) d1).set 0 (.string ⟨n.toArray⟩)).set 1 (.int .i64 ((k:Int)+4));have e0:=KF.cell 0;have e1:=KF.cell 1;simp at e0 e1;refine bodyPost_ret (v:=.agg #[.string ⟨n.toArray⟩,.int .i64 ((k:Int)+4)]) (by simp[results,Tryz.results119,go_sem,e0,e1]) rfl ?_;exact ah.ok (a:=(n,k+4)) (bC (bC (bC HG4.out (by omega) 1 _) (nlr _) 0 _) (nlr _) 1 _) (HR.out _ (Px.Rg.go HR2.out (HRN.out _ (Px.Rg.go HR4.out rfl)))) (by show _=Value.agg #[_,.int .i64 ((k+4:Nat):Int)];rw[hcast]) (((HX4.out.far HX.out (by omega) 1 _).far HX.out (nlr _) 0 _).far HX.out (nlr _) 1 _)
theorem Cx.kept{w' w0:World}{ts:List Lx.Tok}{q q0:List Lx.Tok}{dp0:Bool}{row:Option Nat}(h:Cx w B lv ts sz q dp)(h0:Cx w0 B lv ts sz q0 dp0)(hg:w.grownBy w' row)(hrow:∀o,row=some o->w0.heap.size<=o):Cx w' B lv ts sz q dp:=by
 have hB:=h0.lt;have hL:=h0.aZ;obtain⟨k,hk,h⟩:=h;have hlow:=h.low
 have hg':w.grownBy w' (some (match row with|none=>w.heap.size|some o=>o)):=by
  cases row with
  |none=>exact⟨hg.os,hg.tape,hg.output,hg.size,fun k hk _=>hg.block k hk (by simp)⟩
  |some o=>exact hg
 obtain⟨b,ho⟩:=h.own
 have hblk:af w' B #[lv,.int .i64 (k:Int),.int .i64 (sz:Int),.bool dp] 79:=by
  have:=h.blk;unfold af at this⊢
  rw[hg.block B h.blk.lt (by
   intro e;have:=hrow B e.symm
   omega)]
  exact this
 refine⟨k,hk,hblk,⟨b,ho.kept hg ?_⟩,h.ne,h.toks,h.len,h.size,h.le,h.env.grown hg' ?_,h.low⟩
 · cases hv:lv.ownBlock with
   |none=>simp
   |some g=>
    right
    intro e;have:=hrow g e.symm;have:=hL g hv;omega
 cases row with
 |none=>have:=h.blk.lt;simp only;omega
 |some o=>have:=hrow o rfl;simp only;omega
theorem lI{α:Type}(dv:α->Bool)(l:List α)(a:α)(dp:Bool):((l++[a]).any dv||dp)=(dv a||(l.any dv||dp)):=by
 simp only[List.any_append,List.any_cons,List.any_nil,Bool.or_false]
 cases dv a<;>cases l.any dv<;>cases dp<;>rfl
theorem Tryz.info98:(Tryz.prog.info? 98).map (fun i=>(i.zero,i.size,i.bytes))=some (some .nilIface,1,16):=by kernel_rfl
def pE{α:Type}(B:Nat)(T:TypeId)(size:Nat)(cl:α->List Value)(l:List α)(v:Value)(w:World):Prop:=w.ownsRow (B+1) T size v l.length (l.flatMap cl)
def gI(e:Px.E):List Value:=[ev e]
def F5(x:Lx.Bs×Px.E):List Value:=[.string ⟨x.1.toArray⟩,ev x.2]
def itemC:Option Px.E->List Value
 |none=>[.bool true,.nilIface]
 |some e=>[.bool false,ev e]
def bq(x:Px.E×Bool):List Value:=[ev x.1,.bool x.2]
def mO(x:Lx.Bs×Nat):List Value:=[.string ⟨x.1.toArray⟩,.int .i64 (x.2:Int)]
theorem jA{α:Type}(cl:α->List Value)(l:List α)(a:α):(l++[a]).flatMap cl=l.flatMap cl++cl a:=by simp
theorem dC{base base':Nat}{e:TypeId}{size:Nat}{v:Value}{n:Nat}{xs:List Value}(h:w.ownsRow base e size v n xs)(hb:base'<=base):w.ownsRow base' e size v n xs:=by
 refine⟨h.1,?_⟩;rcases h.2 with hn|⟨g,cap,cur,hv,hg,r⟩
 · exact .inl hn
 exact .inr ⟨g,cap,cur,hv,by omega,r⟩
theorem BB(w:World)(a:Value)(t:TypeId):∀j u,([a]:List Value)[j]? =some u->(w.alloc (.cells #[a] t)).cell? ((⟨w.heap.size,0,none⟩:Addr).add j)=some u:=by
 intro j u hu;rw[Addr.add_lit,Nat.zero_add,(af.new w #[a] t).cell];simpa using hu
theorem o8(w:World)(a b:Value)(t:TypeId):∀j u,([a,b]:List Value)[j]? =some u->(w.alloc (.cells #[a,b] t)).cell? ((⟨w.heap.size,0,none⟩:Addr).add j)=some u:=by
 intro j u hu;rw[Addr.add_lit,Nat.zero_add,(af.new w #[a,b] t).cell];simpa using hu
theorem Am(w:World)(a:Value)(t:TypeId):(w.alloc (.cells #[a] t)).ownsRow w.heap.size t 1 (.slice (some ⟨w.heap.size,0,none⟩) 1 1) 1 [a]:=
 ⟨by simp,.inr ⟨w.heap.size,1,#[a],rfl,nlr _,heap_alloc_new w _,by omega,by unfold maxLen;omega,by simp,by simp⟩⟩
theorem nK(w:World)(a b:Value)(t:TypeId):(w.alloc (.cells #[a,b] t)).ownsRow w.heap.size t 2 (.slice (some ⟨w.heap.size,0,none⟩) 1 1) 1 [a,b]:=
 ⟨by simp,.inr ⟨w.heap.size,1,#[a,b],rfl,nlr _,heap_alloc_new w _,by omega,by unfold maxLen;omega,by simp,by simp⟩⟩
theorem uN(B:Nat)(lv:Value)(ts:List Lx.Tok)(sz:Nat)(dp:Bool)(w:World)(q:List Lx.Tok)(h:Cx w B lv ts sz q dp):
   Calls Tryz.prog 182 #[.pointer (some ⟨B,0,none⟩),.func (.func 183) #[.pointer (some ⟨B,0,none⟩)] #[]] w (ah w B lv ts sz dp (Px.Sep fun _=>Px.zU sz) q (pE B 98 1 gI) fun l=>l.any dV):=by
 obtain⟨i0,hi,hz0,hz1,hz2⟩:=info_parts Tryz.info98;have HX:=hd h;have hlt:=h.lt
 have sH:q.length<=2000:=by
  obtain⟨k,rfl,h⟩:=h;have:=h.len;simp;omega
 clear h;go_enter Tryz.func182,Tryz.ntmps182;go_wp2_with fail;refine(fU B lv ts sz dp w q HX.out).mono ?_;rintro x w1 ho;obtain⟨hg,⟨p,c,hr,rfl⟩|⟨a,q1,v,hr,rfl,hv,hx⟩⟩:=ho.cases
 · exact⟨rfl,ah.err hg (Px.Sep.err0 hr)⟩
 have HR1:=hd (Px.Reach.first (x:=fun _=>Px.zU sz) hr);have HX1:=hd hx;have HG1:=hd hg;have hs1:=hg.size;clear hr hx hg ho
 cases hv
 obtain⟨et,ex,hev⟩:=fZ a;have HEV:=hd hev;rw[hev];clear hev;have HO1:=hd (dC (Am w1 (.iface et ex) 98) hs1);have kM:=hd (HX1.out.below ((Below.refl _ _).alloc (nlr _) (.cells #[.iface et ex] 98)));have lJ:=hd (qE HG1.out (.cells #[.iface et ex] 98));clear HX1 HG1;go_wp2_with fail;go_loopw [5] (fun v wr=>∃(l:List Px.E) (q1:List Lx.Tok),Hid (wr.ownsRow w.heap.size 98 1 v l.length (l.flatMap gI))/\Hid (Cx wr B lv ts sz q1 (l.any dV||dp))/\Hid (w.grownBy wr (some B))/\Hid (Px.Reach (fun _=>Px.zU sz) q l q1)) (fun _ wr=>ts.length-rJ wr B)
 case atStart=>exact⟨[a],q1,(by have:=HO1.out;simp only[List.flatMap_cons,List.flatMap_nil,List.append_nil,List.length_singleton,gI];rw[HEV.out];exact this),(by show Cx _ _ _ _ _ _ _;have:=kM.out;simpa using this),lJ,HR1⟩
 case round=>
  clear HR1 kM lJ HO1;obtain⟨l,q1,HO,HX1,HG1,HRe⟩:=hrel;have hll:q1.length+l.length<=q.length+1:=HRe.out.len (fun _=>Px.fV sz)
  cases hs:Px.sees Px.iK q1 with
  |false=>
   go_wp2_with fail;refine(cB ⟨#[44]⟩ wr B lv ts sz q1 _ HX1.out hs (by simp)).mono ?_;rintro x w2 ⟨rfl,hb⟩;have HO2:=hd (dA HO.out hb);have HB:=hd hb;clear hb;go_wp2_with fail;go_ret;exact ah.ok (a:=l) (av HG1.out (Below.grownBy HB.out)) (Px.Sep.stop HRe.out hs) (dC HO2.out (by omega)) (HX1.out.below HB.out)
  |true=>
   have hcl:=Px.aW hs;go_wp2_with fail;refine(mg ⟨#[44]⟩ wr B lv ts sz q1 _ HX1.out hs (by simp)).mono ?_;rintro x w2 ⟨rfl,hx2,hg2⟩;have HX2:=hd hx2;have HG2:=hd (av HG1.out hg2)
   have HO2:=hd (HO.out.kept hg2 (by
    cases hv:u5.ownBlock with
    |none=>exact .inl rfl
    |some g=>right;have:=(HO.out.lt g hv).1;simp;omega))
   have hl1:=HX1.out.rJ;clear hx2 hg2 HG1 HO;go_wp2_with fail;refine(fU B lv ts sz _ w2 q1.tail HX2.out).mono ?_;rintro x w3 ho;obtain⟨hg,⟨p,c,hr,rfl⟩|⟨a,q2,v,hr,rfl,hv,hx⟩⟩:=ho.cases
   · exact⟨rfl,ah.err (av HG2.out hg) (Px.Sep.err HRe.out hs hr)⟩
   have HR3:=hd (HRe.out.step hs hr);have hsh:=Px.fV sz _ _ _ hr;have HX3:=hd hx;have HG3:=hd (av HG2.out hg)
   have HO3:=hd (HO2.out.kept hg (by
    cases hv:u5.ownBlock with
    |none=>exact .inl rfl
    |some g=>right;have:=(HO2.out.lt g hv).1;simp;omega))
   have hs3:=HG3.out.size;clear hr hx hg ho HG2 HO2 HX1 HX2
   cases hv
   obtain⟨et,ex,hev⟩:=fZ a;have HEV:=hd hev;rw[hev];clear hev;have HX3':=hd (HX3.out.below ((Below.refl _ _).alloc (nlr _) (.cells #[.iface et ex] 98)));have bN:=hd (qE HG3.out (.cells #[.iface et ex] 98));clear HX3 HG3
   go_wp2_with(first
    |(at_builtin;refine wpList_append_own _ rfl _ _ 132 rfl w.heap.size 98 i0 .nilIface 1 16 Tryz.underlying132 hi hz0 hz1 hz2 rfl (by decide) _ _ _ rfl (HO3.out.alloc _) ⟨w3.heap.size,0,none⟩ 1 1 [.iface et ex] rfl rfl ?c1 ?c2 ?c3 ?c4 ?c5 ?_)
    |fail)
   case c1=>exact BB w3 (.iface et ex) 98
   case c2=>intro u hu;simp at hu;subst hu;rfl
   case c3=>unfold maxLen;omega
   case c4=>omega
   case c5=>simp;omega
   intro v' w4 hown' hgrow _
   have HO4:Hid (w4.ownsRow w.heap.size 98 1 v' (l++[a]).length ((l++[a]).flatMap gI)):=by
    rw[List.length_append,List.length_singleton,jA];show World.ownsRow _ _ _ _ _ _ _;simp only[gI];rw[HEV.out];exact hown'
   have HX4:=hd (HX3'.out.kept HX.out hgrow (fun o ho=>(HO3.out.lt o ho).1))
   have HG4:Hid (w.grownBy w4 (some B)):=by
    refine⟨hgrow.os.trans bN.out.os,hgrow.tape.trans bN.out.tape,hgrow.output.trans bN.out.output,Nat.le_trans bN.out.size hgrow.size,fun k hk hne=> ?_⟩
    rw[hgrow.block k (nlA hk bN.out.size) (by
     intro e;have:=(HO3.out.lt k e.symm).1
     omega)]
    exact bN.out.block k hk hne
   have hl4:=HX4.out.rJ;clear hown' hgrow HX3' bN HO3;go_wp2_with fail;go_roundw
   case rel=>exact⟨l++[a],q2,HO4,(by have:=HX4.out;rw[lI];exact this),HG4,HR3⟩
   case measure=>omega
end Go.Proofs.YthhhfcdakfbpkaaGreatDoor
