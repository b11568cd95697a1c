/- Parts of the proof -/
import Derived.Test.YthhhfcdakfbpkaaGreatDoorO7
namespace Go.Proofs.YthhhfcdakfbpkaaGreatDoor
set_option linter.unusedSimpArgs false
set_option linter.unusedVariables false
set_option maxRecDepth 100000
set_option maxHeartbeats 16000000
open Go.RowKit
namespace Mg
theorem Gp(cs:ax)(n:Lx.Bs):decide (0<=fJ cs n)=(place cs n).isSome:=by
 unfold fJ
 cases place cs n with
 |none=>rfl
 |some i=>simp
end Mg
namespace Mn
theorem G5(cs:Mg.ax)(hn:cs.length<=1000)(sv:Value)(e:Px.E):∀(w:World),aM w sv cs->Calls Tryz.prog 143 #[sv,ev e] w fun x w'=>x=.returned (.bool (Mg.knows cs e))/\Below w.heap.size w w':=by
 induction e with
 |null=>
  intro w hC;clear hC;have a1:=nD;have a2:=kU;have a3:=kr;unfold ev;go_enter Tryz.func143,Tryz.ntmps143;go_wp2_with fail;go_ret;exact⟨rfl,by go_grown⟩
 |bool z=>
  intro w hC;clear hC;have a1:=DX (.bool z);have a2:=AO (.bool z);have a3:=zn (.bool z);unfold ev;go_enter Tryz.func143,Tryz.ntmps143;go_wp2_with fail;go_ret;exact⟨rfl,by go_grown⟩
 |num z=>
  intro w hC;clear hC;have a1:=yZ (.int .i64 z);have a2:=wN (.int .i64 z);have a3:=uW (.int .i64 z);unfold ev;go_enter Tryz.func143,Tryz.ntmps143;go_wp2_with fail;go_ret;exact⟨rfl,by go_grown⟩
 |str z=>
  intro w hC;clear hC;have a1:=yK (.string ⟨z.toArray⟩);have a2:=wT (.string ⟨z.toArray⟩);have a3:=vR (.string ⟨z.toArray⟩);unfold ev;go_enter Tryz.func143,Tryz.ntmps143;go_wp2_with fail;go_ret;exact⟨rfl,by go_grown⟩
 |nm s=>
  intro w hC;have a1:=nC (.string ⟨s.toArray⟩)
  have HB0:Hid (Below w.heap.size w (w.alloc (.cells #[.string ⟨s.toArray⟩] 271))):=by show Below _ _ _;go_grown
  have HP:=hd (qm cs s sv _ hn (hC.below HB0.out));have hge:=Mg.Gp cs s;clear hC;unfold ev;go_enter Tryz.func143,Tryz.ntmps143;go_wp2_with fail;refine HP.out.mono ?_;rintro x w1 ⟨rfl,hb⟩;have HB1:Hid (Below w.heap.size w w1):=HB0.out.trans (hb.mono HB0.out.size);clear hb HP
  have HGE:Hid (Mg.knows cs (.nm s)=decide (0<=Mg.fJ cs s)):=by show _=_;rw[hge];rfl
  clear hge;generalize Mg.fJ cs s=z at*;go_wp2_with fail;go_ret;exact⟨by rw[HGE.out];rfl,HB1.out⟩
 |un k a iha=>
  intro w hC;obtain⟨et,ex,hea⟩:=gH a;have HC:=hd hC;have hA:=iha;rw[hea]at hA;have HA:=hd hA;have a1:=lN (.int .i64 (k:Int)) (.iface et ex);have a2:=ky (.int .i64 (k:Int)) (.iface et ex);have HKN:Hid (Mg.knows cs (.un k a)=Mg.knows cs a):=rfl;unfold ev;rw[hea];clear hA hea iha hC
  have HB0:Hid (Below w.heap.size w (w.alloc (.cells #[.int .i64 (k:Int),.iface et ex] 292))):=by show Below _ _ _;go_grown
  have HC0:=hd (HC.out.below HB0.out);generalize Mg.knows cs (.un k a)=ra at*;generalize Mg.knows cs a=rb at*;go_enter Tryz.func143,Tryz.ntmps143;go_wp2_with fail;refine(HA.out _ HC0.out).mono ?_;rintro x w1 ⟨rfl,hb⟩;have HB1:Hid (Below w.heap.size w w1):=HB0.out.trans (hb.mono HB0.out.size);clear hb;go_wp2_with fail;go_ret;exact⟨by rw[HKN.out];rfl,HB1.out⟩
 |bin k a b iha ihb=>
  intro w hC;obtain⟨et,ex,hea⟩:=gH a;obtain⟨ft,fx,heb⟩:=gH b;have HC:=hd hC;have hA:=iha;have hB:=ihb;rw[hea]at hA;rw[heb]at hB;have HA:=hd hA;have HB:=hd hB;have a1:=kg (.int .i64 (k:Int)) (.iface et ex) (.iface ft fx);have a2:=jo (.int .i64 (k:Int)) (.iface et ex) (.iface ft fx);have a3:=iB (.int .i64 (k:Int)) (.iface et ex) (.iface ft fx);have HKN:Hid (Mg.knows cs (.bin k a b)=(Mg.knows cs a&&Mg.knows cs b)):=rfl;unfold ev;rw[hea,heb];clear hA hB hea heb iha ihb hC
  have HB0:Hid (Below w.heap.size w (w.alloc (.cells #[.int .i64 (k:Int),.iface et ex,.iface ft fx] 294))):=by show Below _ _ _;go_grown
  have HC0:=hd (HC.out.below HB0.out);have HK0:=hd (af.new w #[.int .i64 (k:Int),.iface et ex,.iface ft fx] 294);have hl0:=HK0.out.lt;generalize Mg.knows cs (.bin k a b)=r at*;generalize Mg.knows cs a=ra at*;generalize Mg.knows cs b=rb at*;go_enter Tryz.func143,Tryz.ntmps143;go_wp2_with fail;refine(HA.out _ HC0.out).mono ?_;rintro x w1 ⟨rfl,hb⟩;have HB1:Hid (Below w.heap.size w w1):=HB0.out.trans (hb.mono HB0.out.size);have HC1:=hd (HC0.out.below hb);have K1:=HK0.out.below hb hl0;have b2:=K1.cell 2;simp at b2;have hl1:=K1.lt;clear hb K1
  cases ra
  · go_wp2_with fail;go_ret;exact⟨by rw[HKN.out];rfl,HB1.out⟩
  go_wp2_with fail;refine(HB.out _ HC1.out).mono ?_;rintro x w2 ⟨rfl,hb⟩;have HB2:Hid (Below w.heap.size w w2):=HB1.out.trans (hb.mono HB1.out.size);clear hb;go_wp2_with fail;go_ret;exact⟨by rw[HKN.out];rfl,HB2.out⟩
end Mn
namespace Mn
def EE(w:World)(r:Except Nat Nat)(x:Ending)(w':World):Prop:=Below w.heap.size w w'/\match r with
 |.ok t=>x=.returned (.int .i64 (t:Int))
 |.error c=>x=kJ 0 c
theorem CK(a b:Nat)(w:World):Calls Tryz.prog 144 #[.int .i64 (a:Int),.int .i64 (b:Int)] w fun x w'=>x=.returned (.bool (Mg.fits a b))/\w'=w:=by
 unfold Mg.fits
 cases h1:(a==b)
 · have e1:((a:Int)==(b:Int))=false:=by simp at h1⊢;omega
   cases h2:(a==0)
   · have e2:((a:Int)==0)=false:=by simp at h2⊢;omega
     cases h3:(b==0)
     · have e3:((b:Int)==0)=false:=by simp at h3⊢;omega
       go_enter Tryz.func144,Tryz.ntmps144;go_wp2_with fail;go_ret;exact⟨rfl,rfl⟩
     have e3:((b:Int)==0)=true:=by simp at h3⊢;omega
     go_enter Tryz.func144,Tryz.ntmps144;go_wp2_with fail;go_ret;exact⟨rfl,rfl⟩
   have e2:((a:Int)==0)=true:=by simp at h2⊢;omega
   go_enter Tryz.func144,Tryz.ntmps144;go_wp2_with fail;go_ret;exact⟨rfl,rfl⟩
 have e1:((a:Int)==(b:Int))=true:=by simp at h1⊢;omega
 go_enter Tryz.func144,Tryz.ntmps144;go_wp2_with fail;go_ret;exact⟨rfl,rfl⟩
theorem pQ(t:Nat)(os:List Nat)(g cap n:Nat)(w:World)(hn:os.length=n)(hn2:n<=2)(hg:g<w.heap.size)(hc:∀(k:Nat) (hk:k<os.length),w.cell? ⟨g,k,none⟩=some (.int .i64 (os[k]:Int))):
   Calls Tryz.prog 253 #[.int .i64 (t:Int),.slice (some ⟨g,0,none⟩) n cap] w (EE w (Mg.dZ t os)):=by
 have HC:=hd hc;have HN:=hd hn;clear hc hn;go_enter Tryz.func253,Tryz.ntmps253;go_wp2_with fail;go_loopw [9] (fun i wr=>∃k:Nat,k<=n/\i=.int .i64 k/\Hid (∀(j:Nat) (hj:j<os.length),j<k->Mg.fits t os[j]=true)/\wr=w) (fun i _=>n-(intOf i).toNat)
 case atStart=>exact⟨0,by omega,rfl,fun j _ h=>absurd h (by omega),rfl⟩
 case round=>
  obtain⟨k,hk,rfl,HF,rfl⟩:=hrel;by_cases hlt:k<n
  · have hkl:k<os.length:=by rw[HN.out];exact hlt
    have c:=HC.out k hkl;have HKL:=hd hkl
    have HX:Hid (∀o,os[k]=o->Mg.fits t o=true->∀(j:Nat) (hj:j<os.length),j<k+1->Mg.fits t os[j]=true):=fun o h1 h2 j hj hjk=>by
     rcases Nat.lt_or_eq_of_le (Nat.le_of_lt_succ hjk)with h3|h3
     · exact HF.out j hj h3
     subst h3;subst h1;exact h2
    have HY:Hid (∀o,os[k]=o->Mg.fits t o=false->Mg.dZ t os=.error 10):=fun o h1 h2=>by
     unfold Mg.dZ;rw[if_neg];intro h3;subst h1;have:=List.all_eq_true.1 h3 _ (List.getElem_mem hkl);exact Bool.noConfusion (h2.symm.trans this)
    generalize os[k]=ok at*;clear hkl;go_wp2_with fail;refine(CK t ok _).mono ?_;rintro x w1 ⟨rfl,rfl⟩
    cases hfit:Mg.fits t ok
    · have HE:=hd (HY.out ok rfl hfit);go_wp2_with fail;refine(jX 10 _).mono ?_;rintro x w2 ⟨rfl,hb⟩;exact⟨rfl,hb,by rw[HE.out];rfl⟩
    have HF1:=hd (HX.out ok rfl hfit);go_wp2_with fail;refine(aN _ _).mono ?_;rintro x w2 ⟨rfl,rfl⟩;go_wp2_with fail;go_roundw
    case rel=>exact⟨k+1,by omega,by go_num,HF1,by first|rfl|trivial⟩
    case measure=>simp[intOf];omega
  have HE:Hid (Mg.dZ t os=.ok t):=by
   show _=_;unfold Mg.dZ;rw[if_pos]
   refine List.all_eq_true.2 fun x hx=> ?_
   obtain⟨j,hj,rfl⟩:=List.getElem_of_mem hx;exact HF.out j hj (by have:=HN.out;omega)
  go_wp2_with fail;go_ret;exact⟨Below.refl _ _,by rw[HE.out];rfl⟩
theorem Cj(w:World)(a:Nat):∀(k:Nat) (hk:k<[a].length),(w.alloc (.cells #[.int .i64 (a:Int)] 3)).cell? ⟨w.heap.size,k,none⟩=some (.int .i64 (([a][k]:Nat):Int)):=by
 intro k hk
 have:k=0:=by simp at hk;omega
 subst this;rw[(af.new w _ _).cell];rfl
theorem Jp(w:World)(a b:Nat):∀(k:Nat) (hk:k<[a,b].length),(w.alloc (.cells #[.int .i64 (a:Int),.int .i64 (b:Int)] 3)).cell? ⟨w.heap.size,k,none⟩=some (.int .i64 (([a,b][k]:Nat):Int)):=by
 intro k hk;rw[(af.new w _ _).cell];rcases(show k=0\/k=1 by simp at hk;omega)with rfl|rfl<;>rfl
theorem rR(k t:Nat)(w:World)(hk:19<=k/\k<=22):Calls Tryz.prog 195 #[.int .i64 (k:Int),.int .i64 (t:Int)] w (EE w (Mg.uP k t)):=by
 have HB:=hd (af.new w #[.int .i64 (t:Int)] 3)
 have HG:Hid (Below w.heap.size w (w.alloc (.cells #[.int .i64 (t:Int)] 3))):=by show Below _ _ _;go_grown
 have H1:=hd (fun t'=>pQ t' [t] w.heap.size 1 1 _ rfl (by omega) HB.out.lt (Cj w t));unfold Mg.uP;rcases(show k=19\/k=20\/(k=21\/k=22) by omega)with rfl|rfl|h
 · rw[if_pos rfl];have HA:=hd (H1.out 1);generalize Mg.dZ 1 [t]=r at*;go_enter Tryz.func195,Tryz.ntmps195;go_wp2_with fail;refine HA.out.mono ?_;rintro x w1 ⟨hb,hx⟩;have HB1:=hd (HG.out.trans (hb.mono HG.out.size));have HX:=hd hx;clear hb hx
   cases r with
   |error c=>
    obtain rfl:=HX.out;exact⟨rfl,HB1.out,rfl⟩
   |ok z=>
    obtain rfl:=HX.out;clear HX;go_wp2_with fail;go_ret;exact⟨HB1.out,rfl⟩
 · rw[if_neg (by decide),if_pos rfl];have HA:=hd (H1.out 3);generalize Mg.dZ 3 [t]=r at*;go_enter Tryz.func195,Tryz.ntmps195;go_wp2_with fail;refine HA.out.mono ?_;rintro x w1 ⟨hb,hx⟩;have HB1:=hd (HG.out.trans (hb.mono HG.out.size));have HX:=hd hx;clear hb hx
   cases r with
   |error c=>
    obtain rfl:=HX.out;exact⟨rfl,HB1.out,rfl⟩
   |ok z=>
    obtain rfl:=HX.out;clear HX;go_wp2_with fail;go_ret;exact⟨HB1.out,rfl⟩
 rw[if_neg (by omega),if_neg (by omega)];clear H1 HB HG;rcases h with rfl|rfl
 all_goals
  go_enter Tryz.func195,Tryz.ntmps195;go_wp2_with fail;go_ret;exact⟨Below.refl _ _,rfl⟩
theorem qi(k a b:Nat)(w:World)(hk:23<=k/\k<=36):Calls Tryz.prog 196 #[.int .i64 (k:Int),.int .i64 (a:Int),.int .i64 (b:Int)] w (EE w (Mg.typeB k a b)):=by
 have HB:=hd (af.new w #[.int .i64 (a:Int),.int .i64 (b:Int)] 3)
 have HG:Hid (Below w.heap.size w (w.alloc (.cells #[.int .i64 (a:Int),.int .i64 (b:Int)] 3))):=by show Below _ _ _;go_grown
 have H2:=hd (fun t'=>pQ t' [a,b] w.heap.size 2 2 _ rfl (by omega) HB.out.lt (Jp w a b));have HB':=hd (af.new w #[.int .i64 (b:Int)] 3)
 have HG':Hid (Below w.heap.size w (w.alloc (.cells #[.int .i64 (b:Int)] 3))):=by show Below _ _ _;go_grown
 have H1:=hd (pQ a [b] w.heap.size 1 1 _ rfl (by omega) HB'.out.lt (Cj w b));rcases(show(k=23\/k=24\/k=31\/k=32\/k=33\/k=34\/k=35\/k=36)\/(k=25\/k=26\/k=27\/k=28\/k=29\/k=30) by omega)with h|h
 · obtain⟨t,ht⟩:∃t,Mg.typeB k a b=Mg.dZ t [a,b]/\t=if k=23\/k=24 then 3 else if k=31 then 2 else 1:=by
    rcases h with rfl|rfl|rfl|rfl|rfl|rfl|rfl|rfl
    all_goals exact⟨_,rfl,rfl⟩
   rw[ht.1];have hte:=ht.2;clear ht H1 HB' HG';have HA:=hd (H2.out t);clear H2;generalize Mg.dZ t [a,b]=r at*;rcases h with rfl|rfl|rfl|rfl|rfl|rfl|rfl|rfl
   all_goals
    simp at hte;subst hte;go_enter Tryz.func196,Tryz.ntmps196;go_wp2_with fail;refine HA.out.mono ?_;rintro x w1 ⟨hb,hx⟩;have HB1:=hd (HG.out.trans (hb.mono HG.out.size));have HX:=hd hx;clear hb hx
    cases r with
    |error c=>
     obtain rfl:=HX.out;exact⟨rfl,HB1.out,rfl⟩
    |ok z=>
     obtain rfl:=HX.out;clear HX;go_wp2_with fail;go_ret;exact⟨HB1.out,rfl⟩
 unfold Mg.typeB;rw[if_neg (by omega),if_neg (by omega),if_neg (by omega)];clear H2 HB HG;generalize Mg.dZ a [b]=r at*;rcases h with rfl|rfl|rfl|rfl|rfl|rfl
 all_goals
  go_enter Tryz.func196,Tryz.ntmps196;go_wp2_with fail;refine H1.out.mono ?_;rintro x w1 ⟨hb,hx⟩;have HB1:=hd (HG'.out.trans (hb.mono HG'.out.size));have HX:=hd hx;clear hb hx
  cases r with
  |error c=>
   obtain rfl:=HX.out;exact⟨rfl,HB1.out,rfl⟩
  |ok z=>
   obtain rfl:=HX.out;clear HX;go_wp2_with fail;go_ret;exact⟨HB1.out,rfl⟩
end Mn
end Go.Proofs.YthhhfcdakfbpkaaGreatDoor
