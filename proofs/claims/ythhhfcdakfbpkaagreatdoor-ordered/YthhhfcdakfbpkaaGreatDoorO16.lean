/- Parts of the proof -/
import Derived.Test.YthhhfcdakfbpkaaGreatDoorO15
import Derived.Test.YthhhfcdakfbpkaaGreatDoorRows
import Derived.Conc.MuLib
import Derived.KernelRfl
import Derived.Test.YthhhfcdakfbpkaaGreatDoorO2
import Derived.Conc.MuLone
import Derived.Test.YthhhfcdakfbpkaaGreatDoorO14
import Derived.Deep.RegionHeld
import Derived.OrdersIn
import Derived.RangeFuncCalls
import Derived.Test.YthhhfcdakfbpkaaGreatDoorO1
namespace Go.Proofs.YthhhfcdakfbpkaaGreatDoor
set_option linter.unusedSimpArgs false
set_option linter.unusedVariables false
set_option maxRecDepth 100000
set_option maxHeartbeats 16000000
open Go.RowKit
variable {w w':World}{B a b c ce ge p:Nat}{v:Value}{l nx:Int}{F R:List Nat}
theorem vJ:∀l:List Px.E,l.any dY=decide (40<Px.deepest l)
 |[]=>rfl
 |e::l=>by
  rw[List.any_cons,vJ l];show(decide (40<e.depth)||decide (40<Px.deepest l))=decide (40<max e.depth (Px.deepest l));generalize e.depth=a;generalize Px.deepest l=d;rw[Bool.eq_iff_iff];simp only[Bool.or_eq_true,decide_eq_true_eq];rcases Nat.le_total a d with h|h
  · rw[Nat.max_eq_right h];omega
  rw[Nat.max_eq_left h];omega
def Sq(base:Nat)(x:Ending)(w':World):Except (Nat×Nat) Px.St->Prop
 |.error (p,c)=>x=kJ p c
 |.ok st=>∃v B,x=.returned v/\base<=B/\Kh B st v w'
def P7(w:World)(s:Lx.Bs)(x:Ending)(w':World):Prop:=Below w.heap.size w w'/\∃r,Px.ParseR s r/\Sq w.heap.size x w' r
theorem Cx.end_{lv:Value}{ts:List Lx.Tok}{sz:Nat}{q:List Lx.Tok}{dp:Bool}(h:Cx w B lv ts sz q dp):∃(k:Nat) (ao:Option Addr) (cap:Nat),lv=.slice ao ts.length cap/\k<=2000/\ts.length<=2000/\(q=[]↔k=ts.length)/\w.cell? ⟨B,0,none⟩=some (.slice ao ts.length cap)/\w.cell? ⟨B,1,none⟩=some (.int .i64 (k:Int))/\w.cell? ⟨B,3,none⟩=some (.bool dp):=by
 obtain⟨k,rfl,h⟩:=h;obtain⟨ao,cap,rfl,_⟩:=h.tok;have:=h.le;have:=h.len;refine⟨k,ao,cap,rfl,by omega,h.len,?_,h.cells.1,h.cells.2.1,h.cells.2.2.2⟩
 constructor
 · intro e;have:=congrArg List.length e;simp at this;omega
 intro e;exact List.drop_eq_nil_of_le (by omega)
theorem rP(s:ByteArray)(w:World)(he:jr w)(hm:s.size<=maxLen):Calls Tryz.prog 19 #[.string s] w (P7 w s.data.toList):=by
 have HT:=hd (zo s w he.env hm);have HE:=hd he;have hroom:=he.env.room;have HSL:=hd (Lib.size_eq s).symm;unfold maxLen at hm;clear he;go_enter Tryz.func19,Tryz.ntmps19;go_wp2_with fail;refine HT.out.mono ?_;rintro x w1 ⟨hb1,ht⟩;rcases hl:Lx.lex s.data.toList with⟨p,c⟩|ts
 · rw[hl]at ht;simp only at ht;subst ht;exact⟨rfl,hb1,.error (p,c),by unfold Px.ParseR;rw[hl],rfl⟩
 rw[hl]at ht;obtain⟨v,rfl,hown⟩:=ht;obtain⟨hl1,hl2,hl3⟩:=Lx.Nl hl;have hsg:=Px.ES hl;have hs1:=hb1.size
 have hsz:s.size<=2000:=by rw[<-HSL.out];exact hl1
 obtain⟨ao,n,cp,rfl⟩:=EY hown
 have HX0:Hid (Cx (w1.alloc (.cells #[.slice ao n cp,.int .i64 0,.int .i64 (s.size:Int),.bool false] 79)) w1.heap.size (.slice ao n cp) ts s.size ts false):=by
  refine⟨0,rfl,af.new _ _ _,⟨_,Nq hown _⟩,?_,?_,by omega,hsz,by omega,(HE.out.below hb1).below ((Below.refl _ _).alloc (nlr _) _),by omega⟩
  · intro e;have:=(hown.lt _ e).2;omega
  intro t ht;obtain⟨h1,h2,h3⟩:=hl3 t ht;exact⟨h1,hsg t ht,by omega,by omega⟩
 have HLX:=hd hl;have HB1:=hd hb1;clear hown hb1 hl3 hsg hl HE HT;go_wp2_with fail;refine(DF w1.heap.size (.slice ao n cp) ts s.size false _ ts HX0.out).mono ?_;rintro x w2 ho;obtain⟨hg,⟨p,c,hr,rfl⟩|⟨st,q,v,hr,rfl,hv,hx⟩⟩:=ho.cases
 · have hbel:Below w.heap.size w w2:=by
    refine(HB1.out.alloc hs1 (.cells #[.slice ao n cp,.int .i64 0,.int .i64 (s.size:Int),.bool false] 79)).grown hg (by simp;omega) (fun b hb=> ?_);simp only[Option.some.injEq]at hb;omega
   refine⟨rfl,hbel,.error (p,c),?_,rfl⟩;unfold Px.ParseR;rw[HLX.out];refine⟨_,(by rw[HSL.out];exact hr),rfl⟩
 have hbel:Below w.heap.size w w2:=by
  refine(HB1.out.alloc hs1 (.cells #[.slice ao n cp,.int .i64 0,.int .i64 (s.size:Int),.bool false] 79)).grown hg (by simp;omega) (fun b hb=> ?_);simp only[Option.some.injEq]at hb;omega
 have HBF:=hd hbel;have HR:=hd hr;have HV:=hd hv;have HX2:=hd hx;obtain⟨k,ao',cap',hlv,hk1,hk2,hend,c0,c1,c3⟩:=hx.end_
 obtain⟨t,y,rfl⟩:∃t y,v=.iface t y:=by
  cases st with
  |create t c=>obtain⟨u,h1,h2⟩:=hv;exact⟨_,_,h1⟩
  |drop t=>exact⟨_,_,hv⟩
  |insert t r=>obtain⟨u,h1,h2⟩:=hv;exact⟨_,_,h1⟩
  |delete t o=>exact⟨_,_,hv⟩
  |update t s o=>obtain⟨u,h1,h2⟩:=hv;exact⟨_,_,h1⟩
  |select i t o r l=>obtain⟨u,u',h1,h2,h3⟩:=hv;exact⟨_,_,h1⟩
 have HEND:=hd hend;clear hr hv hx hg ho hbel HX0 hend hlv;by_cases hq:q=[]
 · have hkt:=HEND.out.1 hq
   have hkb:((k:Int)==(ts.length:Int))=true:=by simp[hkt]
   go_wp2_with fail;refine(ny _ _).mono ?_;rintro x w3 ⟨rfl,rfl⟩
   cases hdp:aW st with
   |true=>
    simp only[hdp,Bool.true_or]at c3;go_wp2_with fail;refine⟨rfl,HBF.out,.error (0,6),?_,rfl⟩;unfold Px.ParseR;rw[HLX.out];refine⟨_,(by rw[HSL.out];exact HR.out),?_⟩;simp only[if_pos hq];rw[if_pos (by have:=vJ st.exprs;rw[show st.exprs.any dY=true from hdp]at this;exact of_decide_eq_true this.symm)]
   |false=>
    simp only[hdp,Bool.false_or]at c3;go_wp2_with fail;go_ret;refine⟨HBF.out,.ok st,?_,_,w1.heap.size,rfl,hs1,HV.out⟩;unfold Px.ParseR;rw[HLX.out];refine⟨_,(by rw[HSL.out];exact HR.out),?_⟩;simp only[if_pos hq];rw[if_neg (by have:=vJ st.exprs;rw[show st.exprs.any dY=false from hdp]at this;exact of_decide_eq_false this.symm)]
 have hkt:¬k=ts.length:=fun e=>hq (HEND.out.2 e)
 have hkb:((k:Int)==(ts.length:Int))=false:=by rw[beq_eq_false_iff_ne];omega
 go_wp2_with fail;refine(qg w2 w1.heap.size (.slice ao n cp) ts s.size q _ HX2.out).mono ?_;rintro x w3 ⟨rfl,hb3⟩;refine⟨rfl,HBF.out.trans (hb3.mono HBF.out.size),.error (Px.plc s.size q,4),?_,rfl⟩;unfold Px.ParseR;rw[HLX.out];refine⟨_,(by rw[HSL.out];exact HR.out),?_⟩;simp only[if_neg hq];rw[HSL.out]
abbrev Ns:Go.Conc.Locks.MuLink:={lock:=20,unlock:=21,ilock:=30,iunlock:=31,lockSlow:=68,unlockSlow:=71,disable:=64,enable:=66,acquire:=67,relMerge:=69,cas32:=65,add32:=70,tMutex:=60,tIMutex:=58,tPMutex:=82,tPIMutex:=157,tPI32:=159,tUP:=161,tNoCopy:=55,tU32:=56}
theorem IK:Go.Conc.Locks.MuLib Tryz.prog Ns:=
 ⟨Tryz.func20,Tryz.func21,Tryz.func30,Tryz.func31,Tryz.func64,Tryz.func66,Tryz.func67,Tryz.func69,Tryz.func65,Tryz.func70,Tryz.underlying58,Tryz.runUnderlying58,Tryz.sizeOf58,Tryz.isAgg58,Tryz.zeroValue58,Tryz.underlying60,Tryz.runUnderlying60,Tryz.sizeOf60,Tryz.isAgg60,Tryz.zeroValue60,Tryz.underlying82,Tryz.runUnderlying82,Tryz.sizeOf82,Tryz.isAgg82,Tryz.zeroValue82,Tryz.underlying157,Tryz.runUnderlying157,Tryz.sizeOf157,Tryz.isAgg157,Tryz.zeroValue157,Tryz.underlying159,Tryz.runUnderlying159,Tryz.sizeOf159,Tryz.isAgg159,Tryz.zeroValue159,Tryz.underlying161,Tryz.runUnderlying161,Tryz.sizeOf161,Tryz.isAgg161,Tryz.zeroValue161,Tryz.underlying55,Tryz.runUnderlying55,Tryz.sizeOf55,Tryz.isAgg55,Tryz.zeroValue55,Tryz.underlying21,Tryz.runUnderlying21,Tryz.sizeOf21,Tryz.isAgg21,Tryz.zeroValue21,(by kernel_rfl)⟩
section
namespace Px
open Lx (Bs Tok)
def RL(a b:Nd):Bool:=decide (a.kind=b.kind)&&decide (a.text=b.text)&&decide (a.num=b.num)&&decide (a.kids=b.kids)
def ndsB:List Nd->List Nd->Bool
 |[],[]=>true
 |a::x,b::y=>RL a b&&ndsB x y
 |_,_=>false
theorem OA{a b:Nd}(h:RL a b=true):a=b:=by
 obtain⟨k,t,n,c⟩:=a;obtain⟨k',t',n',c'⟩:=b;simp only[RL,Bool.and_eq_true,decide_eq_true_eq]at h;obtain⟨⟨⟨rfl,rfl⟩,rfl⟩,rfl⟩:=h
 rfl
theorem Fs:∀{a b:List Nd},ndsB a b=true->a=b
 |[],[],_=>rfl
 |a::x,b::y,h=>by
  simp only[ndsB,Bool.and_eq_true]at h;rw[OA h.1,Fs h.2]
def parseB(n:Nat)(s:Bs)(a:List Nd):Bool:=match Lx.lex s with
 |.error _=>false
 |.ok ts=>match whole s.length n ts with
  |some (.ok (b,_))=>ndsB b a&&(match deep (b.length+1) b with
   |some d=>decide (d<=40)
   |none=>false)
  |_=>false
theorem CZ{n:Nat}{s:Bs}{a:List Nd}(h:parseB n s a=true):Parse s (.ok a):=by
 unfold parseB at h;unfold Parse
 split at h
 · simp at h
 rename_i ts he;rw[he]
 split at h
 · rename_i b q hw;rw[Bool.and_eq_true]at h;obtain⟨h1,h2⟩:=h;obtain rfl:=Fs h1;refine⟨n,.ok (b,q),hw,?_⟩;dsimp only
   split at h2
   · rename_i d hd;refine⟨d,hd,?_⟩;rw[if_neg (by simpa using h2)]
   simp at h2
 simp at h
def Reads(s:Bs)(st:St):Prop:=∀r,ParseR s r->r=.ok st
theorem Reads.calc{n:Nat}{s:Bs}{st:St}(h:parseB n s st.nodes=true)(hs:rS st.nodes=some st):Reads s st:=by
 intro r h';have e:=Parse.one (CZ h) (BJ h')
 match r,h',e with
 |.error x,_,e=>cases e
 |.ok st',h',e=>
  have e2:st.nodes=st'.nodes:=by injection e
  obtain⟨f',g',d'⟩:=GQ h';have e4:=BC st' f' g' d';rw[<-e2,hs]at e4;injection e4 with e4;rw[e4]
def Ov:Bs:=[67,82,69,65,84,69,32,84,65,66,76,69,32,116,32,40,97,32,73,78,84,69,71,69,82,44,32,98,32,84,69,88,84,44,32,99,32,66,79,79,76,69,65,78,41]
def cO:List (Bs×Nat):=[([97],1),([98],2),([99],3)]
def QU:St:=.create [116] cO
theorem F3:Reads Ov QU:=Reads.calc (n:=200) (by decide+kernel) rfl
def nu:Fin 7->Bs
 |0=>[45,51]|1=>[45,50]|2=>[45,49]|3=>[48]|4=>[49]|5=>[50]|6=>[51]
def aT(z:Fin 7)(n:Bool):Bs:=if n=true then aZ else nu z
def bT(z:Fin 7)(n:Bool):Bs:=if n=true then aZ else 39::(nu z++[39])
def cT:Fin 3->Bs
 |0=>dH|1=>fK|2=>aZ
def IG:Bs:=[73,78,83,69,82,84,32,73,78,84,79,32,116,32,86,65,76,85,69,83,32,40]
def eQ(z:Fin 7)(na nb:Bool)(c:Fin 3):Bs:=aT z na++([44,32]++(bT z nb++([44,32]++cT c)))
def L6(z:Fin 7)(na nb:Bool)(c:Fin 3):Bs:=IG++(eQ z na nb c++[41])
def aE(z:Fin 7)(n:Bool):E:=if n=true then .null else .num ((z.val:Int)-3)
def bE(z:Fin 7)(n:Bool):E:=if n=true then .null else .str (nu z)
def cE:Fin 3->E
 |0=> .bool false|1=> .bool true|2=> .null
def PQ(z:Fin 7)(na nb:Bool)(c:Fin 3):St:=.insert [116] [[aE z na,bE z nb,cE c]]
theorem H6:∀(z:Fin 7) (na nb:Bool) (c:Fin 3),parseB 60 (L6 z na nb c) (PQ z na nb c).nodes=true:=by decide+kernel
theorem Gy(z:Fin 7)(na nb:Bool)(c:Fin 3):Reads (L6 z na nb c) (PQ z na nb c):=by
 refine Reads.calc (H6 z na nb c) ?_
 match z,c with
 |0,0=>cases na<;>cases nb<;>rfl
 |0,1=>cases na<;>cases nb<;>rfl
 |0,2=>cases na<;>cases nb<;>rfl
 |1,0=>cases na<;>cases nb<;>rfl
 |1,1=>cases na<;>cases nb<;>rfl
 |1,2=>cases na<;>cases nb<;>rfl
 |2,0=>cases na<;>cases nb<;>rfl
 |2,1=>cases na<;>cases nb<;>rfl
 |2,2=>cases na<;>cases nb<;>rfl
 |3,0=>cases na<;>cases nb<;>rfl
 |3,1=>cases na<;>cases nb<;>rfl
 |3,2=>cases na<;>cases nb<;>rfl
 |4,0=>cases na<;>cases nb<;>rfl
 |4,1=>cases na<;>cases nb<;>rfl
 |4,2=>cases na<;>cases nb<;>rfl
 |5,0=>cases na<;>cases nb<;>rfl
 |5,1=>cases na<;>cases nb<;>rfl
 |5,2=>cases na<;>cases nb<;>rfl
 |6,0=>cases na<;>cases nb<;>rfl
 |6,1=>cases na<;>cases nb<;>rfl
 |6,2=>cases na<;>cases nb<;>rfl
def nA:E:=.nm [97]
def nB:E:=.nm [98]
end Px
end
section
namespace Tx
open Tb Tw
theorem FX(b1:Nat)(y p c:Int)(older:List PanicEntry)(w:World)(h1:af w b1 #[.int .i64 y] 30):
   CallsD Tryz.prog 17 #[.pointer (some ⟨b1,0,none⟩)] (.panicking ({v:=.iface 74 (.agg #[.int .i64 p,.int .i64 c]),recovered:=false}::older)) w fun e u' w'=>
    e=.returned (.tuple #[])/\u'=.panicking ({v:=.iface 74 (.agg #[.int .i64 p,.int .i64 c]),recovered:=true}::older)/\∃w1,Below w.heap.size w w1/\w'=w1.setCell ⟨b1,0,none⟩ (.int .i64 c):=by
 refine callsD_of_wpS Tryz.func17 rfl fun c₀ cs hu=> ?_
 apply wpS_seq;apply wpS_region;simp[wpOpsS,go_sem,recoverD,hu,Tryz.ntmps17,Exit.thenS];apply wpS_seq;apply wpS_region;simp[wpOpsS,go_sem,recoverD,hu,Tryz.ntmps17,Exit.thenS];refine wpS_cond (t:=true) (by simp[Act.eval,Array.replicate]) ?_;simp only[if_true];refine wpS_of_wp ?_;simp only[Array.replicate,List.replicate,List.toArray_replicate];go_wp2_with fail;refine(Hr p c w).mono ?_;rintro e w1 ⟨rfl,hb1⟩;have k1:=h1.below hb1 h1.lt;have c1:w1.cell? ⟨b1,0,none⟩=some (.int .i64 y):=k1.cell 0;have f1:=k1.free 0;go_wp2;refine⟨rfl,_,rfl,.tuple #[],by simp[results,Tryz.results17],rfl,rfl,w1,hb1,rfl⟩
theorem JY(q:Addr)(w:World):
   CallsD Tryz.prog 17 #[.pointer (some q)] .returning w fun e u' w'=>e=.returned (.tuple #[])/\u'=.returning/\w'=w:=by
 refine callsD_of_wpS Tryz.func17 rfl fun c₀ cs hu=> ?_
 apply wpS_seq;apply wpS_region;simp[wpOpsS,go_sem,recoverD,hu,Tryz.ntmps17,Exit.thenS];apply wpS_seq;apply wpS_region;simp[wpOpsS,go_sem,recoverD,hu,Tryz.ntmps17,Exit.thenS];refine wpS_cond (t:=false) (by simp[Act.eval,Array.replicate]) ?_;simp only[Bool.false_eq_true,if_false];refine wpS_of_wp (wp_skip ?_)
 cases c₀
 simp_all [bodyPostS,results,Tryz.results17]
theorem Apart.refl(w:World):Apart a c w w:=⟨rfl,rfl,rfl,nlr _,fun _ _ _=>rfl⟩
theorem BX{x i:Nat}(h:a<=x/\x<c):Apart a c w (w.setCell ⟨x,i,none⟩ v):=
 ⟨rfl,rfl,rfl,by simp,fun k hk _=>Below.heap_setCell _ _ _ _ (by show k≠x;omega)⟩
def SH(x:Ending):Prop:=(∃(a:Int) (ao:Option Addr) (k cp:Nat) (n:Int),x=.returned (.agg #[.int .i64 a,.slice ao k cp,.int .i64 n]))\/∃c:Nat,x=kJ 0 c
def Told(x0 x:Ending):Prop:=(∃v,x0=.returned v/\x=.returned (.tuple #[v,.int .i64 0]))\/∃c:Nat,x0=kJ 0 c/\x=.returned (.tuple #[.agg #[.int .i64 0,.slice none 0 0,.int .i64 0],.int .i64 (c:Int)])
theorem Jq{st:Px.St}(hst:Kh B st v w):∃t y,v=.iface t y:=by
 cases st with
 |create t c=>obtain⟨u,h1,h2⟩:=hst;exact⟨_,_,h1⟩
 |drop t=>exact⟨_,_,hst⟩
 |insert t r=>obtain⟨u,h1,h2⟩:=hst;exact⟨_,_,h1⟩
 |delete t o=>exact⟨_,_,hst⟩
 |update t s o=>obtain⟨u,h1,h2⟩:=hst;exact⟨_,_,h1⟩
 |select i t o r l=>obtain⟨u,u',h1,h2,h3⟩:=hst;exact⟨_,_,h1⟩
theorem nL(st:Px.St)(s:ByteArray)(hp:Px.Reads s.data.toList st)(hm:s.size<=maxLen)(b:Nat)(cs:Array Value)(w:World)(he:jr w)(hB:af w b cs 70)(h0:cs[0]? =some (.int .i32 0))
   (R:World->Value->Ending->World->Prop)
   (hD:∀wp v B,Below w.heap.size w wp->w.heap.size+2<=B->Kh B st v wp->Calls Tryz.prog 22 #[.pointer (some ⟨b,2,none⟩),v] (wp.setCell ⟨b,0,none⟩ (.int .i32 1)) (R wp v))
   (hR:∀wp v x w2,Below w.heap.size w wp->R wp v x w2->SH x/\(∀k,w.heap.size<=k->k<wp.heap.size->w2.heap[k]? =wp.heap[k]?)/\(∃cs',af w2 b cs' 70/\cs'[0]? =some (.int .i32 1))/\wp.heap.size<=w2.heap.size):
   Calls Tryz.prog 9 #[.pointer (some ⟨b,0,none⟩),.string s] w fun x w'=>∃wp v x0 w2 W3,Below w.heap.size w wp/\w.heap.size+2<=wp.heap.size/\R wp v x0 w2/\Told x0 x/\Apart w.heap.size (w.heap.size+2) w2 W3/\Apart w.heap.size (w.heap.size+2) (W3.setCell ⟨b,0,none⟩ (.int .i32 0)) w':=by
 have hmf:∀(fn:Fn) (first cap:Array Value) (w:World),(Instr.makeFunc fn first cap).run Tryz.prog w=.ok (.func fn first cap) w:=fun _ _ _ _=>rfl
 have HD:=hd hD;have HR:=hd hR;have HP:=hd hp;have HB:=hd hB;have H0:=hd h0;have hbl:=hB.lt;have hb0:Below w.heap.size w ((w.alloc (.cells #[.int .i64 0,.slice none 0 0,.int .i64 0] 29)).alloc (.cells #[.int .i64 0] 30)):=((Below.refl _ _).alloc (nlr _) _).alloc (by simp) _;have HT:=hd (rP s ((w.alloc (.cells #[.int .i64 0,.slice none 0 0,.int .i64 0] 29)).alloc (.cells #[.int .i64 0] 30)) (he.below hb0) hm);have K0:af ((w.alloc (.cells #[.int .i64 0,.slice none 0 0,.int .i64 0] 29)).alloc (.cells #[.int .i64 0] 30)) w.heap.size #[.int .i64 0,.slice none 0 0,.int .i64 0] 29:=(af.new w _ _).alloc _;have K1:af ((w.alloc (.cells #[.int .i64 0,.slice none 0 0,.int .i64 0] 29)).alloc (.cells #[.int .i64 0] 30)) (w.heap.size+1) #[.int .i64 0] 30:=(by have h:=af.new (w.alloc (.cells #[.int .i64 0,.slice none 0 0,.int .i64 0] 29)) #[.int .i64 0] 30;rwa [World.size_alloc]at h);clear hD hR hp hB h0 he
 go_enter_defers Tryz.func9,Tryz.ntmps9
 go_wp2_with fail;refine HT.out.mono ?_;rintro e wp ⟨hb1,r,hr,ht⟩;obtain rfl:=HP.out _ hr;obtain⟨v,B,rfl,hBb,hst⟩:=ht;have HK0:=hd (K0.below hb1 (by simp;omega));have HK1:=hd (K1.below hb1 (by simp));have HB1:Hid (Below w.heap.size w wp):=hb0.trans (hb1.mono (by simp;omega));have HBS:=hd (HB.out.below HB1.out HB.out.lt)
 have HBb:Hid (w.heap.size+2<=B):=by show _<=_;simpa using hBb
 obtain⟨tv,xv,rfl⟩:=Jq hst;have HST:=hd hst;have hw2:w.heap.size+1<wp.heap.size:=HK1.out.lt;have hbp:=HBS.out.lt;clear hb1 K0 K1 hb0 HT hr hst hBb;go_wp2_with fail;refine(Go.MuLone.lock_free IK ⟨b,0,none⟩ wp ((HBS.out.cell 0).trans H0.out) (HBS.out.free 0)).mono ?_;rintro x w1 ⟨rfl,rfl⟩;go_wp2_with fail;refine(HD.out wp (.iface tv xv) B HB1.out HBb.out HST.out).mono ?_;rintro x0 w2 hRx;obtain⟨hx,hk,⟨cs',hcb,hc0⟩,hs2⟩:=HR.out wp _ x0 w2 HB1.out hRx;have HRX:=hd hRx;have HA:=hd (il HK0.out hs2 (hk _ (nlr _) (by omega)));have HE:=hd (il HK1.out hs2 (hk _ (by omega) (by omega)));clear hRx hk HK0 HK1 HR HD HST;rcases hx with⟨a,ao,k,cp,n,rfl⟩|⟨c,rfl⟩
 · have a0:=HA.out.cell 0;have a1:=HA.out.cell 1;have a2:=HA.out.cell 2;have e0:=HE.out.cell 0;simp at a0 a1 a2 e0;have fa0:=HA.out.free 0;have fa1:=HA.out.free 1;have fa2:=HA.out.free 2;have fe0:=HE.out.free 0
   have hne:w.heap.size≠w.heap.size+1:=by omega
   have HCB:=hd hcb;have HC0:=hd hc0;have k0:=((((HA.out.set 0 (.int .i64 a)).set 1 (.slice ao k cp)).set 2 (.int .i64 n)).far ⟨w.heap.size+1,0,none⟩ (.int .i64 0) (by simp));have k1:=((((HE.out.far ⟨w.heap.size,0,none⟩ (.int .i64 a) (by simp)).far ⟨w.heap.size,1,none⟩ (.slice ao k cp) (by simp)).far ⟨w.heap.size,2,none⟩ (.int .i64 n) (by simp)).set 0 (.int .i64 0));have kb:=((((hcb.far ⟨w.heap.size,0,none⟩ (.int .i64 a) (by simp;omega)).far ⟨w.heap.size,1,none⟩ (.slice ao k cp) (by simp;omega)).far ⟨w.heap.size,2,none⟩ (.int .i64 n) (by simp;omega)).far ⟨w.heap.size+1,0,none⟩ (.int .i64 0) (by simp;omega));have HL0:=hd k0;have HL1:=hd k1;have HLB:=hd kb;clear k0 k1 kb hcb hc0;go_wp2;refine leaves_cons (f:=21) (args:=#[.pointer (some ⟨b,0,none⟩)]) (by simp) (by simp[go_sem]) ?_;refine(Go.MuLone.unlock_deferred IK ⟨b,0,none⟩ _ _ ((HLB.out.cell 0).trans HC0.out) (HLB.out.free 0)).mono ?_;rintro e u' w'' ⟨rfl,rfl,rfl⟩;refine leaves_cons (f:=17) (args:=#[.pointer (some ⟨w.heap.size+1,0,none⟩)]) (by simp[settle]) (by simp[go_sem]) ?_;refine(JY ⟨w.heap.size+1,0,none⟩ _).mono ?_;rintro e u' w'' ⟨rfl,rfl,rfl⟩;have d0:=(HL0.out.far ⟨b,0,none⟩ (.int .i32 0) (by show b≠_;omega)).cell 0;have d1:=(HL0.out.far ⟨b,0,none⟩ (.int .i32 0) (by show b≠_;omega)).cell 1;have d2:=(HL0.out.far ⟨b,0,none⟩ (.int .i32 0) (by show b≠_;omega)).cell 2;have d3:=(HL1.out.far ⟨b,0,none⟩ (.int .i32 0) (by show b≠_;omega)).cell 0;simp at d0 d1 d2 d3;simp[Leaves,settle,results,Tryz.results9,go_sem,d0,d1,d2,d3];exact⟨wp,HB1.out,by omega,_,_,w2,HRX.out,.inl ⟨_,rfl,rfl⟩,_,((BX (by omega)).trans (BX (by omega))).trans ((BX (by omega)).trans (BX (by omega))),Apart.refl _⟩
 refine leaves_cons (f:=21) (args:=#[.pointer (some ⟨b,0,none⟩)]) (by simp) (by simp[go_sem]) ?_;refine(Go.MuLone.unlock_deferred IK ⟨b,0,none⟩ _ w2 ((hcb.cell 0).trans hc0) (hcb.free 0)).mono ?_;rintro e u' w'' ⟨rfl,rfl,rfl⟩;refine leaves_cons (f:=17) (args:=#[.pointer (some ⟨w.heap.size+1,0,none⟩)]) (by simp[settle]) (by simp[go_sem]) ?_;refine(FX (w.heap.size+1) 0 0 (c:Int) [] _ (HE.out.far ⟨b,0,none⟩ _ (by show b≠_;omega))).mono ?_;rintro e u' w'' ⟨rfl,rfl,w3,hb3,rfl⟩;have k0:=(((HA.out.far ⟨b,0,none⟩ (.int .i32 0) (by show b≠_;omega)).below hb3 (by simpa using HA.out.lt)).far ⟨w.heap.size+1,0,none⟩ (.int .i64 (c:Int)) (by simp));have k1:=(((HE.out.far ⟨b,0,none⟩ (.int .i32 0) (by show b≠_;omega)).below hb3 (by simpa using HE.out.lt)).set 0 (.int .i64 (c:Int)));have d0:=k0.cell 0;have d1:=k0.cell 1;have d2:=k0.cell 2;have d3:=k1.cell 0;simp at d0 d1 d2 d3;simp[Leaves,settle,results,Tryz.results9,go_sem,d0,d1,d2,d3];exact⟨wp,HB1.out,by omega,_,_,w2,HRX.out,.inr ⟨c,rfl,rfl⟩,w2,Apart.refl _,(lG hb3).trans (BX (by omega))⟩
end Tx
end
section
namespace Tx
open Tb Tw Bt
structure kK(w:World)(b:Nat)(l:Int)(p ge ce:Nat)(tn:Lx.Bs)(cs:Mg.ax)(M:aX)(nx:Int)(F R:List Nat):Prop where
 blk:af w b (Ec l (.slice (some ⟨ge,0,none⟩) 1 ce) 1) 70
 hge:ge<w.heap.size
 e0:w.cell? ⟨ge,0,none⟩=some (.string ⟨tn.toArray⟩)
 e1:w.cell? ⟨ge,1,none⟩=some (.pointer (some ⟨p,0,none⟩))
 tab:∃sv ve vk d L,TabAt w p cs M nx F R sv ve vk d L
 ok:pM cs M nx
 hb:b∉p::(F++R)
 hgb:ge≠b
 hgt:ge∉p::(F++R)
theorem kK.lt{tn:Lx.Bs}{cs:Mg.ax}{M:aX}(h:kK w b l p ge ce tn cs M nx F R):∀g∈b::ge::p::(F++R),g<w.heap.size:=by
 intro g hg;obtain⟨sv,ve,vk,d,L,ht⟩:=h.tab;simp only[List.mem_cons]at hg;rcases hg with rfl|rfl|hg
 · exact h.blk.lt
 · exact h.hge
 exact ht.lt g (by simpa using hg)
theorem kK.keep{tn:Lx.Bs}{cs:Mg.ax}{M:aX}(h:kK w b l p ge ce tn cs M nx F R)(hs:w.heap.size<=w'.heap.size)(hk:∀g∈b::ge::p::(F++R),w'.heap[g]? =w.heap[g]?):kK w' b l p ge ce tn cs M nx F R:=by
 obtain⟨sv,ve,vk,d,L,ht⟩:=h.tab;have hge:=hk ge (by simp)
 exact⟨il h.blk hs (hk b (by simp)),nlA h.hge hs,(World.cell?_of_block (w:=w) (a:=⟨ge,0,none⟩) hge).trans h.e0,(World.cell?_of_block (w:=w) (a:=⟨ge,1,none⟩) hge).trans h.e1,
   ⟨sv,ve,vk,d,L,ht.keep hs fun g hg=>hk g (by simp only[List.mem_cons]at hg⊢;exact .inr (.inr hg))⟩,h.ok,h.hb,h.hgb,h.hgt⟩
theorem kK.below{tn:Lx.Bs}{cs:Mg.ax}{M:aX}(h:kK w b l p ge ce tn cs M nx F R)(hb:Below w.heap.size w w'):kK w' b l p ge ce tn cs M nx F R:=
 h.keep hb.size fun g hg=>hb.block g (h.lt g hg)
theorem kK.apart{tn:Lx.Bs}{cs:Mg.ax}{M:aX}(h:kK w b l p ge ce tn cs M nx F R)(ha:Apart a c w w')(hl:∀g∈b::ge::p::(F++R),g<a\/c<=g):kK w' b l p ge ce tn cs M nx F R:=
 h.keep ha.size fun g hg=>ha.block g (hl g hg) (h.lt g hg)
theorem kK.lock{tn:Lx.Bs}{cs:Mg.ax}{M:aX}(h:kK w b l p ge ce tn cs M nx F R)(l':Int):kK (w.setCell ⟨b,0,none⟩ (.int .i32 l')) b l' p ge ce tn cs M nx F R:=by
 obtain⟨sv,ve,vk,d,L,ht⟩:=h.tab
 have hk:∀g,g≠b->(w.setCell ⟨b,0,none⟩ (.int .i32 l')).heap[g]? =w.heap[g]?:=fun g hg=>Below.heap_setCell _ _ _ _ hg
 have hge:=hk ge h.hgb
 refine⟨by simpa[Ec]using h.blk.set 0 (.int .i32 l'),by simpa using h.hge,(World.cell?_of_block (w:=w) (a:=⟨ge,0,none⟩) hge).trans h.e0,(World.cell?_of_block (w:=w) (a:=⟨ge,1,none⟩) hge).trans h.e1,
   ⟨sv,ve,vk,d,L,ht.keep (by simp) fun g hg=>hk g fun e=>h.hb (e▸hg)⟩,h.ok,h.hb,h.hgb,h.hgt⟩
theorem kK.more{tn:Lx.Bs}{cs:Mg.ax}{M M':aX}{nx':Int}(h:kK w b l p ge ce tn cs M nx F R)(hO:Kk w w' p cs M' nx' F R)(hok:pM cs M' nx'):
   aG (p::F) w w'/\∃F' R',kK w' b l p ge ce tn cs M' nx' F' R'/\∀g∈F'++R',g∈F++R\/w.heap.size<=g:=by
 obtain⟨F',R',sv,ve,vk,d,L,ht,hT,hF,hR⟩:=hO
 have hsub:∀g∈F'++R',g∈F++R\/w.heap.size<=g:=fun g hg=>by
  rcases List.mem_append.1 hg with hg|hg
  · rcases hF g with h1|h1
    · have:=List.count_pos_iff.2 hg;exact .inl (List.mem_append_left _ (List.count_pos_iff.1 (by omega)))
    exact .inr h1.1
  rcases hR g hg with h1|h1
  · exact .inl (List.mem_append_right _ h1)
  exact .inr h1
 have hnot:∀x,x<w.heap.size->x∉p::(F++R)->x∉p::(F'++R'):=fun x hx hn hm=>by
  rcases List.mem_cons.1 hm with rfl|hm
  · exact hn (by simp)
  rcases hsub x hm with h1|h1
  · exact hn (List.mem_cons_of_mem _ h1)
  omega
 have hlb:=h.blk.lt
 have hnF:∀x,x∉p::(F++R)->x∉p::F:=fun x hx hm=>hx (by simp only[List.mem_cons,List.mem_append]at hm⊢;rcases hm with hm|hm;exact .inl hm;exact .inr (.inl hm))
 have hge:=hT.block ge h.hge (hnF _ h.hgt)
 exact⟨hT,F',R',⟨il h.blk hT.size (hT.block b hlb (hnF _ h.hb)),nlA h.hge hT.size,(World.cell?_of_block (w:=w) (a:=⟨ge,0,none⟩) hge).trans h.e0,(World.cell?_of_block (w:=w) (a:=⟨ge,1,none⟩) hge).trans h.e1,
   ⟨sv,ve,vk,d,L,ht⟩,hok,hnot b hlb h.hb,h.hgb,hnot ge h.hge h.hgt⟩,hsub⟩
theorem wU{tn:Lx.Bs}{cs:Mg.ax}{M:aX}(h:kK w b l p ge ce tn cs M nx F R):
   Calls Tryz.prog 34 #[.pointer (some ⟨b,2,none⟩),.string ⟨tn.toArray⟩] w fun x w'=>x=.returned (.pointer (some ⟨p,0,none⟩))/\Below w.heap.size w w':=by
 have HG:=hd (Ts.Mw ⟨tn.toArray⟩ (some ⟨p,0,none⟩) ge ce b 2 w h.blk.lt (by simpa[Ec]using h.blk.cell 2) h.hge h.e0 h.e1);have hb:=h.blk.lt;clear h;generalize (⟨tn.toArray⟩:ByteArray)=T at*;go_enter Tryz.func34,Tryz.ntmps34;go_wp2_with fail;refine HG.out.mono ?_;rintro x w1 ⟨rfl,hb1⟩;have HB:=hd hb1;clear hb1 HG;go_wp2_with fail;refine(Tb.aN _ _).mono ?_;rintro x w1 ⟨rfl,rfl⟩;go_wp2_with fail;go_ret;exact⟨rfl,HB.out⟩
end Tx
end
section
namespace Tx
open Tb Tw Bt
theorem Ir{tn:Lx.Bs}{cs:Mg.ax}{M:aX}(h:kK w b 1 p ge ce tn cs M nx F R)(l:List (List Px.E))(hle:l.length<=1000000)(hdm:∀n,(Mg.aO n l).length<=1000000)(hrl:∀r∈l,r.length<=1000000)(hok:∀r∈l,∀e∈r,e.ok 2000)
   (hnx:nx+l.length<=1000000000000000000) (v:Value) (hR:nR w v l) (vs:List (List Mg.V)) (hvs:jg cs M.length l=.ok vs) (hok2:pM cs (M++numb nx vs) (nx+(vs.length:Nat))):
   Calls Tryz.prog 22 #[.pointer (some ⟨b,2,none⟩),.iface 93 (.agg #[.string ⟨tn.toArray⟩,v])] w fun x w'=>
    x=.returned (.agg #[.int .i64 0,.slice none 0 0,.int .i64 (vs.length:Nat)])/\aG (p::F) w w'/\∃F' R',kK w' b 1 p ge ce tn cs (M++numb nx vs) (nx+(vs.length:Nat)) F' R'/\∀g∈F'++R',g∈F++R\/w.heap.size+2<=g:=by
 obtain⟨vs0,hv1,hv2⟩:=id hR;obtain⟨gr,cr,rfl⟩:=au hv1;have RJ:=vK (.string ⟨tn.toArray⟩) (.slice gr l.length cr);have QH:=yR (.string ⟨tn.toArray⟩) (.slice gr l.length cr);have RS:=vT (.string ⟨tn.toArray⟩) (.slice gr l.length cr);have HO:=hd h;have HR:=hd hR;have RG:=hd hok2;have hbl:=h.blk.lt;have hB0:Below w.heap.size w ((w.alloc (.cells #[.int .i64 0,.slice none 0 0,.int .i64 0] 29)).alloc (.cells #[.string ⟨tn.toArray⟩,.slice gr l.length cr] 93)):=((Below.refl _ _).alloc (nlr _) _).alloc (by simp) _;have HKA:=hd ((af.new w #[.int .i64 0,.slice none 0 0,.int .i64 0] 29).alloc (.cells #[.string ⟨tn.toArray⟩,.slice gr l.length cr] 93));have HKS:Hid (af ((w.alloc (.cells #[.int .i64 0,.slice none 0 0,.int .i64 0] 29)).alloc (.cells #[.string ⟨tn.toArray⟩,.slice gr l.length cr] 93)) (w.heap.size+1) #[.string ⟨tn.toArray⟩,.slice gr l.length cr] 93):=(by have h:=af.new (w.alloc (.cells #[.int .i64 0,.slice none 0 0,.int .i64 0] 29)) #[.string ⟨tn.toArray⟩,.slice gr l.length cr] 93;rw[World.size_alloc]at h;exact h);have HBV:=hd hB0
 have hsv:((w.alloc (.cells #[.int .i64 0,.slice none 0 0,.int .i64 0] 29)).alloc (.cells #[.string ⟨tn.toArray⟩,.slice gr l.length cr] 93)).heap.size=w.heap.size+2:=by simp
 have HFL:Hid (∀g∈p::F,g<w.heap.size):=fun g hg=>h.lt g (by simp only[List.mem_cons,List.mem_append]at hg⊢;rcases hg with rfl|hg;exact .inr (.inr (.inl rfl));exact .inr (.inr (.inr (.inl hg))))
 have HIV:=hd hvs
 have HIN:Hid (∀W1,Below w.heap.size w W1->Calls Tryz.prog 35 #[.pointer (some ⟨p,0,none⟩),.agg #[.string ⟨tn.toArray⟩,.slice gr l.length cr]] W1 (InsOut W1 p cs M nx F R (.ok vs))):=fun W1 hW=>by
  obtain⟨sv,ve,vk,d,L,ht⟩:=h.tab;have:=insert_any l hle hdm hrl hok ⟨tn.toArray⟩ p cs M nx F R sv ve vk d L _ W1 (ht.below hW) h.ok hnx (hR.below hW);rw[hvs]at this;exact this
 clear hB0 h hR hv1 hv2 hvs hok2 hok hrl hdm
 have HTS:Hid (∀W1,Below w.heap.size w W1->_):=fun W1 hW=>wU (HO.out.below hW)
 generalize (⟨tn.toArray⟩:ByteArray)=T at*;go_enter Tryz.func22,Tryz.ntmps22;go_wp2_with fail;generalize ((w.alloc (.cells #[.int .i64 0,.slice none 0 0,.int .i64 0] 29)).alloc (.cells #[.string T,.slice gr l.length cr] 93))=V at*;have HD:Hid (Below w.heap.size w (World.drew V)):=HBV.out.drew;have HTB:=hd (HTS.out (World.drew V) HD.out);have s0:=HKS.out.cell 0;have s1:=HKS.out.cell 1;have a0:=HKA.out.cell 0;have a1:=HKA.out.cell 1;have a2:=HKA.out.cell 2;simp at s0 s1 a0 a1 a2;have fa0:=HKA.out.free 0;have fa1:=HKA.out.free 1;have fa2:=HKA.out.free 2;have hl1:=HKS.out.lt
 go_region_held3 (fun w'=>w'.cell? ⟨w.heap.size+1,0,none⟩=some (.string T)/\w'.cell? ⟨w.heap.size+1,1,none⟩=some (.slice gr l.length cr)) (go_keep)
   (first
    |(go_at_call 34
      refine HTB.out.mono ?_;rintro x w1 ⟨rfl,hb1⟩;have HB1:Hid (Below V.heap.size V w1):=((Below.refl _ V).drew).trans hb1;have K1:=HKS.out.below HB1.out HKS.out.lt;have t0:=K1.cell 0;have t1:=K1.cell 1;simp at t0 t1;have PW:Hid (Below w.heap.size w w1):=HBV.out.trans (HB1.out.mono HBV.out.size);have HI1:=hd (HIN.out w1 PW.out);have hl3:=K1.lt
      clear hb1 K1)
    |(go_at_call 35
      refine HI1.out.mono ?_;rintro x w2 ⟨rfl,hTO⟩;obtain⟨hT2,F',R',hS2,hsub⟩:=(HO.out.below PW.out).more hTO RG.out;have hsz1:=HB1.out.size;have hA3:aG (p::F) V w2:=(aG.of HB1.out).trans hT2 (fun b hb=> .inl hb);have K3:=hA3.blk HKS.out (fun hm=>by have:=HFL.out _ hm;omega);have K4:=hA3.blk HKA.out (fun hm=>by have:=HFL.out _ hm;omega);have HS3:=hd hS2;have HA3:=hd hA3
      have HSU:Hid (∀g∈F'++R',g∈F++R\/w.heap.size+2<=g):=fun g hg=>by rcases hsub g hg with h|h;exact .inl h;exact .inr (by omega)
      clear hTO hT2 hS2 hsub hA3;have u0:=K3.cell 0;have u1:=K3.cell 1;have b0:=K4.cell 0;have b1:=K4.cell 1;have b2:=K4.cell 2;simp at u0 u1 b0 b1 b2;have fb0:=K4.free 0;have fb1:=K4.free 1;have fb2:=K4.free 2
      have hl4:=K4.lt))
 have K5:=((K4.set 0 (.int .i64 0)).set 1 (.slice none 0 0)).set 2 (.int .i64 (vs.length:Nat));have g0:=K5.cell 0;have g1:=K5.cell 1;have g3:=K5.cell 2;simp at g0 g1 g3;have HSA:Hid (Apart w.heap.size (w.heap.size+1) w2 (((w2.setCell ⟨w.heap.size,0,none⟩ (.int .i64 0)).setCell ⟨w.heap.size,1,none⟩ (.slice none 0 0)).setCell ⟨w.heap.size,2,none⟩ (.int .i64 (vs.length:Nat)))):=(fw.trans fw).trans fw;have HST:Hid (aG (p::F) w (((w2.setCell ⟨w.heap.size,0,none⟩ (.int .i64 0)).setCell ⟨w.heap.size,1,none⟩ (.slice none 0 0)).setCell ⟨w.heap.size,2,none⟩ (.int .i64 (vs.length:Nat)))):=((((aG.of HBV.out).trans HA3.out (fun b hb=> .inl hb)).set _ _ (.inr (nlr _))).set _ _ (.inr (nlr _))).set _ _ (.inr (nlr _));clear K5 K4 K3;go_wp2;refine⟨rfl,.agg #[.int .i64 0,.slice none 0 0,.int .i64 (vs.length:Nat)],by simp[results,Tryz.results22,go_sem,g0,g1,g3],?_⟩;refine⟨rfl,HST.out,F',R',HS3.out.apart HSA.out fun g hg=> ?_,HSU.out⟩
 have hold:g∈b::ge::p::(F++R)\/w.heap.size+2<=g:=by
  simp only[List.mem_cons]at hg⊢;rcases hg with h|h|h|h
  · exact .inl (.inl h)
  · exact .inl (.inr (.inl h))
  · exact .inl (.inr (.inr (.inl h)))
  rcases HSU.out g h with h|h
  · exact .inl (.inr (.inr (.inr h)))
  exact .inr h
 rcases hold with h|h
 · exact .inl (HO.out.lt g h)
 exact .inr (by omega)
end Tx
end
section
namespace Tb
open Bt
theorem zX:∀(cs:Mg.ax) (k:Nat) (h:k<cs.length),(cs.flatMap nM)[k*2]? =some (.string ⟨cs[k].1.toArray⟩)/\(cs.flatMap nM)[k*2+1]? =some (.int .i64 (cs[k].2:Nat))
 |d::r,0,_=>by simp[nM]
 |d::r,k+1,h=>by
  have:=zX r k (by simpa using h);rw[show(k+1)*2=k*2+1+1 by omega];simpa[nM]using this
theorem E9{cs:Mg.ax}(h:w.ownsRow B 220 2 v cs.length (cs.flatMap nM)):Mn.aM w v cs:=by
 obtain⟨ao,cap,rfl,hE⟩:=dx h;refine⟨ao,cap,rfl,fun k hk=> ?_⟩;obtain⟨g,hao,hg,c0⟩:=hE _ _ (zX cs k hk).1;obtain⟨g',hao',hg',c1⟩:=hE _ _ (zX cs k hk).2;rw[hao]at hao';injection hao' with hgg;injection hgg with hgg;subst hgg;exact⟨g,hao,hg,c0,c1⟩
theorem De{cs:Mg.ax}{k:Nat}(hk:k<cs.length)(h:((cs.take k).map Prod.fst).Nodup)(hn:∀(i:Nat) (h1:i<cs.length),i<k->cs[i].1≠cs[k].1):((cs.take (k+1)).map Prod.fst).Nodup:=by
 rw[List.take_succ_eq_append_getElem hk,List.map_append,List.nodup_append];refine⟨h,by simp,fun a ha b hb=> ?_⟩;simp only[List.map_cons,List.map_nil,List.mem_singleton]at hb;subst hb;obtain⟨c,hc,rfl⟩:=List.mem_map.1 ha;obtain⟨i,hi,rfl⟩:=List.mem_iff_getElem.1 hc;simp only[List.length_take]at hi;rw[List.getElem_take];exact hn i (by omega) (by omega)
theorem Kw{cs:Mg.ax}{j k:Nat}(hk:k<cs.length)(hj:j<k)(h:cs[j].1=cs[k].1):¬(cs.map Prod.fst).Nodup:=by
 intro hn;exact List.pairwise_iff_getElem.1 hn j k (by simp;omega) (by simp;omega) hj (by simpa using h)
theorem zB(cs:Mg.ax)(hl:cs.length<=1000)(v:Value)(w:World)(hv:w.ownsRow 0 220 2 v cs.length (cs.flatMap nM)):
   Calls Tryz.prog 74 #[v] w fun x w'=>x=.returned (.bool (decide (cs.map Prod.fst).Nodup))/\Below w.heap.size w w':=by
 obtain⟨ao,cap,rfl,hcells⟩:=E9 hv
 have hcap:cs.length<=cap:=by
  rcases hv.2 with⟨h1,h2⟩|⟨g,cap',cur,h1,h2,h3,h4,h5,h6⟩
  · injection h1 with _ e1 e2;omega
  injection h1 with _ e1 e2;subst e2;omega
 have HC:=hd hcells;clear hcells hv;go_enter Tryz.func74,Tryz.ntmps74;go_wp2_with fail;go_loopw [9] (fun i wr=>∃k:Nat,k<=cs.length/\i=.int .i64 k/\Hid (Below w.heap.size w wr)/\Hid (((cs.take k).map Prod.fst).Nodup)) (fun i _=>cs.length-(intOf i).toNat)
 case atStart=>exact⟨0,by omega,rfl,Below.refl _ _,by show List.Nodup _;simp⟩
 case round=>
  obtain⟨k,hk,rfl,HW,HN⟩:=hrel;by_cases hlt:k<cs.length
  · obtain⟨g,hao,hg,c0,c1⟩:=HC.out k hlt;have d0:=(HW.out.cell (p:=⟨g,k*2,none⟩) hg).trans c0;have d1:=(HW.out.cell (p:=⟨g,k*2+1,none⟩) hg).trans c1;have hg2:=nlA hg HW.out.size;have HK:=hd hlt
    have HQ:Hid (∀(j:Nat) (hj:j<cs.length),((⟨cs[k].1.toArray⟩:ByteArray).toList==(⟨cs[j].1.toArray⟩:ByteArray).toList)=decide (cs[k].1=cs[j].1)):=fun j hj=>Mn.M8 _ _
    obtain⟨wo,rfl⟩:∃wo,wo=wr:=⟨_,rfl⟩;generalize hkn:(⟨cs[k].1.toArray⟩:ByteArray)=kn at*;generalize ((cs[k].2:Nat):Int)=kt at*;have HKN:=hd hkn
    have HWk:Hid (Below wo.heap.size wo (wo.alloc (.cells #[.string kn,.int .i64 kt] 220))):=by show Below _ _ _;go_grown
    have HBk:=hd (af.new wo #[.string kn,.int .i64 kt] 220);clear c0 c1 hkn;subst hao;go_wp2_with fail;go_loopw [18] (fun i wr=>∃j:Nat,j<=k/\i=.int .i64 j/\Hid (Below wo.heap.size wo wr)/\Hid (af wr wo.heap.size #[.string kn,.int .i64 kt] 220)/\Hid (∀(i:Nat) (h1:i<cs.length),i<j->cs[i].1≠(cs[k]'HK.out).1)) (fun i _=>k-(intOf i).toNat)
    case atStart=>exact⟨0,by omega,rfl,HWk,HBk,fun i _ h=>by omega⟩
    case round=>
     obtain⟨j,hj,rfl,HW2,HB2,HN2⟩:=hrel;have hs2:=HW2.out.size;have b0:=HB2.out.cell 0;simp at b0;have hbl:=HB2.out.lt;by_cases hjk:j<k
     · obtain⟨g',hao',hg',c0,c1⟩:=HC.out j (by omega);injection hao' with hgg;injection hgg with hgg;subst hgg;have e0:=(HW2.out.cell (p:=⟨g,j*2,none⟩) hg2).trans ((HW.out.cell (p:=⟨g,j*2,none⟩) hg).trans c0);have e1:=(HW2.out.cell (p:=⟨g,j*2+1,none⟩) hg2).trans ((HW.out.cell (p:=⟨g,j*2+1,none⟩) hg).trans c1)
       have hg3:g<wr.heap.size:=by omega
       have hq:=HQ.out j (by omega);generalize hjn:(⟨(cs[j]'(by omega)).1.toArray⟩:ByteArray)=jn at*;generalize (((cs[j]'(by omega)).2:Nat):Int)=jt at*;have HW3:Hid (Below wo.heap.size wo (wr.alloc (.cells #[.string jn,.int .i64 jt] 220))):=HW2.out.alloc (by omega) _;have HB3:=hd (HB2.out.alloc (.cells #[.string jn,.int .i64 jt] 220));clear c0 c1 hjn;by_cases heq:(cs[j]'(by omega)).1=(cs[k]'HK.out).1
       · have hq2:=hq.trans (decide_eq_true heq.symm);clear hq;have HEQ:=hd (Kw HK.out hjk heq);clear heq;go_wp2_with fail;go_ret;exact⟨by rw[decide_eq_false HEQ.out];first|done|rfl,HW.out.trans (HW3.out.mono HW.out.size)⟩
       have hq2:=hq.trans (decide_eq_false (fun h=>heq h.symm));clear hq;have HNE:=hd heq;clear heq;go_wp2_with fail;go_roundw
       case rel=>exact⟨j+1,by omega,rfl,HW3,HB3,fun i h1 h2=>by
        rcases(show i<j\/i=j by omega)with h|rfl
        · exact HN2.out i h1 h
        exact HNE.out⟩
       case measure=>simp[intOf];omega
     obtain rfl:j=k:=by omega
     have HND:=hd (De HK.out HN.out HN2.out);go_wp2_with fail;go_roundw
     case rel=>exact⟨j+1,by omega,rfl,HW.out.trans (HW2.out.mono HW.out.size),HND⟩
     case measure=>simp[intOf];omega
  obtain rfl:k=cs.length:=by omega
  have hnd:=HN.out;rw[List.take_length]at hnd;go_wp2_with fail;go_ret;exact⟨by rw[decide_eq_true hnd];rfl,HW.out⟩
theorem DL(t:ByteArray)(cl:Mg.ax)(hl:cl.length<=1000)(hnd:(cl.map Prod.fst).Nodup)(v:Value)(b:Nat)(cs:Array Value)(T:TypeId)(w:World)(hN:CJ w b cs T)(hv:w.ownsRow 0 220 2 v cl.length (cl.flatMap nM)):
   Calls Tryz.prog 32 #[.pointer (some ⟨b,2,none⟩),.agg #[.string t,v]] w fun x w'=>x=.returned (.tuple #[])/\∃u w1 p,Below w.heap.size w w1/\w.heap.size<=p/\af w1 p #[v,.slice none 0 0,.slice none 0 0,.int .i64 0,.int .i64 0] 128/\
     w1.ownsRow w.heap.size 257 2 u 1 [.string t,.pointer (some ⟨p,0,none⟩)]/\w'=(w1.setCell ⟨b,2,none⟩ u).setCell ⟨b,4,none⟩ (.int .i64 1):=by
 have HA:Hid (∀W,Below w.heap.size w W->Calls Tryz.prog 74 #[v] W fun x w'=>x=.returned (.bool true)/\Below W.heap.size W w'):=fun W hW=>by
  have:=zB cl hl v W (dG hv hW);rw[decide_eq_true hnd]at this;exact this
 obtain⟨va,vc,rfl⟩:=au hv;have HN:=hd hN;have hb:=hN.blk.lt
 have HB0:Hid (Below w.heap.size w (w.alloc (.cells #[.string t,.slice va cl.length vc] 86))):=by show Below _ _ _;go_grown
 have HK0:=hd (af.new w #[.string t,.slice va cl.length vc] 86);have HN0:=hd (hN.below HB0.out);have HG0:=hd (Ts.get_none t b 2 (World.drew (w.alloc (.cells #[.string t,.slice va cl.length vc] 86))) HN0.out.blk.drew.lt ((HN0.out.blk.drew.cell 2).trans HN0.out.eO) ((HN0.out.blk.drew.cell 3).trans HN0.out.kids));have hl0:=HK0.out.lt;clear hN hv hnd;go_enter Tryz.func32,Tryz.ntmps32;go_wp2_with fail
 go_region_with (
   go_at_call 72
   refine HG0.out.mono ?_
   rintro x w1 ⟨rfl,rfl⟩)
 have HB1:Hid (Below w.heap.size w (World.drew (w.alloc (.cells #[.string t,.slice va cl.length vc] 86)))):=HB0.out.drew;have HK1:Hid (af (World.drew (w.alloc (.cells #[.string t,.slice va cl.length vc] 86))) w.heap.size #[.string t,.slice va cl.length vc] 86):=HK0.out.drew;have HN1:Hid (CJ (World.drew (w.alloc (.cells #[.string t,.slice va cl.length vc] 86))) b cs T):=⟨HN0.out.blk.drew,HN0.out.eO,HN0.out.kids,HN0.out.cnt⟩;clear HB0 HK0 HN0 HG0 HN hl0;generalize World.drew (w.alloc (.cells #[.string t,.slice va cl.length vc] 86))=W at*;have k1:=HK1.out.cell 1;simp at k1;have hlk:=HK1.out.lt;go_wp2_with fail;refine(aN _ _).mono ?_;rintro x w1 ⟨rfl,rfl⟩;go_wp2_with fail;refine(HA.out _ HB1.out).mono ?_;rintro x w2 ⟨rfl,hb2⟩;have HB2:Hid (Below w.heap.size w w2):=HB1.out.trans (hb2.mono HB1.out.size);have HK2:=hd (HK1.out.below hb2 HK1.out.lt);have HN2:=hd (HN1.out.below hb2);clear hb2 HB1 HK1 HN1 k1 hlk;go_wp2_with fail;refine(aN _ _).mono ?_;rintro x w2 ⟨rfl,rfl⟩;go_wp2_with fail;refine(Ts.yw b 2 0 _ HN2.out.blk.lt ((HN2.out.blk.cell 4).trans HN2.out.cnt)).mono ?_;rintro x w2 ⟨rfl,rfl⟩;go_wp2_with fail;refine(aN _ _).mono ?_;rintro x w2 ⟨rfl,rfl⟩;have k0:=HK2.out.cell 0;have k1:=HK2.out.cell 1;simp at k0 k1;have hlk:=HK2.out.lt;have HT:=hd (af.new w2 #[.slice va cl.length vc,.slice none 0 0,.slice none 0 0,.int .i64 0,.int .i64 0] 128);have HB3:Hid (Below w.heap.size w (World.drew (w2.alloc (.cells #[.slice va cl.length vc,.slice none 0 0,.slice none 0 0,.int .i64 0,.int .i64 0] 128)))):=(HB2.out.alloc HB2.out.size _).drew;have HPT:=hd (Ts.yY t (some ⟨w2.heap.size,0,none⟩) b 2 cs T (World.drew (w2.alloc (.cells #[.slice va cl.length vc,.slice none 0 0,.slice none 0 0,.int .i64 0,.int .i64 0] 128))) (HN2.out.blk.alloc _).drew HN2.out.eO HN2.out.kids HN2.out.cnt);have hle:w.heap.size<=(World.drew (w2.alloc (.cells #[.slice va cl.length vc,.slice none 0 0,.slice none 0 0,.int .i64 0,.int .i64 0] 128))).heap.size:=HB3.out.size;go_wp2_with fail
 go_region_with (
   go_at_call 76
   refine HPT.out.mono ?_
   rintro x w5 ⟨rfl,u,w4,hb4,hown,rfl⟩)
 all_goals
  go_wp2_with fail
  go_end0
  exact⟨rfl,u,w4,w2.heap.size,HB3.out.trans (hb4.mono hle),HB2.out.size,HT.out.drew.below hb4 HT.out.drew.lt,Ts.ai hown hle,rfl⟩
end Tb
namespace Tx
open Tb Tw Bt
theorem made{w1:World}{u:Value}{tn:Lx.Bs}{cl:Mg.ax}(hb:af w b (Ec l (.slice none 0 0) 0) 70)(hv:w.ownsRow (b+1) 220 2 v cl.length (cl.flatMap nM))(hc:Mg.dN cl)
   (hB:Below w.heap.size w w1) (hp:w.heap.size<=p) (hP:af w1 p #[v,.slice none 0 0,.slice none 0 0,.int .i64 0,.int .i64 0] 128) (ho:w1.ownsRow w.heap.size 257 2 u 1 [.string ⟨tn.toArray⟩,.pointer (some ⟨p,0,none⟩)]):
   ∃ge ce,w.heap.size<=ge/\kK ((w1.setCell ⟨b,2,none⟩ u).setCell ⟨b,4,none⟩ (.int .i64 1)) b l p ge ce tn cl [] 0 [] (own v)/\Apart b (b+1) w ((w1.setCell ⟨b,2,none⟩ u).setCell ⟨b,4,none⟩ (.int .i64 1)):=by
 obtain⟨ge,ce,rfl,h1,h2,_,_,h3⟩:=tY ho (by omega);have hpe:=l9 ho (by omega) hP (by decide);have hlb:=hb.lt;have kb:=hb.below hB hb.lt;have kb2:=(kb.set 2 (.slice (some ⟨ge,0,none⟩) 1 ce)).set 4 (.int .i64 1);have hA:Apart b (b+1) w1 ((w1.setCell ⟨b,2,none⟩ (.slice (some ⟨ge,0,none⟩) 1 ce)).setCell ⟨b,4,none⟩ (.int .i64 1)):=fw.trans fw
 have hvl:∀g∈own v,b+1<=g/\g<w.heap.size:=fun g hg=>hv.lt g (by simpa[own]using hg)
 have hs:=hB.size;have hs2:=hA.size
 have QD:Mn.aM ((w1.setCell ⟨b,2,none⟩ (.slice (some ⟨ge,0,none⟩) 1 ce)).setCell ⟨b,4,none⟩ (.int .i64 1)) v cl:=((E9 hv).below hB).keep hs2 fun g hg=>hA.block g (.inr (hvl g hg).1) (by have:=hvl g hg;omega)
 refine⟨ge,ce,h1,⟨by simpa[Ec]using kb2,nlA h2 hA.size,?_,?_,?_,?_,?_,by omega,?_⟩,(lG hB).trans hA⟩
 · exact(hA.cell (p:=⟨ge,0,none⟩) (by show ge<b\/b+1<=ge;omega) h2).trans (h3 0 _ rfl)
 · exact(hA.cell (p:=⟨ge,1,none⟩) (by show ge<b\/b+1<=ge;omega) h2).trans (h3 1 _ rfl)
 · refine⟨v,.slice none 0 0,.slice none 0 0,0,[],⟨?_,QD,⟨⟨nlr _,by simp⟩,World.ownsRow_nil _ _ _ _,⟨none,0,rfl⟩,rfl⟩,trivial,by simp,by simp,fun g hg=>hg,fun g hg hm=> ?_,fun g hg=>by have:=hvl g hg;omega⟩⟩
   · exact il hP hs2 (hA.block p (.inr (by omega)) hP.lt)
   have:=hvl g hg;simp at hm;omega
 · exact⟨hc,by simp,List.Pairwise.nil,by simp,by omega,by simp⟩
 · intro hm;simp only[List.nil_append,List.mem_cons]at hm;rcases hm with rfl|hm
   · omega
   have:=hvl b hm;omega
 intro hm;simp only[List.nil_append,List.mem_cons]at hm;rcases hm with rfl|hm
 · exact hpe rfl
 have:=hvl ge hm;omega
theorem JD(b:Nat)(w:World)(tn:Lx.Bs)(cl:Mg.ax)(hc:Mg.dN cl)(hnd:(cl.map Prod.fst).Nodup)(v:Value)(hb:af w b (Ec 1 (.slice none 0 0) 0) 70)(hv:w.ownsRow (b+1) 220 2 v cl.length (cl.flatMap nM)):
   Calls Tryz.prog 22 #[.pointer (some ⟨b,2,none⟩),.iface 86 (.agg #[.string ⟨tn.toArray⟩,v])] w fun x w'=>
    x=.returned (.agg #[.int .i64 0,.slice none 0 0,.int .i64 0])/\Apart b (b+1) w w'/\∃p ge ce,w.heap.size+2<=p/\w.heap.size+2<=ge/\kK w' b 1 p ge ce tn cl [] 0 [] (own v):=by
 obtain⟨va,vc,rfl⟩:=au hv;have hta:=uS (.string ⟨tn.toArray⟩) (.slice va cl.length vc);have HBK:=hd hb;have hbl:=hb.lt;have hB0:Below w.heap.size w ((w.alloc (.cells #[.int .i64 0,.slice none 0 0,.int .i64 0] 29)).alloc (.cells #[.string ⟨tn.toArray⟩,.slice va cl.length vc] 86)):=((Below.refl _ _).alloc (nlr _) _).alloc (by simp) _;have HV:=hd ((HBK.out.alloc (.cells #[.int .i64 0,.slice none 0 0,.int .i64 0] 29)).alloc (.cells #[.string ⟨tn.toArray⟩,.slice va cl.length vc] 86));have HKA:=hd ((af.new w #[.int .i64 0,.slice none 0 0,.int .i64 0] 29).alloc (.cells #[.string ⟨tn.toArray⟩,.slice va cl.length vc] 86));have HOV:=hd (dG hv hB0);have HC:=hd (Tb.DL ⟨tn.toArray⟩ cl hc.1 hnd _ b _ _ _ ⟨HV.out,rfl,rfl,rfl⟩ (Ts.ai HOV.out (Nat.zero_le _)));have HBV:=hd hB0
 have HVL:Hid (∀g∈own (.slice va cl.length vc),b+1<=g/\g<w.heap.size):=fun g hg=>hv.lt g (by simpa[own]using hg)
 have hsv:w.heap.size+2=((w.alloc (.cells #[.int .i64 0,.slice none 0 0,.int .i64 0] 29)).alloc (.cells #[.string ⟨tn.toArray⟩,.slice va cl.length vc] 86)).heap.size:=by simp
 have HCO:=hd hc;clear hB0 hb hv hnd hc;generalize hT:(⟨tn.toArray⟩:ByteArray)=T at*;go_enter Tryz.func22,Tryz.ntmps22;go_wp2_with fail;refine HC.out.mono ?_;rintro x w' ⟨rfl,u,w1,p,hb1,hp,hP,hown,rfl⟩;subst hT;obtain⟨ge,ce,h1,hO,hA⟩:=made HV.out HOV.out HCO.out hb1 hp hP hown;have K2:=il HKA.out hA.size (hA.block w.heap.size (by omega) HKA.out.lt);have HO2:=hd hO;have HA2:Hid (Apart b (b+1) w _):=(lG HBV.out).trans hA;have HPE:Hid (w.heap.size+2<=p/\w.heap.size+2<=ge):=⟨by omega,by omega⟩;clear hb1 hp hP hown hO hA h1 HC HV HKA HBV hsv HOV;generalize ((w1.setCell ⟨b,2,none⟩ u).setCell ⟨b,4,none⟩ (.int .i64 1))=W2 at*;have a0:=K2.cell 0;have a1:=K2.cell 1;have a2:=K2.cell 2;simp at a0 a1 a2;have fa0:=K2.free 0;have fa1:=K2.free 1;have fa2:=K2.free 2;have hl2:=K2.lt;have K5:=((K2.set 0 (.int .i64 0)).set 1 (.slice none 0 0)).set 2 (.int .i64 0);have g0:=K5.cell 0;have g1:=K5.cell 1;have g2:=K5.cell 2;simp at g0 g1 g2;have HS:Hid (Apart w.heap.size (w.heap.size+1) W2 (((W2.setCell ⟨w.heap.size,0,none⟩ (.int .i64 0)).setCell ⟨w.heap.size,1,none⟩ (.slice none 0 0)).setCell ⟨w.heap.size,2,none⟩ (.int .i64 0))):=(fw.trans fw).trans fw;clear K5 K2;go_wp2;have hpe:=HPE.out;refine⟨rfl,.agg #[.int .i64 0,.slice none 0 0,.int .i64 0],by simp[results,Tryz.results22,go_sem,g0,g1,g2],?_⟩;refine⟨rfl,Apart.over HA2.out HS.out (nlr _),p,ge,ce,hpe.1,hpe.2,HO2.out.apart HS.out fun g hg=> ?_⟩;simp only[List.nil_append,List.mem_cons]at hg;rcases hg with rfl|rfl|rfl|hg
 · omega
 · omega
 · omega
 have:=HVL.out g hg;omega
end Tx
end
section
open Go
variable {P:Program}{ops:Array Oper}{Q:Exit->Act->World->Prop}{l n:Nat}
def si(ops:Array Oper):Bool:=ops.all fun o=>match o.op with|.defer _=>false|_=>true
theorem Dr(h:si ops=true){i:Nat}{o:Oper}(ho:ops[i]? =some o)(c:Call):o.op≠ .defer c:=by
 intro hc;unfold si at h;rw[Array.all_eq_true]at h;obtain⟨hi,he⟩:=geA.1 ho;have:=h i hi;rw[he,hc]at this
 cases this
theorem DZ{o:Oper}{a:Act}{K:Act->World->Prop}(hd:∀c,o.op≠ .defer c)(h:o.wp P a w K Q):o.wpIn (Fence.wide.inRound l) n P a w K Q:=by
 refine⟨fun _ _=>trivial,?_⟩;rw[Oper.semAt_eq _ _ _ hd];unfold Oper.wp at h;generalize (execOp a.eval o).run P w=r at h
 cases r with
 |ok nx w'=>
  cases nx with
  |value v=>exact h
  |skip=>exact h
  |defer d=>exact h
  |enter f args=>exact⟨(fun h=>by cases h),CallsIn.inRound l (callsIn_wide.2 h)⟩
  |row row args=>exact⟨(fun h=>by cases h),fun c cs _=>let ⟨v,w',r,s⟩:=h c cs;⟨v,w',r,stepsIn_wide.2 s⟩⟩
  |_=>exact(h:False).elim
 |halt s w'=>
  cases s with
  |panic v=>exact h
  |_=>exact(h:False).elim
theorem gJ{md:Region.Mode}(hL:¬LetsOut Q)(hd:si ops=true):∀(fuel:Nat) (listed:Array Bool) (a:Act) (w:World),wpAny P md ops Q fuel listed a w->wpAnyIn (Fence.wide.inRound l) n P md ops Q fuel listed a w
 |0,_,_,_,h=>h
 |fuel+1,listed,a,w,h=>by
  refine⟨h.1,fun i hi=> ?_⟩;have h2:=h.2 i hi;unfold wpOp at h2;unfold wpOpIn
  split at h2
  · rename_i hn;rw[hn];exact gJ hL hd fuel _ a w h2
  rename_i o ho;rw[ho];dsimp only
  split at h2
  · rename_i hw;rw[if_pos hw];rcases h2 with h2|⟨_,h3⟩
    · exact Oper.wpIn_mono (fun a' w' h'=>gJ hL hd fuel _ a' w' h') (DZ (Dr hd ho) h2)
    exact absurd h3 hL
  rename_i hw;rw[if_neg hw];exact⟨fun _ _=>trivial,gJ hL hd fuel _ _ w h2⟩
theorem nZ{S:World->Prop}{id:Nat}{a:Act}(hm:P.follows .mixedOrders=true)(hL:¬LetsOut Q)(hd:si ops=true)(hS:S w.drew)
   (h:S w.drew->wpAnyH P .any ops Q S ops.size (Array.replicate ops.size false) a w.drew):(Code.region id ops true).wpIn (Fence.wide.inRound l) n P Q a w:=
 wpIn_region_any hm (gJ hL hd _ _ _ _ (wpAny_of_held _ _ _ _ (h hS)))
end
end Go.Proofs.YthhhfcdakfbpkaaGreatDoor
