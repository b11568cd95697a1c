/- Parts of the proof -/
import Derived.Test.YthhhfcdakfbpkaaGreatDoorU1
import Derived.Test.YthhhfcdakfbpkaaGreatDoorUShelf
import Derived.Deep.RegionHeld3
import Derived.Deep.DrawnRows
import Derived.Deep.RegionWith
import Derived.Test.YthhhfcdakfbpkaaGreatDoorUShelfB
open Go.Value renaming int -> Yg, string -> Yi, agg -> Yj, pointer -> Ym, tuple -> Yn, iface -> Yo, slice -> Yp, nilIface -> Yq, ownBlock -> aaR
open Go.IntKind renaming i64 -> Yh
open Go.Obj renaming cells -> Yk
open Go.Ending renaming returned -> Yl
open Go.Proofs.YthhhfcdakfbpkaaGreatDoor.Lx renaming Bs -> Y6, keys -> Y7, Tok -> Zj, aP -> ZL, top -> ZO
open Nat renaming le_trans -> YB, zero_add -> Ze
open Go.World renaming cell?_of_block -> Y8, setCell -> Za, size_alloc -> ZC, ownsRow -> aaO
open Go.Proofs.YthhhfcdakfbpkaaGreatDoor.Below renaming grownBy -> Y9
open Go.RowKit.Below renaming heap_setCell -> Zb, refl -> Zh
open Go.Proofs.Tryz renaming prog -> Zc, func172 -> Zf, ntmps172 -> Zg, func63 -> Zo, ntmps63 -> Zp, results63 -> Zq, func29 -> Zt, ntmps29 -> Zu, func54 -> Zw, ntmps54 -> Zx, func56 -> Zy, ntmps56 -> Zz, func120 -> ZA, ntmps120 -> ZB, func57 -> ZJ, ntmps57 -> ZK, func130 -> ZQ, ntmps130 -> ZR, func337 -> ZY, ntmps337 -> ZZ, func336 -> Z8, ntmps336 -> Z9, func303 -> aad, ntmps303 -> aae, func335 -> aah, ntmps335 -> aai, func301 -> aak, ntmps301 -> aal, func236 -> aam, ntmps236 -> aan, func237 -> aao, ntmps237 -> aap, func123 -> aas, ntmps123 -> aat, func127 -> aaw, ntmps127 -> aax, results127 -> aay, func181 -> aaA, ntmps181 -> aaB, results129 -> aaE, results119 -> aaG
open Bool renaming eq_iff_iff -> Zd
open Go.Proofs.YthhhfcdakfbpkaaGreatDoor.Px renaming cu -> Zi, uq -> Zk, nJ -> Zl, sees -> Zm, kH -> ZE, Rg -> ZF, bU -> ZG, cO -> ZH, name -> ZI, dfold -> ZM, kX -> ZN, iU -> ZT, E -> ZU, Ex -> ZW, dD -> ZX, atom -> Z0, bq -> Z4, Then -> Z5, seq_ok -> Z6, aU -> Z7, bB -> aaa, lV -> aab, bot -> aac, oper -> aaf, fH -> aag, AA -> aaj, uC -> aaq, dC -> aar, CY -> aau, fE -> aav, gQ -> aaz, nG -> aaC, jM -> aaD, kP -> aaF, Sep -> aaH, Reach -> aaI, ku -> aaM, CK -> aaQ
open List renaming drop_eq_getElem_cons -> YM, drop_eq_nil_of_le -> YN, tail_drop -> Zv, mem_of_mem_drop -> ZP, flatMap_cons -> YU, flatMap_nil -> aaJ, append_nil -> aaK, length_singleton -> aaL, length_append -> aaN, mem_singleton -> aaP
open Go.Addr renaming add_lit -> Zn
open Go.Instr renaming field -> Zr, typeAssert -> ZV
open Option renaming none -> Y1, some -> Y2
open Go renaming Value -> Y3, World -> Y4, TypeId -> Y5, Calls -> aaT, bodyPost_ret -> aaU, maxLen -> aaV, results -> aaW, info_parts -> aaX, Ending -> aaY
open Go.RowKit renaming Below -> aaS
namespace Go.Proofs.YthhhfcdakfbpkaaGreatDoor
set_option linter.unusedSimpArgs false
set_option linter.unusedVariables false
set_option maxRecDepth 100000
set_option maxHeartbeats 16000000
open Go.RowKit
variable {w w' w1:Y4}{B base c k m n p size st sz tk tp:Nat}{s:ByteArray}{lv v:Y3}{dp:Bool}{e:Y5}{xs:List Y3}
def nK:List Y6:=Lx.oq++Lx.ones
structure Env(w:Y4):Prop where
 tabs:Lib.Utf8Tabs 5 6 w
 kws:∃t fr,w.heap[4]? =Y2 (.cells (iB Y7) t fr)
 sgs:∃t fr,w.heap[1]? =Y2 (.cells (iB nK) t fr)
 room:12<=w.heap.size
theorem Env.grown(h:Env w)(hg:w.grownBy w' (Y2 B))(hB:12<=B):Env w':=by
 have hr:=h.room
 have hb:∀k,k<12->w'.heap[k]? =w.heap[k]?:=fun k hk=>hg.block k (by omega) (by simp;omega)
 refine⟨⟨fun c hc=> ?_,fun i hi=> ?_⟩,?_,?_,YB hr hg.size⟩
 · rw[Y8 (w:=w) (hb _ (by simp))];exact h.tabs.1 c hc
 · rw[Y8 (w:=w) (hb _ (by simp)),Y8 (w:=w) (hb _ (by simp))];exact h.tabs.2 i hi
 · rw[hb _ (by simp)];exact h.kws
 rw[hb _ (by simp)];exact h.sgs
theorem Env.below(h:Env w)(hb:aaS w.heap.size w w'):Env w':=h.grown (B:=w.heap.size) (Y9 hb) h.room
structure TJ(w:Y4):Prop where
 tabs:Lib.Utf8Tabs 5 6 w
 kws:∃t fr,w.heap[4]? =Y2 (.cells (iB Y7) t fr)
 room:12<=w.heap.size
theorem Env.weak(h:Env w):TJ w:=⟨h.tabs,h.kws,h.room⟩
theorem aI{w2:Y4}{row:Option Nat}(h:w.grownBy w1 row)(k:w1.grownBy w2 row):w.grownBy w2 row:=
 ⟨k.os.trans h.os,k.tape.trans h.tape,k.output.trans h.output,YB h.size k.size,fun i hi hne=>(k.block i (nlA hi h.size) hne).trans (h.block i hi hne)⟩
theorem grownBy_refl(w:Y4)(row:Option Nat):w.grownBy w row:=⟨rfl,rfl,rfl,nlr _,fun _ _ _=>rfl⟩
theorem qI(w:Y4)(B i:Nat)(v:Y3):w.grownBy (w.setCell ⟨B,i,Y1⟩ v) (Y2 B):=
 ⟨rfl,rfl,rfl,by simp[Za],fun k _ hne=>Zb w _ v k (by simpa using hne)⟩
theorem grownBy_drew{row:Option Nat}(h:w.grownBy w1 row):w.grownBy w1.drew row:=⟨h.os,h.tape,h.output,h.size,h.block⟩
structure Rd(w:Y4)(B:Nat)(s:ByteArray)(k st:Nat):Prop where
 blk:ae w B #[.string s,Yg Yh (k:Int),Yg Yh (st:Int)] 143
 low:12<=B
 env:Env w
 le:k<=s.size
 small:s.size<=2000
theorem Rd.below(h:Rd w B s k st)(hb:aaS w.heap.size w w'):Rd w' B s k st:=
 ⟨h.blk.below hb h.blk.lt,h.low,h.env.below hb,h.le,h.small⟩
theorem Rd.drew(h:Rd w B s k st):Rd w.drew B s k st:=
 ⟨h.blk,h.low,⟨h.env.tabs,h.env.kws,h.env.sgs,h.env.room⟩,h.le,h.small⟩
theorem Rd.set1(h:Rd w B s k st)(j:Nat)(hj:j<=s.size):Rd (w.setCell ⟨B,1,Y1⟩ (Yg Yh (j:Int))) B s j st:=
 ⟨h.blk.set 1 _,h.low,h.env.grown (qI w B 1 _) h.low,hj,h.small⟩
theorem Rd.set2(h:Rd w B s k st)(j:Nat):Rd (w.setCell ⟨B,2,Y1⟩ (Yg Yh (j:Int))) B s k j:=
 ⟨h.blk.set 2 _,h.low,h.env.grown (qI w B 2 _) h.low,h.le,h.small⟩
def UC(r:Int):Bool:=decide (r=9\/r=10\/r=13\/r=32)
def Bu(r:Int):Bool:=decide (r≠10)
def yQ(r:Int):Bool:=decide (48<=r/\r<=57)
def Ql(r:Int):Bool:=decide ((97<=r/\r<=122)\/(65<=r/\r<=90)\/r=95\/(48<=r/\r<=57))
theorem vW(r:Int)(w:Y4):aaT Zc 111 #[.int .i32 r] w fun e w'=>e=Yl (.bool (UC r))/\w'=w:=by
 go_enter Tryz.func111,Tryz.ntmps111;go_wp2
 all_goals
  go_ret;refine⟨iW ?_,rfl⟩;rw[Zd];simp[UC];omega
theorem zI(r:Int)(w:Y4):aaT Zc 113 #[.int .i32 r] w fun e w'=>e=Yl (.bool (Bu r))/\w'=w:=by
 go_enter Tryz.func113,Tryz.ntmps113;go_wp2
 all_goals
  go_ret;refine⟨iW ?_,rfl⟩;rw[Zd];simp[Bu]
theorem lC(r:Int)(w:Y4):aaT Zc 173 #[.int .i32 r] w fun e w'=>e=Yl (.bool (yQ r))/\w'=w:=by
 go_enter Tryz.func173,Tryz.ntmps173;go_wp2
 all_goals
  go_ret;refine⟨iW ?_,rfl⟩;rw[Zd];simp[yQ];omega
theorem kS(r:Int)(w:Y4):aaT Zc 175 #[.int .i32 r] w fun e w'=>e=Yl (.bool (Ql r))/\w'=w:=by
 go_enter Tryz.func175,Tryz.ntmps175;go_wp2_with(go_at_call 173;refine(lC _ _).mono ?_;rintro e w' ⟨rfl,rfl⟩)
 all_goals
  go_ret;refine⟨iW ?_,rfl⟩;rw[Zd];simp[Ql,yQ]<;>omega
theorem kz(w:Y4)(B:Nat)(s:ByteArray)(k st:Nat)(c:Int)(h:Rd w B s k st):
   aaT Zc 228 #[Ym (Y2 ⟨B,0,Y1⟩),Yg Yh c] w fun e w'=>e=.panicked [{v:=Yo 74 (Yj #[Yg Yh (st:Int),Yg Yh c]),recovered:=false}]/\w'=w:=by
 obtain⟨⟨b0,b1,b2⟩,b3,b4,b5⟩:=h.blk.three;go_enter Tryz.func228,Tryz.ntmps228;go_wp2;exact⟨rfl,rfl,rfl⟩
def bQ(s:ByteArray)(k:Nat):Int×Nat:=
 if k<s.size then(if Lx.aR (s.data.toList.drop k)=0 then(-2,1)else((Utf8.decode s k).1,Lx.aR (s.data.toList.drop k)))else(-1,0)
theorem get_extract(s:ByteArray)(k j:Nat):(s.extract k s.size).get! j=s.get! (k+j):=by
 have e:(s.extract k s.size).data.toList=s.data.toList.drop k:=Lib.extract_to_end s k
 have g:∀(t:ByteArray) (i:Nat),t.get! i=(t.data.toList[i]?).getD default:=by
  intro t i;show t.data[i]! =_;rw[getElem!_def];simp only[Array.getElem?_toList]
  cases t.data[i]? <;>rfl
 rw[g,g,e,List.getElem?_drop]
theorem decode_extract(s:ByteArray)(k:Nat)(h:k<=s.size):Utf8.decode (s.extract k s.size) 0=Utf8.decode s k:=by
 rw[Lib.decode_at,Lib.decode_at];rw[get_extract,get_extract,get_extract,get_extract];simp only[Ze,Nat.add_zero,Nat.sub_zero]
 congr 1
 simp
theorem vZ(s:ByteArray)(k:Nat)(h:k<s.size):Lib.decodeGo (s.extract k s.size)=Utf8.decode s k:=by
 unfold Lib.decodeGo;rw[if_neg (by simp;omega),decode_extract s k (by omega)]
theorem Cg(s:ByteArray)(k:Nat)(h:¬k<s.size):Lib.decodeGo (s.extract k s.size)=(65533,0):=by
 unfold Lib.decodeGo;rw[if_pos (by simp;omega)]
theorem sO(w:Y4)(B:Nat)(s:ByteArray)(k st:Nat)(h:Rd w B s k st):
   aaT Zc 172 #[Ym (Y2 ⟨B,0,Y1⟩)] w fun e w'=>e=Yl (Yn #[.int .i32 (bQ s k).1,Yg Yh ((bQ s k).2:Int)])/\aaS w.heap.size w w':=by
 obtain⟨⟨b0,b1,b2⟩,b3,b4,b5⟩:=h.blk.three;have hle:=h.le;have hsm:=h.small;by_cases hk:k<s.size
 · by_cases hc:Lx.aR (s.data.toList.drop k)=0
   · have hp:bQ s k=(-2,1):=by unfold bQ;rw[if_pos hk,if_pos hc]
     have hd:=(vZ s k hk).trans (rY s k hk hc).1;rw[hp];clear hp hc;go_enter Zf,Zg;go_wp2
     go_region_with (go_at_call 227;refine(Tryz.utf8_DecodeRuneInString _ _ h.drew.env.tabs).mono ?_;rintro e w1 ⟨rfl,hb1⟩;simp only[hd])
     all_goals
      go_wp2
      go_ret2
      exact⟨rfl,(Zh _ _).drew.trans (by assumption)⟩
   obtain⟨hg1,hg2,hg3⟩:=mh s k hk hc
   have hp:bQ s k=(((Utf8.decode s k).1:Int),(Utf8.decode s k).2):=by unfold bQ;rw[if_pos hk,if_neg hc,hg1]
   have hd:=vZ s k hk
   have hx:¬((Utf8.decode s k).1=65533/\(Utf8.decode s k).2<=1):=by
    rintro⟨q1,q2⟩;rcases hg3 with⟨_,q3,q4⟩|⟨q3,_⟩<;>omega
   rw[hp];generalize Utf8.decode s k=d at*;obtain⟨c,n⟩:=d;clear hp hc hg1 hg2 hg3;simp only;by_cases hc1:c=65533
   · subst hc1
     have hn:1<n:=by simp at hx;omega
     go_enter Zf,Zg;go_wp2
     go_region_with (go_at_call 227;refine(Tryz.utf8_DecodeRuneInString _ _ h.drew.env.tabs).mono ?_;rintro e w1 ⟨rfl,hb1⟩;simp only[hd])
     all_goals
      go_wp2
      go_ret2
      exact⟨rfl,(Zh _ _).drew.trans (by assumption)⟩
   have hn:¬(c:Int)=65533:=by omega
   go_enter Zf,Zg;go_wp2
   go_region_with (go_at_call 227;refine(Tryz.utf8_DecodeRuneInString _ _ h.drew.env.tabs).mono ?_;rintro e w1 ⟨rfl,hb1⟩;simp only[hd])
   all_goals
    go_wp2
    go_ret2
    exact⟨rfl,(Zh _ _).drew.trans (by assumption)⟩
 have hp:bQ s k=(-1,0):=by unfold bQ;rw[if_neg hk]
 have hd:=Cg s k hk;rw[hp];go_enter Zf,Zg;go_wp2
 go_region_with (go_at_call 227;refine(Tryz.utf8_DecodeRuneInString _ _ h.drew.env.tabs).mono ?_;rintro e w1 ⟨rfl,hb1⟩;simp only[hd])
 all_goals
  go_wp2
  go_ret2
  exact⟨rfl,(Zh _ _).drew.trans (by assumption)⟩
def iT:List (Nat×Y6×Nat)->List Y3
 |[]=>[]
 |(l,s,k)::r=>[Yg Yh (k:Int),Yi ⟨s.toArray⟩,Yg Yh (l:Int)]++iT r
structure jJ(w:Y4):Prop where
 env:Env w
 ops:∃t fr,w.heap[7]? =Y2 (.cells (iT Zi).toArray t fr)
 rng:∃te pe,w.cell? ⟨9,0,Y1⟩=Y2 (Yo te pe)
theorem jJ.grown(h:jJ w)(hg:w.grownBy w' (Y2 B))(hB:12<=B):jJ w':=by
 have hr:=h.env.room
 have hb:∀k,k<12->w'.heap[k]? =w.heap[k]?:=fun k hk=>hg.block k (by omega) (by simp;omega)
 refine⟨h.env.grown hg hB,?_,?_⟩
 · rw[hb _ (by simp)];exact h.ops
 rw[Y8 (w:=w) (hb _ (by simp))];exact h.rng
theorem jJ.below(h:jJ w)(hb:aaS w.heap.size w w'):jJ w':=h.grown (B:=w.heap.size) (Y9 hb) h.env.room
structure X6(w:Y4):Prop where
 env:TJ w
 ops:∃t fr,w.heap[7]? =Y2 (.cells (iT Zi).toArray t fr)
structure Cs(w:Y4)(B:Nat)(lv:Y3)(ts:List Zj)(sz k:Nat)(dp:Bool):Prop where
 blk:ae w B #[lv,Yg Yh (k:Int),Yg Yh (sz:Int),.bool dp] 79
 own:∃b,w.ownsRow b 146 3 lv ts.length (iZ ts)
 ne:lv.ownBlock≠Y2 B
 toks:∀t∈ts,Lx.Gb t/\Zk t/\t.pos<=2000/\t.text.length<=2000
 len:ts.length<=2000
 size:sz<=2000
 le:k<=ts.length
 env:jJ w
 low:12<=B
theorem Cs.kept{ts:List Zj}{k':Nat}{dp':Bool}(h:Cs w B lv ts sz k dp)(hg:w.grownBy w' (Y2 B))(hb:ae w' B #[lv,Yg Yh (k':Int),Yg Yh (sz:Int),.bool dp'] 79)(hk:k'<=ts.length):Cs w' B lv ts sz k' dp':=by
 obtain⟨b,ho⟩:=h.own;refine⟨hb,⟨b,ho.kept hg ?_⟩,h.ne,h.toks,h.len,h.size,hk,h.env.grown hg h.low,h.low⟩
 cases hv:lv.ownBlock with
 |none=>simp
 |some g=>right;intro e;exact h.ne (by rw[hv,e])
theorem Cs.below{ts:List Zj}(h:Cs w B lv ts sz k dp)(hb:aaS w.heap.size w w'):Cs w' B lv ts sz k dp:=by
 obtain⟨b,ho⟩:=h.own;exact⟨h.blk.below hb h.blk.lt,⟨b,eO ho hb⟩,h.ne,h.toks,h.len,h.size,h.le,h.env.below hb,h.low⟩
theorem Cs.setAt{ts:List Zj}(h:Cs w B lv ts sz k dp)(j:Nat)(hj:j<=ts.length):Cs (w.setCell ⟨B,1,Y1⟩ (Yg Yh (j:Int))) B lv ts sz j dp:=
 h.kept (qI w B 1 _) (h.blk.set 1 _) hj
theorem Cs.QO{ts:List Zj}(h:Cs w B lv ts sz k dp):Cs (w.setCell ⟨B,3,Y1⟩ (.bool true)) B lv ts sz k true:=
 h.kept (qI w B 3 _) (h.blk.set 3 _) h.le
theorem Cs.cells{ts:List Zj}(h:Cs w B lv ts sz k dp):
   w.cell? ⟨B,0,Y1⟩=Y2 lv/\w.cell? ⟨B,1,Y1⟩=Y2 (Yg Yh (k:Int))/\w.cell? ⟨B,2,Y1⟩=Y2 (Yg Yh (sz:Int))/\w.cell? ⟨B,3,Y1⟩=Y2 (.bool dp):=
 ⟨h.blk.cell 0,h.blk.cell 1,h.blk.cell 2,h.blk.cell 3⟩
def Cx(w:Y4)(B:Nat)(lv:Y3)(ts:List Zj)(sz:Nat)(q:List Zj)(dp:Bool):Prop:=∃k,q=ts.drop k/\Cs w B lv ts sz k dp
theorem Cx.below{ts:List Zj}{q:List Zj}(h:Cx w B lv ts sz q dp)(hb:aaS w.heap.size w w'):Cx w' B lv ts sz q dp:=by
 obtain⟨k,h1,h2⟩:=h;exact⟨k,h1,h2.below hb⟩
def pk(sz:Nat):List Zj->Zj
 |[]=>⟨0,[],sz⟩
 |t::_=>t
theorem RB(ts:List Zj)(sz k:Nat):pk sz (ts.drop k)=yz ts sz k:=by
 unfold yz;by_cases hk:k<ts.length
 · rw[YM hk];simp[pk,hk]
 rw[YN (by omega)];simp[pk,hk]
theorem Qc(sz:Nat)(q:List Zj):Zl sz q=(pk sz q).pos:=by cases q<;>rfl
theorem Ro(s:Y6)(sz:Nat)(q:List Zj):Zm s q=((decide ((pk sz q).kind=50)||decide ((pk sz q).kind=51))&&(pk sz q).text==s):=by cases q<;>rfl
def lL(p c:Nat):aaY:=.panicked [{v:=Yo 74 (Yj #[Yg Yh (p:Int),Yg Yh (c:Int)]),recovered:=false}]
theorem Cs.tok{ts:List Zj}(h:Cs w B lv ts sz k dp):∃ao cap,lv=Yp ao ts.length cap/\
   ∀k,(hk:k<ts.length)->∃g,ao=Y2 ⟨g,0,Y1⟩/\g<w.heap.size/\w.cell? ⟨g,k*3,Y1⟩=Y2 (Yg Yh (ts[k].kind:Int))/\w.cell? ⟨g,k*3+1,Y1⟩=Y2 (Yi ⟨ts[k].text.toArray⟩)/\w.cell? ⟨g,k*3+2,Y1⟩=Y2 (Yg Yh (ts[k].pos:Int)):=by
 obtain⟨b,ho⟩:=h.own;have ho2:=ho.2;rcases ho2 with⟨rfl,hn⟩|⟨g,cap,cur,rfl,hb,hg,h1,h2,h3,h4⟩
 · exact⟨Y1,0,by rw[hn],fun k hk=>by omega⟩
 refine⟨Y2 ⟨g,0,Y1⟩,cap,rfl,fun k hk=>⟨g,rfl,?_⟩⟩;have hc:=ho.cells (g:=g) rfl;obtain⟨q0,q1,q2⟩:=A7 ts k hk;have a0:=hc _ _ q0;have a1:=hc _ _ q1;have a2:=hc _ _ q2;simp only[Zn,Ze]at a0 a1 a2;exact⟨(geA.1 hg).1,a0,a1,a2⟩
theorem LZ(w:Y4)(B:Nat)(lv:Y3)(ts:List Zj)(sz k:Nat)(dp:Bool)(h:Cs w B lv ts sz k dp):
   aaT Zc 63 #[Ym (Y2 ⟨B,0,Y1⟩)] w fun x w'=>x=Yl (jO (yz ts sz k))/\aaS w.heap.size w w':=by
 obtain⟨c0,c1,c2,c3⟩:=h.cells;obtain⟨ao,cap,rfl,hk⟩:=h.tok;have hle:=h.le;have hlen:=h.len;have hB:=h.blk.lt;by_cases hlt:k<ts.length
 · obtain⟨g,rfl,hg,k0,k1,k2⟩:=hk k hlt
   have e1:yz ts sz k=ts[k]:=by simp[yz,hlt]
   rw[e1];generalize ts[k]=t at*;go_enter Zo,Zp;go_wp2
   go_region
   all_goals go_wp2
   all_goals go_region
   all_goals go_wp2
   refine aaU (v:=jO t) (by simp[aaW,Zq,go_sem,jO]) rfl ⟨rfl,by go_grown⟩
 have e1:yz ts sz k=⟨0,[],sz⟩:=by simp[yz,hlt]
 rw[e1];go_enter Zo,Zp;go_wp2
 go_region
 all_goals go_wp2
 refine aaU (v:=jO ⟨0,[],sz⟩) (by simp[aaW,Zq,go_sem,jO]) rfl ⟨rfl,by go_grown⟩
theorem cK(w:Y4)(B:Nat)(lv:Y3)(ts:List Zj)(sz:Nat)(q:List Zj)(dp:Bool)(h:Cx w B lv ts sz q dp):
   aaT Zc 63 #[Ym (Y2 ⟨B,0,Y1⟩)] w fun x w'=>x=Yl (jO (pk sz q))/\aaS w.heap.size w w':=by
 obtain⟨k,rfl,h⟩:=h;rw[RB];exact LZ w B lv ts sz k dp h
theorem UT(a b c:Y3)(w:Y4):(Zr 146 (Yj #[a,b,c]) 0).run Zc w=.ok a w:=by kernel_rfl
theorem Wh(a b c:Y3)(w:Y4):(Zr 146 (Yj #[a,b,c]) 1).run Zc w=.ok b w:=by kernel_rfl
theorem Uh(a b c:Y3)(w:Y4):(Zr 146 (Yj #[a,b,c]) 2).run Zc w=.ok c w:=by kernel_rfl
theorem je(w:Y4)(v:Y3)(p c:Nat):
   aaT Zc 62 #[v,Yg Yh (p:Int),Yg Yh (c:Int)] w fun e w'=>e=lL p c/\w'=w:=by
 go_enter Tryz.func62,Tryz.ntmps62;go_wp2;exact⟨rfl,rfl,rfl⟩
theorem qQ(w:Y4)(v:Y3):aaT Zc 29 #[v,.bool true] w fun e w'=>e=Yl (Yn #[])/\w'=w:=by
 go_enter Zt,Zu;go_wp2_with fail
 go_end0
 exact⟨rfl,rfl⟩
theorem KH(w:Y4)(B:Nat)(lv:Y3)(ts:List Zj)(sz:Nat)(q:List Zj)(dp:Bool)(h:Cx w B lv ts sz q dp)(tk:Nat)(tt:Y6)(tp:Nat)(ht:pk sz q=⟨tk,tt,tp⟩):
   aaT Zc 29 #[Ym (Y2 ⟨B,0,Y1⟩),.bool false] w fun e w'=>e=lL tp 4/\aaS w.heap.size w w':=by
 have HT:=hd ht;have hf2:=Uh;go_enter Zt,Zu;go_wp2_with fail;refine(cK w B lv ts sz q dp h).mono ?_;rintro x w1 ⟨rfl,hb⟩;rw[HT.o];unfold jO;simp only;go_wp2_with fail;refine(je w1 _ tp 4).mono ?_;rintro x w2 ⟨rfl,rfl⟩;exact⟨rfl,rfl,hb⟩
theorem uP(w:Y4)(B:Nat)(lv:Y3)(ts:List Zj)(sz:Nat)(q:List Zj)(dp:Bool)(h:Cx w B lv ts sz q dp):
   aaT Zc 29 #[Ym (Y2 ⟨B,0,Y1⟩),.bool false] w fun e w'=>e=lL (Zl sz q) 4/\aaS w.heap.size w w':=by
 rw[Qc];rcases ht:pk sz q with⟨tk,tt,tp⟩;exact KH w B lv ts sz q dp h tk tt tp ht
def uR(t:Zj):Y6:=if t.kind=50\/t.kind=51 then t.text else[]
theorem Jd(w:Y4)(B:Nat)(lv:Y3)(ts:List Zj)(sz:Nat)(q:List Zj)(dp:Bool)(h:Cx w B lv ts sz q dp)(tk:Nat)(tt:Y6)(tp:Nat)(ht:pk sz q=⟨tk,tt,tp⟩):
   aaT Zc 116 #[Ym (Y2 ⟨B,0,Y1⟩)] w fun x w'=>x=Yl (Yi ⟨(uR ⟨tk,tt,tp⟩).toArray⟩)/\aaS w.heap.size w w':=by
 have HT:=hd ht;unfold uR;go_enter Tryz.func116,Tryz.ntmps116;go_wp2_with fail;refine(cK w B lv ts sz q dp h).mono ?_;rintro x w1 ⟨rfl,hb⟩;rw[HT.o];unfold jO;simp only;have hs:=hb.size;by_cases h50:tk=50
 · subst h50;go_wp2;go_ret;exact⟨rfl,by go_grown⟩
 have h1:((tk:Int)==50)=false:=by rw[beq_eq_false_iff_ne];omega
 by_cases h51:tk=51
 · subst h51;go_wp2;go_ret;exact⟨rfl,by go_grown⟩
 have h2:((tk:Int)==51)=false:=by rw[beq_eq_false_iff_ne];omega
 go_wp2;go_ret;exact⟨by simp[h50,h51],by go_grown⟩
theorem lM(w:Y4)(B:Nat)(lv:Y3)(ts:List Zj)(sz:Nat)(q:List Zj)(dp:Bool)(h:Cx w B lv ts sz q dp):
   aaT Zc 116 #[Ym (Y2 ⟨B,0,Y1⟩)] w fun x w'=>x=Yl (Yi ⟨(uR (pk sz q)).toArray⟩)/\aaS w.heap.size w w':=by
 rcases ht:pk sz q with⟨tk,tt,tp⟩;exact Jd w B lv ts sz q dp h tk tt tp ht
theorem El{s:Y6}(hs:s≠[])(sz:Nat)(q:List Zj):(uR (pk sz q)=s)↔Zm s q=true:=by
 rw[Ro s sz q];rcases pk sz q with⟨tk,tt,tp⟩;unfold uR;simp only[Bool.and_eq_true,Bool.or_eq_true,decide_eq_true_eq,beq_iff_eq];by_cases h:tk=50\/tk=51
 · rw[if_pos h];exact⟨fun e=>⟨h,e⟩,fun e=>e.2⟩
 rw[if_neg h];exact⟨fun e=>absurd e.symm hs,fun e=>absurd e.1 h⟩
theorem Cx.next{ts:List Zj}{q:List Zj}(h:Cx w B lv ts sz q dp)(hq:q≠[]):∃k:Nat,k<=2000/\w.cell? ⟨B,1,Y1⟩=Y2 (Yg Yh (k:Int))/\w.frozen? ⟨B,1,Y1⟩=false/\
   Cx (w.setCell ⟨B,1,Y1⟩ (Yg Yh ((k:Int)+1))) B lv ts sz q.tail dp:=by
 obtain⟨k,rfl,h⟩:=h
 have hk:k<ts.length:=by
  apply Decidable.byContradiction;intro hn;exact hq (YN (by omega))
 have:=h.len;refine⟨k,by omega,h.cells.2.1,h.blk.free 1,k+1,by rw[Zv],?_⟩;have:=h.setAt (k+1) (by omega)
 rwa [show(((k+1:Nat):Nat):Int)=(k:Int)+1 by omega]at this
theorem Cx.lt{ts:List Zj}{q:List Zj}(h:Cx w B lv ts sz q dp):B<w.heap.size:=by
 obtain⟨k,_,h⟩:=h;exact h.blk.lt
theorem uh(s:ByteArray)(w:Y4)(B:Nat)(lv:Y3)(ts:List Zj)(sz:Nat)(q:List Zj)(dp:Bool)(h:Cx w B lv ts sz q dp)(hs:Zm s.data.toList q=true)(hne:s.data.toList≠[]):
   aaT Zc 54 #[Ym (Y2 ⟨B,0,Y1⟩),.string s] w fun x w'=>x=Yl (.bool true)/\Cx w' B lv ts sz q.tail dp/\w.grownBy w' (Y2 B):=by
 have hq:q≠[]:=by rintro rfl;cases hs
 have hf:(⟨(uR (pk sz q)).toArray⟩:ByteArray)=s:=by
  rw[(El hne sz q).2 hs]
 go_enter Zw,Zx;go_wp2_with fail;refine(lM w B lv ts sz q dp h).mono ?_;rintro x w1 ⟨rfl,hb⟩;rw[hf];obtain⟨k,hk,c1,f1,hn⟩:=(h.below hb).next hq;have HN:=hd hn;have HB:=hd hb;go_wp2;go_ret;exact⟨rfl,HN.o,aI (Y9 HB.o) (qI w1 B 1 _)⟩
theorem dZ(s:ByteArray)(w:Y4)(B:Nat)(lv:Y3)(ts:List Zj)(sz:Nat)(q:List Zj)(dp:Bool)(h:Cx w B lv ts sz q dp)(hs:Zm s.data.toList q=false)(hne:s.data.toList≠[]):
   aaT Zc 54 #[Ym (Y2 ⟨B,0,Y1⟩),.string s] w fun x w'=>x=Yl (.bool false)/\aaS w.heap.size w w':=by
 have hf:((⟨(uR (pk sz q)).toArray⟩:ByteArray).toList==s.toList)=false:=by
  rw[beq_eq_false_iff_ne,Lib.toList_data,Lib.toList_data];intro e;rw[(El hne sz q).1 e]at hs
  cases hs
 go_enter Zw,Zx;go_wp2_with fail;refine(lM w B lv ts sz q dp h).mono ?_;rintro x w1 ⟨rfl,hb⟩;generalize (⟨(uR (pk sz q)).toArray⟩:ByteArray)=f at*;go_wp2;go_ret;exact⟨rfl,hb⟩
theorem Cj(s:ByteArray)(w:Y4)(B g:Nat)(lv:Y3)(ts:List Zj)(sz:Nat)(q:List Zj)(dp:Bool)(h:Cx w B lv ts sz q dp)(hs:Zm s.data.toList q=true)(hne:s.data.toList≠[])(hv:w.cell? ⟨g,0,Y1⟩=Y2 (.string s)):
   aaT Zc 56 #[Ym (Y2 ⟨B,0,Y1⟩),Yp (Y2 ⟨g,0,Y1⟩) 1 1] w fun x w'=>x=Yl (Yn #[])/\Cx w' B lv ts sz q.tail dp/\w.grownBy w' (Y2 B):=by
 have HS:=hd hs;have HN:=hd hne;go_enter Zy,Zz;go_wp2_with fail;refine wp_loop_rounds 2 ?_;rw[rounds_succ];go_wp2_with fail;refine(uh s w B lv ts sz q dp h HS.o HN.o).mono ?_;rintro x w1 ⟨rfl,hx,hg⟩;go_wp2_with fail;refine(qQ w1 _).mono ?_;rintro x w2 ⟨rfl,rfl⟩;go_wp2_with fail;rw[rounds_succ];go_wp2_with fail
 go_end0
 exact⟨rfl,hx,hg⟩
theorem FW(s:ByteArray)(w:Y4)(B g:Nat)(lv:Y3)(ts:List Zj)(sz:Nat)(q:List Zj)(dp:Bool)(h:Cx w B lv ts sz q dp)(hs:Zm s.data.toList q=false)(hne:s.data.toList≠[])(hv:w.cell? ⟨g,0,Y1⟩=Y2 (.string s)):
   aaT Zc 56 #[Ym (Y2 ⟨B,0,Y1⟩),Yp (Y2 ⟨g,0,Y1⟩) 1 1] w fun x w'=>x=lL (Zl sz q) 4/\aaS w.heap.size w w':=by
 have HS:=hd hs;have HN:=hd hne;go_enter Zy,Zz;go_wp2_with fail;refine wp_loop_rounds 1 ?_;rw[rounds_succ];go_wp2_with fail;refine(dZ s w B lv ts sz q dp h HS.o HN.o).mono ?_;rintro x w1 ⟨rfl,hb⟩;go_wp2_with fail;refine(uP w1 B lv ts sz q dp (h.below hb)).mono ?_;rintro x w2 ⟨rfl,hb2⟩;exact⟨rfl,rfl,hb.trans (hb2.mono hb.size)⟩
theorem fq{row:Option Nat}(h:w.grownBy w1 row){M:Nat}(hM:w.heap.size<=M)(i:Nat)(v:Y3):w.grownBy (w1.setCell ⟨M,i,Y1⟩ v) row:=
 ⟨h.os,h.tape,h.output,by simpa[Za]using h.size,fun k hk hne=>by rw[Zb _ _ _ _ (by show k≠M;omega)];exact h.block k hk hne⟩
theorem Cx.step{ts:List Zj}{q:List Zj}{dp':Bool}(h:Cx w B lv ts sz q dp)(hg:w.grownBy w' (Y2 B))(hq:q≠[])(k:Nat)(hc:w.cell? ⟨B,1,Y1⟩=Y2 (Yg Yh (k:Int)))(hb:ae w' B #[lv,Yg Yh ((k:Int)+1),Yg Yh (sz:Int),.bool dp'] 79):Cx w' B lv ts sz q.tail dp':=by
 obtain⟨j,rfl,h⟩:=h
 have e:(j:Int)=k:=by
  have:=h.cells.2.1;rw[this]at hc;simpa using hc
 have hk:j<ts.length:=by
  apply Decidable.byContradiction;intro hn;exact hq (YN (by omega))
 refine⟨j+1,by rw[Zv],h.kept (k':=j+1) hg ?_ (by omega)⟩;rw[show((j+1:Nat):Int)=(k:Int)+1 by omega];exact hb
theorem Cx.blk{ts:List Zj}{q:List Zj}(h:Cx w B lv ts sz q dp):∃k:Nat,k<=2000/\ae w B #[lv,Yg Yh (k:Int),Yg Yh (sz:Int),.bool dp] 79:=by
 obtain⟨k,_,h⟩:=h;exact⟨k,YB h.le h.len,h.blk⟩
theorem ru(w:Y4)(B:Nat)(lv:Y3)(ts:List Zj)(sz:Nat)(tk:Nat)(tt:Y6)(tp:Nat)(q:List Zj)(dp:Bool)(h:Cx w B lv ts sz (⟨tk,tt,tp⟩::q) dp)(kd:Nat)(hk:tk=kd):
   aaT Zc 120 #[Ym (Y2 ⟨B,0,Y1⟩),Yg Yh (kd:Int)] w fun x w'=>x=Yl (jO ⟨tk,tt,tp⟩)/\Cx w' B lv ts sz q dp/\w.grownBy w' (Y2 B):=by
 subst hk;obtain⟨k,hk2,hblk⟩:=h.blk;have HX:=hd h;have hlt:=h.lt;go_enter ZA,ZB;go_wp2_with fail;refine(cK _ B lv ts sz _ dp (HX.o.below ((Zh _ _).alloc (nlr _) _))).mono ?_;rintro x w1 ⟨rfl,hb⟩;have hs:=hb.size;have hb0:aaS w.heap.size w w1:=((Zh _ _).alloc (nlr _) _).trans (hb.mono (by simp));have K4:=(ae.new w #[Yg Yh 0,Yi ⟨#[]⟩,Yg Yh 0] 146).below hb (by simp);simp only[ZC]at hs;unfold jO pk;simp only;go_wp2_with fail;refine(qQ _ _).mono ?_;rintro x w2 ⟨rfl,hw⟩
 have hb2:aaS w.heap.size w w2:=by subst hw;exact hb0.alloc (by omega) _
 have KB:=hblk.below hb2 hlt
 have KN:ae w2 w1.heap.size #[Yg Yh (tk:Int),Yi ⟨tt.toArray⟩,Yg Yh (tp:Int)] 146:=by subst hw;exact ae.new _ _ _
 have K4':ae w2 w.heap.size #[Yg Yh 0,Yi ⟨#[]⟩,Yg Yh 0] 146:=by subst hw;exact K4.alloc _
 clear hw K4 hb hb0;have c1:w2.cell? ⟨B,1,Y1⟩=Y2 (Yg Yh (k:Int)):=KB.cell 1;have f1:=KB.free 1;have n0:w2.cell? ⟨w1.heap.size,0,Y1⟩=Y2 (Yg Yh (tk:Int)):=KN.cell 0;have n1:w2.cell? ⟨w1.heap.size,1,Y1⟩=Y2 (Yi ⟨tt.toArray⟩):=KN.cell 1;have n2:w2.cell? ⟨w1.heap.size,2,Y1⟩=Y2 (Yg Yh (tp:Int)):=KN.cell 2;have m0:w2.cell? ⟨w.heap.size,0,Y1⟩=Y2 (Yg Yh 0):=K4'.cell 0;have m1:w2.cell? ⟨w.heap.size,1,Y1⟩=Y2 (Yi ⟨#[]⟩):=K4'.cell 1;have m2:w2.cell? ⟨w.heap.size,2,Y1⟩=Y2 (Yg Yh 0):=K4'.cell 2;obtain⟨g0,g1,g2⟩:=K4'.f3
 have d1:¬B=w1.heap.size:=by omega
 have d2:¬w1.heap.size=B:=by omega
 have d3:¬B=w.heap.size:=by omega
 have d4:¬w.heap.size=B:=by omega
 have d5:¬w1.heap.size=w.heap.size:=by omega
 have d6:¬w.heap.size=w1.heap.size:=by omega
 have HB2:=hd hb2;have HKB:=hd KB;have HK4:=hd K4';clear KN K4' hb2 KB;go_wp2;have KF:=(((HK4.o.far ⟨B,1,Y1⟩ (Yg Yh ((k:Int)+1)) d3).set 0 (Yg Yh (tk:Int))).set 1 (Yi ⟨tt.toArray⟩)).set 2 (Yg Yh (tp:Int));obtain⟨e0,e1,e2⟩:=KF.d3;refine aaU (v:=jO ⟨tk,tt,tp⟩) (by simp[aaW,Tryz.results120,go_sem,jO,e0,e1,e2]) rfl ⟨rfl,?_,?_⟩
 · refine Cx.step (q:=⟨tk,tt,tp⟩::q) HX.o (fq (fq (fq (aI (Y9 HB2.o) (qI w2 B 1 _)) (nlr _) 0 _) (nlr _) 1 _) (nlr _) 2 _) (by simp) k (hblk.cell 1) ?_;exact(((HKB.o.set 1 (Yg Yh ((k:Int)+1))).far ⟨w.heap.size,0,Y1⟩ _ d4).far ⟨w.heap.size,1,Y1⟩ _ d4).far ⟨w.heap.size,2,Y1⟩ _ d4
 exact fq (fq (fq (aI (Y9 HB2.o) (qI w2 B 1 _)) (nlr _) 0 _) (nlr _) 1 _) (nlr _) 2 _
theorem A8(w:Y4)(B:Nat)(lv:Y3)(ts:List Zj)(sz:Nat)(q:List Zj)(dp:Bool)(h:Cx w B lv ts sz q dp)(tk:Nat)(tt:Y6)(tp:Nat)(ht:pk sz q=⟨tk,tt,tp⟩)(kd:Nat)(hk:tk≠kd):
   aaT Zc 120 #[Ym (Y2 ⟨B,0,Y1⟩),Yg Yh (kd:Int)] w fun x w'=>x=lL (Zl sz q) 4/\aaS w.heap.size w w':=by
 have HX:=hd h;have HT:=hd ht
 have h0:((tk:Int)==(kd:Int))=false:=by rw[beq_eq_false_iff_ne];omega
 go_enter ZA,ZB;go_wp2_with fail;refine(cK _ B lv ts sz _ dp (HX.o.below ((Zh _ _).alloc (nlr _) _))).mono ?_;rintro x w1 ⟨rfl,hb⟩;have hs:=hb.size;have hb0:aaS w.heap.size w w1:=((Zh _ _).alloc (nlr _) _).trans (hb.mono (by simp));have HB0:=hd hb0;simp only[ZC]at hs;rw[HT.o];unfold jO;simp only;go_wp2_with fail;refine(uP _ B lv ts sz q dp (HX.o.below (HB0.o.alloc (by omega) _))).mono ?_;rintro x w2 ⟨rfl,hb2⟩;exact⟨rfl,rfl,(HB0.o.alloc (by omega) _).trans (hb2.mono (by simp;omega))⟩
def Xt{α:Type}(B:Nat)(lv:Y3)(ts:List Zj)(sz:Nat)(dp:Bool)(V:α->Y3->Y4->Prop)(dv:α->Bool)(x:aaY)(w':Y4):ZE α->Prop
 |.error (p,c)=>x=lL p c
 |.ok (a,q')=>∃v,x=Yl v/\V a v w'/\Cx w' B lv ts sz q' (dv a||dp)
def aj{α:Type}(w:Y4)(B:Nat)(lv:Y3)(ts:List Zj)(sz:Nat)(dp:Bool)(R:ZF α)(q:List Zj)(V:α->Y3->Y4->Prop)(dv:α->Bool)(x:aaY)(w':Y4):Prop:=
 w.grownBy w' (Y2 B)/\∃r,R q r/\Xt B lv ts sz dp V dv x w' r
theorem aj.err{α:Type}{ts:List Zj}{R:ZF α}{q:List Zj}{V:α->Y3->Y4->Prop}{dv:α->Bool}(hg:w.grownBy w' (Y2 B))(h:R q (.error (p,c))):aj w B lv ts sz dp R q V dv (lL p c) w':=⟨hg,_,h,rfl⟩
theorem aj.ok{α:Type}{ts:List Zj}{R:ZF α}{q:List Zj}{V:α->Y3->Y4->Prop}{dv:α->Bool}{a:α}{q':List Zj}(hg:w.grownBy w' (Y2 B))(h:R q (.ok (a,q')))(hv:V a v w')(hx:Cx w' B lv ts sz q' (dv a||dp)):aj w B lv ts sz dp R q V dv (Yl v) w':=⟨hg,_,h,v,rfl,hv,hx⟩
theorem aj.cases{α:Type}{ts:List Zj}{R:ZF α}{q:List Zj}{V:α->Y3->Y4->Prop}{dv:α->Bool}{x:aaY}(h:aj w B lv ts sz dp R q V dv x w'):
   w.grownBy w' (Y2 B)/\((∃p c,R q (.error (p,c))/\x=lL p c)\/∃a q' v,R q (.ok (a,q'))/\x=Yl v/\V a v w'/\Cx w' B lv ts sz q' (dv a||dp)):=by
 obtain⟨hg,r,hr,hf⟩:=h;refine⟨hg,?_⟩
 match r,hr,hf with
 |.error (p,c),hr,hf=>exact .inl ⟨p,c,hr,hf⟩
 |.ok (a,q'),hr,⟨v,h1,h2,h3⟩=>exact .inr ⟨a,q',v,hr,h1,h2,h3⟩
def XC(s:Y6)(v:Y3)(_:Y4):Prop:=v=Yi ⟨s.toArray⟩
def SQ(n:Nat)(v:Y3)(_:Y4):Prop:=v=Yg Yh (n:Int)
def MS(_:Unit)(v:Y3)(_:Y4):Prop:=v=Yn #[]
def dM{α:Type}(_:α):Bool:=false
theorem vM{row:Option Nat}(h:w.grownBy w1 row)(o:Obj):w.grownBy (w1.alloc o) row:=
 ⟨h.os,h.tape,h.output,by have:=h.size;simp;omega,fun k hk hne=>by
  rw[<-h.block k hk hne]
  exact heap_alloc_old w1 o (nlA hk h.size)⟩
theorem xm{q:List Zj}{tt:Y6}(ht:pk sz q=⟨tk,tt,tp⟩)(h0:tk≠0):∃q',q=⟨tk,tt,tp⟩::q':=by
 cases q with
 |nil=>simp only[pk,Lx.Tok.mk.injEq]at ht;omega
 |cons t q'=>simp only[pk]at ht;exact⟨q',by rw[ht]⟩
theorem Jn{q:List Zj}{tt:Y6}(ht:pk sz q=⟨tk,tt,tp⟩):Zl sz q=tp:=by rw[Qc,ht]
theorem Dk(s:ByteArray)(w:Y4)(B g:Nat)(lv:Y3)(ts:List Zj)(sz:Nat)(q:List Zj)(dp:Bool)(h:Cx w B lv ts sz q dp)(hne:s.data.toList≠[])(hv:w.cell? ⟨g,0,Y1⟩=Y2 (.string s)):
   aaT Zc 56 #[Ym (Y2 ⟨B,0,Y1⟩),Yp (Y2 ⟨g,0,Y1⟩) 1 1] w (aj w B lv ts sz dp (ZG sz s.data.toList) q MS dM):=by
 cases hs:Zm s.data.toList q with
 |true=>
  refine(Cj s w B g lv ts sz q dp h hs hne hv).mono ?_;rintro x w' ⟨rfl,hx,hg⟩;exact aj.ok hg (by unfold ZG Px.must;rw[if_pos hs]) rfl hx
 |false=>
  refine(FW s w B g lv ts sz q dp h hs hne hv).mono ?_;rintro x w' ⟨rfl,hb⟩;exact aj.err (Y9 hb) (by unfold ZG Px.must;rw[if_neg (by simp[hs])])
theorem Rl{q:List Zj}{tt:Y6}(ht:pk sz q=⟨tk,tt,tp⟩)(hk:tk≠18):ZH sz q (.error (Zl sz q,4)):=by
 unfold ZH
 cases q with
 |nil=>rfl
 |cons t q=>
  simp only[pk]at ht;subst ht;simp only[ZI,Zl];rw[if_pos hk]
theorem eD(w:Y4)(B:Nat)(lv:Y3)(ts:List Zj)(sz:Nat)(q:List Zj)(dp:Bool)(h:Cx w B lv ts sz q dp):
   aaT Zc 57 #[Ym (Y2 ⟨B,0,Y1⟩)] w (aj w B lv ts sz dp (ZH sz) q XC dM):=by
 rcases ht:pk sz q with⟨tk,tt,tp⟩;by_cases hk:tk=18
 · obtain⟨q',rfl⟩:=xm ht (by omega);have HX:=hd h;have HK:=hd hk
   have hR:ZH sz (⟨tk,tt,tp⟩::q') (if 30<tt.length then .error (tp,5)else .ok (tt,q')):=by
    unfold ZH;simp only[ZI];rw[if_neg (by simpa using hk)]
    split<;>rfl
   have HR:=hd hR;clear h ht hk hR;go_enter ZJ,ZK;go_wp2_with fail;refine(ru w B lv ts sz tk tt tp q' dp HX.o 18 HK.o).mono ?_;rintro x w1 ⟨rfl,hx,hg⟩;have HX1:=hd hx;have HG1:=hd hg;unfold jO;simp only;by_cases hl:30<tt.length
   · have hl':(30:Int)<(tt.length:Int):=by omega
     go_wp2_with fail;refine(je _ _ tp 5).mono ?_;rintro x w2 ⟨rfl,rfl⟩;exact⟨rfl,aj.err (vM HG1.o _) (by have:=HR.o;rwa [if_pos hl]at this)⟩
   have hl':¬(30:Int)<(tt.length:Int):=by omega
   go_wp2_with fail;go_ret;exact aj.ok (vM HG1.o _) (by have:=HR.o;rwa [if_neg hl]at this) rfl (HX1.o.below ((Zh _ _).alloc (nlr _) _))
 have HX:=hd h;have HN:=hd (Rl ht hk);go_enter ZJ,ZK;go_wp2_with fail;refine(A8 w B lv ts sz q dp HX.o tk tt tp ht 18 hk).mono ?_;rintro x w1 ⟨rfl,hb⟩;exact⟨rfl,aj.err (Y9 hb) HN.o⟩
theorem sw:∀(l:Y6) (acc:Nat),(∀c∈l,ZL c=true)->ZM l acc<=9223372036854775808->Lib.parseUint10 acc l=.ok (ZM l acc)
 |[],acc,_,_=>rfl
 |c::l,acc,hd,hv=>by
  rw[Px.iE]at hv⊢;have hc:=hd c (by simp);simp only[ZL,decide_eq_true_eq]at hc;have hge:=Px.Gd l (10*acc+(c.toNat-48));unfold Lib.parseUint10;rw[if_pos hc,if_neg (by omega),if_neg (by omega),Nat.mul_comm acc 10];exact sw l _ (fun x hx=>hd x (by simp[hx])) hv
theorem Ff{t:Y6}(hne:t≠[])(hd:∀c∈t,ZL c=true)(hv:ZN t<=9223372036854775808):Lib.atoiAll t=if ZN t=9223372036854775808 then .range else .ok (ZN t:Int):=by
 cases t with
 |nil=>exact absurd rfl hne
 |cons c r=>
  have hc:=hd c (by simp);simp only[ZL,decide_eq_true_eq]at hc;rw[Px.mF]at hv⊢;have hp:=sw (c::r) 0 hd hv;simp only[Lib.atoiAll];rw[if_neg (by omega)];unfold Lib.parseMag;rw[if_neg (by simp),hp];simp only
  have h45:¬c.toNat=45:=by omega
  by_cases he:ZM (c::r) 0=9223372036854775808
  · rw[if_pos ⟨h45,by omega⟩,if_pos he]
  rw[if_neg (by omega),if_neg (by omega),if_neg he,if_neg h45]
def DU(sz most:Nat):ZF Nat:=fun ts r=>match ts with
 |[]=>r=.error (sz,4)
 |t::q=>r=if t.kind≠16 then .error (t.pos,4)else if t.text=ZO\/most<ZN t.text then .error (t.pos,3)else .ok (ZN t.text,q)
theorem Te{most:Nat}{q:List Zj}{tt:Y6}(ht:pk sz q=⟨tk,tt,tp⟩)(hk:tk≠16):DU sz most q (.error (Zl sz q,4)):=by
 unfold DU
 cases q with
 |nil=>rfl
 |cons t q=>
  simp only[pk]at ht;subst ht;simp only[Zl];rw[if_pos hk]
theorem JF{t:Y6}(hd:∀c∈t,ZL c=true)(ho:Lx.gD t=false):(ZN t=9223372036854775808↔t=ZO)/\ZN t<=9223372036854775808:=by
 by_cases h:t=ZO
 · subst h;exact⟨⟨fun _=>rfl,fun _=>Px.uD⟩,by rw[Px.uD];omega⟩
 have:=Px.QY hd ho h;exact⟨⟨fun e=>by omega,fun e=>absurd e h⟩,by omega⟩
theorem Cx.tok{ts:List Zj}{t:Zj}{q:List Zj}(h:Cx w B lv ts sz (t::q) dp):Lx.Gb t/\Zk t/\t.pos<=2000/\t.text.length<=2000:=by
 obtain⟨k,h1,h2⟩:=h;exact h2.toks t (ZP (by rw[<-h1];simp))
theorem Cx.env{ts:List Zj}{q:List Zj}(h:Cx w B lv ts sz q dp):jJ w:=by
 obtain⟨k,h1,h2⟩:=h;exact h2.env
theorem mY(w:Y4)(B:Nat)(lv:Y3)(ts:List Zj)(sz:Nat)(q:List Zj)(dp:Bool)(h:Cx w B lv ts sz q dp)(most:Nat)(hm:most<=9223372036854775807):
   aaT Zc 130 #[Ym (Y2 ⟨B,0,Y1⟩),Yg Yh (most:Int)] w (aj w B lv ts sz dp (DU sz most) q SQ dM):=by
 rcases ht:pk sz q with⟨tk,tt,tp⟩;by_cases hk:tk=16
 · obtain⟨q',rfl⟩:=xm ht (by omega);have HX:=hd h;have HK:=hd hk;obtain⟨hok,_,_,hlen⟩:=h.tok;obtain⟨hne,hdig,hov⟩:=hok.digs hk;simp only at hne hdig hov hlen;obtain⟨htop,hle⟩:=JF hdig hov;have hat:=Ff hne hdig hle
   have hR:DU sz most (⟨tk,tt,tp⟩::q') (if tt=ZO\/most<ZN tt then .error (tp,3)else .ok (ZN tt,q')):=by
    unfold DU;simp only;rw[if_neg (show¬(tk≠16)from fun e=>e hk)]
   have HR:=hd hR
   have hsz:(⟨tt.toArray⟩:ByteArray).size<=2000:=by simpa[ByteArray.size]using hlen
   clear h ht hk hR hok hne hdig hov;go_enter ZQ,ZR;go_wp2_with fail;refine(ru w B lv ts sz tk tt tp q' dp HX.o 16 HK.o).mono ?_;rintro x w1 ⟨rfl,hx,hg⟩;have HX1:=hd (hx.below ((Zh _ _).alloc (nlr _) (Yk #[Yg Yh (tk:Int),Yi ⟨tt.toArray⟩,Yg Yh (tp:Int)] 146)));have HG1:=hd (vM hg (Yk #[Yg Yh (tk:Int),Yi ⟨tt.toArray⟩,Yg Yh (tp:Int)] 146));have KN:=ae.new w1 #[Yg Yh (tk:Int),Yi ⟨tt.toArray⟩,Yg Yh (tp:Int)] 146;have HKN:=hd KN;clear hx hg KN;unfold jO;simp only;by_cases he:ZN tt=9223372036854775808
   · rw[if_pos he]at hat;obtain⟨te,pe,Rx⟩:=HX1.o.env.rng;have HA:=hd ((Tryz.strconv_Atoi_range ⟨tt.toArray⟩ (by omega) hat _ _ Rx (.inr ⟨te,pe,rfl⟩)));clear hat Rx;go_wp2_with fail;refine HA.o.mono ?_;rintro x w2 ⟨N,rfl,hN,_,hb⟩;have KN2:=HKN.o.below hb (by simp);have n2:w2.cell? ⟨w1.heap.size,2,Y1⟩=Y2 (Yg Yh (tp:Int)):=KN2.cell 2;have HB:=hd hb;go_wp2_with fail;refine(je _ _ tp 3).mono ?_;rintro x w3 ⟨rfl,rfl⟩;exact⟨rfl,aj.err (aI HG1.o (Y9 HB.o)) (by have:=HR.o;rwa [if_pos (.inl (htop.1 he))]at this)⟩
   rw[if_neg he]at hat;have HA:=hd ((Tryz.strconv_Atoi_ok ⟨tt.toArray⟩ (by omega) _ hat (w1.alloc (Yk #[Yg Yh (tk:Int),Yi ⟨tt.toArray⟩,Yg Yh (tp:Int)] 146))))
   have hlt:ZN tt<9223372036854775808:=by omega
   go_wp2_with fail;refine HA.o.mono ?_;rintro x w2 ⟨rfl,hw⟩
   have hb:aaS (w1.alloc (Yk #[Yg Yh (tk:Int),Yi ⟨tt.toArray⟩,Yg Yh (tp:Int)] 146)).heap.size (w1.alloc (Yk #[Yg Yh (tk:Int),Yi ⟨tt.toArray⟩,Yg Yh (tp:Int)] 146)) w2:=by
    rcases hw with rfl|⟨t,rfl⟩
    · exact Zh _ _
    exact Lib.bytesWorld_below _ _ _
   have KN2:=HKN.o.below hb (by simp);have n2:w2.cell? ⟨w1.heap.size,2,Y1⟩=Y2 (Yg Yh (tp:Int)):=KN2.cell 2;have HB:=hd hb;generalize ZN tt=n at*;by_cases hgt:most<n
   · have Wd:(most:Int)<(n:Int):=by omega
     go_wp2_with fail;refine(je _ _ tp 3).mono ?_;rintro x w3 ⟨rfl,rfl⟩;exact⟨rfl,aj.err (aI HG1.o (Y9 HB.o)) (by have:=HR.o;rwa [if_pos (.inr hgt)]at this)⟩
   have Wd:¬(most:Int)<(n:Int):=by omega
   go_wp2_with fail;go_ret;exact aj.ok (aI HG1.o (Y9 HB.o)) (by have:=HR.o;rwa [if_neg (by rintro(e|e);exact he (htop.2 e);exact hgt e)]at this) rfl (HX1.o.below HB.o)
 have HX:=hd h;have HN:=hd (Te (most:=most) ht hk);go_enter ZQ,ZR;go_wp2_with fail;refine(A8 w B lv ts sz q dp HX.o tk tt tp ht 16 hk).mono ?_;rintro x w1 ⟨rfl,hb⟩;exact⟨rfl,aj.err (Y9 hb) HN.o⟩
def Sq(x:Nat×Y6×Nat):Y3:=Yj #[Yg Yh (x.2.2:Int),Yi ⟨x.2.1.toArray⟩,Yg Yh (x.1:Int)]
def RY(k:Nat):Nat×Y6×Nat:=Px.cu.getD k (0,[],0)
theorem OQ(k:Nat)(h:k<14)(w:Y4):(Instr.index 409 (.agg (iT Zi).toArray) (Yg Yh (k:Int))).run Zc w=.ok (Sq (RY k)) w:=by
 have:k=0\/k=1\/k=2\/k=3\/k=4\/k=5\/k=6\/k=7\/k=8\/k=9\/k=10\/k=11\/k=12\/k=13:=by omega
 rcases this with rfl|rfl|rfl|rfl|rfl|rfl|rfl|rfl|rfl|rfl|rfl|rfl|rfl|rfl
 all_goals(show Sem.run _ _ _=_;kernel_rfl)
theorem RX(k lv:Nat)(s:Y6)(h:k<14):ZT (Px.cu.drop k) lv s=if(RY k).1=lv/\(RY k).2.1=s then(RY k).2.2 else ZT (Px.cu.drop (k+1)) lv s:=by
 rw[YM (show k<Px.cu.length from h)]
 have:Zi[k]'(show k<Px.cu.length from h)=RY k:=by
  unfold RY;rw[List.getD_eq_getElem?_getD,List.getElem?_eq_getElem (show k<Px.cu.length from h)];rfl
 rw[this]
 rfl
theorem QA(k:Nat)(h:k<14):(RY k).2.2≠0/\(RY k).1<=7:=by
 have:k=0\/k=1\/k=2\/k=3\/k=4\/k=5\/k=6\/k=7\/k=8\/k=9\/k=10\/k=11\/k=12\/k=13:=by omega
 rcases this with rfl|rfl|rfl|rfl|rfl|rfl|rfl|rfl|rfl|rfl|rfl|rfl|rfl|rfl<;>decide
theorem oN(s:ByteArray)(lv:Nat)(w:Y4)(he:jJ w)(hl:lv<=9):
   aaT Zc 304 #[.string s,Yg Yh (lv:Int)] w fun e w'=>e=Yl (Yn #[Yg Yh ((ZT Zi lv s.data.toList:Nat):Int),.bool (decide (ZT Zi lv s.data.toList≠0))])/\aaS w.heap.size w w':=by
 obtain⟨ty,fr,hg⟩:=he.ops;have HG:=hd hg;go_enter Tryz.func304,Tryz.ntmps304;go_wp2_with(refine wpList_load_row rfl 409 _ rfl 7 rfl ty _ fr _ HG.o Tryz.underlying409 rfl (by kernel_rfl) ?_);go_loopw [9] (fun i wr=>∃k:Nat,k<=14/\i=Yg Yh k/\Yf (ZT Zi lv s.data.toList=ZT (Px.cu.drop k) lv s.data.toList)/\Yf (aaS w.heap.size w wr)) (fun i _=>14-(intOf i).toNat)
 case atStart=>exact⟨0,by omega,rfl,rfl,Zh _ _⟩
 case round=>
  obtain⟨k,hk,rfl,HK,HW⟩:=hrel;by_cases hlt:k<14
  · have hix:=OQ k hlt;have HS:=hd (RX k lv s.data.toList hlt);have HP:=hd (QA k hlt);have hws:=HW.o.size;generalize RY k=o at*;obtain⟨ol,os,ok⟩:=o;unfold Sq at hix;dsimp only at hix HS HP;obtain⟨u,hu⟩:∃u:ByteArray,u=⟨os.toArray⟩:=⟨_,rfl⟩
    have HU:Yf (u.data.toList=os):=by rw[hu];show _=_;simp
    rw[<-hu]at hix;clear hu
    have HOS:Yf (u.toList=s.toList↔os=s.data.toList):=by show _↔_;rw[Lib.toList_data,Lib.toList_data,HU.o]
    by_cases hs:u.toList=s.toList
    · have HE:=hd (HOS.o.1 hs)
      have hs':(u.toList==s.toList)=true:=by simp[hs]
      by_cases hol:ol=lv
      · have HF:Yf (ZT Zi lv s.data.toList=ok):=by show _=_;rw[HK.o,HS.o,if_pos ⟨hol,HE.o⟩]
        have XH:((ol:Int)==(lv:Int))=true:=by simp[hol]
        go_wp2
        go_ret2
        refine⟨?_,HW.o.alloc hws _⟩;rw[HF.o];simp[HP.o.1]
      have HF:Yf (ZT Zi lv s.data.toList=ZT (Px.cu.drop (k+1)) lv s.data.toList):=by show _=_;rw[HK.o,HS.o,if_neg (fun e=>hol e.1)]
      have XH:((ol:Int)==(lv:Int))=false:=by rw[beq_eq_false_iff_ne];omega
      go_wp2;go_roundw
      case rel=>exact⟨k+1,by omega,by go_num,HF,HW.o.alloc hws _⟩
      case measure=>simp[intOf];omega
    have HF:Yf (ZT Zi lv s.data.toList=ZT (Px.cu.drop (k+1)) lv s.data.toList):=by show _=_;rw[HK.o,HS.o,if_neg (fun e=>hs (HOS.o.2 e.2))]
    have hs':(u.toList==s.toList)=false:=by rw[beq_eq_false_iff_ne];exact hs
    go_wp2;go_roundw
    case rel=>exact⟨k+1,by omega,by go_num,HF,HW.o.alloc hws _⟩
    case measure=>simp[intOf];omega
  have HF:Yf (ZT Zi lv s.data.toList=0):=by show _=_;rw[HK.o,YN (by show 14<=k;omega)];rfl
  go_wp2
  go_ret2
  refine⟨?_,HW.o⟩;rw[HF.o]
  rfl
def ev:ZU->Y3
 |.null=>Yo 290 (Yj #[])
 |.bool b=>Yo 285 (Yj #[.bool b])
 |.num z=>Yo 287 (Yj #[Yg Yh z])
 |.str s=>Yo 289 (Yj #[Yi ⟨s.toArray⟩])
 |.nm s=>Yo 271 (Yj #[Yi ⟨s.toArray⟩])
 |.un k e=>Yo 292 (Yj #[Yg Yh (k:Int),ev e])
 |.bin k a b=>Yo 294 (Yj #[Yg Yh (k:Int),ev a,ev b])
theorem VF(a b:Y3)(w:Y4):(ZV (Yo 292 (Yj #[a,b])) 98 292 true).run Zc w=.ok (Yn #[Yj #[a,b],.bool true]) w:=by kernel_rfl
theorem Oe(a b c:Y3)(w:Y4):(ZV (Yo 294 (Yj #[a,b,c])) 98 294 true).run Zc w=.ok (Yn #[Yj #[a,b,c],.bool true]) w:=by kernel_rfl
theorem OY(a b c:Y3)(w:Y4):(ZV (Yo 294 (Yj #[a,b,c])) 98 292 true).run Zc w=.ok (Yn #[Yj #[Yg Yh 0,Yq],.bool false]) w:=by kernel_rfl
theorem Qu(t:Nat)(v:Y3)(ht:t=290\/t=285\/t=287\/t=289\/t=271)(w:Y4):(ZV (Yo t v) 98 292 true).run Zc w=.ok (Yn #[Yj #[Yg Yh 0,Yq],.bool false]) w:=by
 rcases ht with rfl|rfl|rfl|rfl|rfl
 all_goals(show Sem.run _ _ _=_;kernel_rfl)
theorem PU(t:Nat)(v:Y3)(ht:t=290\/t=285\/t=287\/t=289\/t=271)(w:Y4):(ZV (Yo t v) 98 294 true).run Zc w=.ok (Yn #[Yj #[Yg Yh 0,Yq,Yq],.bool false]) w:=by
 rcases ht with rfl|rfl|rfl|rfl|rfl
 all_goals(show Sem.run _ _ _=_;kernel_rfl)
def JI(e:ZU)(v:Y3)(_:Y4):Prop:=v=ev e
def jE(sz m:Nat):ZF ZU:=fun ts r=>ZW sz m [] ts (ZX Px.E.nodes r)/\∀e q,r=.ok (e,q)->e.ok 2000/\e.size+q.length<=ts.length
theorem gN{ts q:List Zj}{e:ZU}(hm:m<10)(h:ZW sz m [] ts (.ok (e.nodes,q)))(ho:e.ok 2000):jE sz m ts (.ok (e,q)):=by
 refine⟨h,fun e' q' he=> ?_⟩
 cases he
 refine⟨ho,?_⟩;have:=(Px.Ex.len hm h).2
 rwa [Px.E.eB]at this
theorem fB{ts:List Zj}(h:ZW sz m [] ts (.error (p,c))):jE sz m ts (.error (p,c)):=⟨h,fun e q he=>by cases he⟩
theorem jc(e:ZU):∃t x,ev e=Yo t x:=by cases e<;>exact⟨_,_,rfl⟩
theorem Nq(a:Y3)(w:Y4):(ZV (Yo 287 (Yj #[a])) 98 287 true).run Zc w=.ok (Yn #[Yj #[a],.bool true]) w:=by kernel_rfl
theorem RP(e:ZU)(h:e.isNum=false)(w:Y4):(ZV (ev e) 98 287 true).run Zc w=.ok (Yn #[Yj #[Yg Yh 0],.bool false]) w:=by
 cases e with
 |num z=>simp[Px.E.isNum]at h
 |_=>unfold ev;show Sem.run _ _ _=_;kernel_rfl
theorem Kg(w:Y4)(v:Y3)(p:Nat)(z:Int)(h1: -9223372036854775808<z)(h2:z<=9223372036854775807):
   aaT Zc 337 #[v,Yg Yh (p:Int),Yo 287 (Yj #[Yg Yh z])] w fun x w'=>x=Yl (Yo 287 (Yj #[Yg Yh (-z)]))/\aaS w.heap.size w w':=by
 have hn:=Nq (Yg Yh z)
 have h3:(z==(-9223372036854775808:Int))=false:=by rw[beq_eq_false_iff_ne];omega
 go_enter ZY,ZZ;go_wp2_with fail;go_ret;refine⟨rfl,(Zh _ _).alloc (nlr _) _⟩
theorem Lv(w:Y4)(v:Y3)(p:Nat):
   aaT Zc 337 #[v,Yg Yh (p:Int),Yo 287 (Yj #[Yg Yh (-9223372036854775808)])] w fun x w'=>x=lL p 3/\aaS w.heap.size w w':=by
 have hn:=Nq (Yg Yh (-9223372036854775808));go_enter ZY,ZZ;go_wp2_with fail;refine(je _ _ p 3).mono ?_;rintro x w1 ⟨rfl,rfl⟩;exact⟨rfl,rfl,(Zh _ _).alloc (nlr _) _⟩
theorem KZ(w:Y4)(v:Y3)(p:Nat)(e:ZU)(he:e.isNum=false):
   aaT Zc 337 #[v,Yg Yh (p:Int),ev e] w fun x w'=>x=Yl (ev (.un 19 e))/\aaS w.heap.size w w':=by
 have hn:=RP e he;have hev:ev (.un 19 e)=Yo 292 (Yj #[Yg Yh 19,ev e]):=rfl;obtain⟨t,y,hy⟩:=jc e;rw[hev];rw[hy]at hn⊢;clear hev hy he;go_enter ZY,ZZ;go_wp2_with fail;go_ret;exact⟨rfl,(Zh _ _).alloc (nlr _) _⟩
theorem bV(s:ByteArray)(w:Y4)(B:Nat)(lv:Y3)(ts:List Zj)(sz:Nat)(q:List Zj)(dp:Bool)(h:Cx w B lv ts sz q dp)(hne:s.data.toList≠[]):
   aaT Zc 56 #[Ym (Y2 ⟨B,0,Y1⟩),Yp (Y2 ⟨w.heap.size,0,Y1⟩) 1 1] (w.alloc (Yk #[.string s] 9)) (aj w B lv ts sz dp (ZG sz s.data.toList) q MS dM):=by
 refine(Dk s _ B w.heap.size lv ts sz q dp (h.below ((Zh _ _).alloc (nlr _) _)) hne ((ae.new w #[.string s] 9).cell 0)).mono ?_;rintro x w' ⟨hg,hr⟩;exact⟨aI (Y9 ((Zh _ _).alloc (nlr _) _)) (by simpa using hg),hr⟩
section
section
variable (B:Nat)(lv:Y3)(ts:List Zj)(sz:Nat)(dp:Bool)
def nQ(m n:Nat):Prop:=∀(w:Y4) (q:List Zj),q.length<=n->Cx w B lv ts sz q dp->aaT Zc 236 #[Ym (Y2 ⟨B,0,Y1⟩),Yg Yh (m:Int)] w (aj w B lv ts sz dp (jE sz m) q JI dM)
end
theorem yf{tt:Y6}{q:List Zj}{r:ZE Nat}(ht:ZN tt<=9223372036854775808)(htop:ZN tt=9223372036854775808↔tt=ZO)(h:DU sz 9223372036854775807 (⟨16,tt,tp⟩::q) r):jE sz 9 (⟨16,tt,tp⟩::q) (ZX (fun n:Nat=>Px.E.num n) r):=by
 unfold DU at h;simp only at h;rw[if_neg (by simp)]at h;by_cases he:tt=ZO
 · rw[if_pos (.inl he)]at h;subst h;refine fB (Px.Ex.atom rfl ?_);simp only[Z0];rw[if_pos trivial,if_pos he]
 have:ZN tt≠9223372036854775808:=fun e=>he (htop.1 e)
 rw[if_neg (by rintro(e|e);exact he e;omega)]at h;subst h;refine gN (by omega) (Px.Ex.atom rfl ?_) ?_
 · simp only[Z0];rw[if_pos trivial,if_neg he]
   rfl
 simp only[Px.E.ok];omega
theorem Iy{tt:Y6}{q:List Zj}(hl:tt.length<=2000):jE sz 9 (⟨17,tt,tp⟩::q) (.ok (.str tt,q)):=gN (by omega) (Px.Ex.atom rfl rfl) hl
theorem vU{tt:Y6}{q:List Zj}{r:ZE Y6}(h:ZH sz (⟨18,tt,tp⟩::q) r):jE sz 9 (⟨18,tt,tp⟩::q) (ZX Px.E.nm r):=by
 unfold ZH at h;simp only[ZI]at h;rw[if_neg (by simp)]at h;by_cases hl:30<tt.length
 · rw[if_pos hl]at h
   cases h
   refine fB (Px.Ex.atom rfl ?_);simp only[Z0];rw[if_neg (by decide),if_neg (by decide),if_pos trivial,if_pos hl]
 rw[if_neg hl]at h
 cases h
 refine gN (by omega) (Px.Ex.atom rfl ?_) (by show tt.length<=30;omega);simp only[Z0];rw[if_neg (by decide),if_neg (by decide),if_pos trivial,if_neg hl]
 rfl
theorem qX{q:List Zj}(hs:∀t∈q,Zk t){s:Y6}{e:ZU}(h:Zm s q=true)(hk:(s=Px.gW/\e=.bool true)\/(s=Px.dK/\e=.bool false)\/(s=Z4/\e=.null)):jE sz 9 q (.ok (e,q.tail)):=by
 obtain⟨t,r,rfl⟩:=Px.uQ h
 have hkey:Lx.hasB Y7 s=true:=by rcases hk with⟨rfl,_⟩|⟨rfl,_⟩|⟨rfl,_⟩<;>decide
 obtain⟨h1,h2⟩:=(Px.Eu hkey (hs t (by simp))).1 h;obtain⟨tk,tt,tp⟩:=t;simp only at h1 h2;subst h1 h2;rcases hk with⟨rfl,rfl⟩|⟨rfl,rfl⟩|⟨rfl,rfl⟩
 · exact gN (by omega) (Px.Ex.atom rfl rfl) trivial
 · exact gN (by omega) (Px.Ex.atom rfl rfl) trivial
 exact gN (by omega) (Px.Ex.atom rfl rfl) trivial
theorem Gf{q:List Zj}(h16:(pk sz q).kind≠16)(h17:(pk sz q).kind≠17)(h18:(pk sz q).kind≠18)(h1:Zm Px.gW q=false)(h2:Zm Px.dK q=false)(h3:Zm Z4 q=false)(h4:Zm Px.oO q=false):jE sz 9 q (.error (Zl sz q,4)):=by
 refine fB (Px.Ex.atom h4 ?_)
 cases q with
 |nil=>rfl
 |cons t r=>
  simp only[pk]at h16 h17 h18;simp only[Z0,Zl];rw[if_neg h16,if_neg h17,if_neg h18]
  split
  · rename_i h50
    have K:∀s,Zm s (t::r)=false->t.text≠s:=by
     intro s hs e;simp[Zm,h50,e]at hs
    rw[if_neg (K _ h3),if_neg (K _ h1),if_neg (K _ h2)]
  rfl
theorem qJ{q:List Zj}(h:Zm Px.oO q=true){r:ZE ZU}(h1:jE sz 1 q.tail r){r':ZE ZU}(h2:Z5 r (fun e p s=>Px.Rg.seq (ZG sz Px.kJ) (fun _=>Px.Rg.ret e) p s) r'):jE sz 9 q r':=by
 match r,h1,h2 with
 |.error (p,c),h1,h2=>
  simp only[Z5]at h2;subst h2;exact fB (Px.Ex.Ve h h1.1 rfl)
 |.ok (e,p),h1,h2=>
  simp only[Z5]at h2;rcases Z6 h2 with⟨⟨p1,c1⟩,h3,rfl⟩|⟨_,p',h3,h4⟩
  · rcases Z7 h3 with⟨_,h5⟩|⟨h5,h6⟩
    · cases h5
    cases h6
    refine fB (Px.Ex.Ve h h1.1 ?_);show _=_;rw[if_neg (by simp[h5])]
  cases h4
  rcases Z7 h3 with⟨h5,h6⟩|⟨_,h5⟩
  · cases h6
    refine gN (by omega) (Px.Ex.Ve h h1.1 ?_) (h1.2 _ _ rfl).1;show _=_;rw[if_pos h5]
  cases h5
theorem Cx.Ya{ts:List Zj}{q:List Zj}(h:Cx w B lv ts sz q dp):∀t∈q,Zk t:=by
 obtain⟨k,rfl,h2⟩:=h;intro t ht;exact(h2.toks t (ZP ht)).2.1
theorem BO(B:Nat)(lv:Y3)(ts:List Zj)(sz:Nat)(dp:Bool)(w:Y4)(q:List Zj)(tk:Nat)(tt:Y6)(tp:Nat)(hk:tk=16\/tk=17\/tk=18)(h:Cx w B lv ts sz (⟨tk,tt,tp⟩::q) dp):
   aaT Zc 336 #[Ym (Y2 ⟨B,0,Y1⟩)] w (aj w B lv ts sz dp (jE sz 9) (⟨tk,tt,tp⟩::q) JI dM):=by
 have hf0:=UT;have hf1:=Wh;rcases hk with rfl|rfl|rfl
 · obtain⟨hok,_,_,hlen⟩:=h.tok;obtain⟨hne,hdig,hov⟩:=hok.digs rfl;simp only at hne hdig hov hlen;have HT:=hd (JF hdig hov);have HX:=hd h;go_enter Z8,Z9;go_wp2_with fail;refine(cK w B lv ts sz _ dp HX.o).mono ?_;rintro x w1 ⟨rfl,hb⟩;have HX1:=hd (HX.o.below hb);have HB:=hd hb;unfold jO pk;simp only;go_wp2_with fail;refine(mY w1 B lv ts sz _ dp HX1.o 9223372036854775807 (by omega)).mono ?_;rintro x w2 ho;obtain⟨hg,⟨p,c,hr,rfl⟩|⟨n,q',v,hr,rfl,hv,hx⟩⟩:=ho.cases
   · exact⟨rfl,aj.err (aI (Y9 HB.o) hg) (yf HT.o.2 HT.o.1 hr)⟩
   cases hv
   have HR:=hd (yf HT.o.2 HT.o.1 hr);go_wp2_with fail;go_ret;exact aj.ok (aI (Y9 HB.o) hg) HR.o rfl hx
 · have hlen:=h.tok.2.2.2;simp only at hlen;have HX:=hd h;go_enter Z8,Z9;go_wp2_with fail;refine(cK w B lv ts sz _ dp HX.o).mono ?_;rintro x w1 ⟨rfl,hb⟩;have HX1:=hd (HX.o.below hb);have HB:=hd hb;unfold jO pk;simp only;go_wp2_with fail;refine(ru w1 B lv ts sz 17 tt tp q dp HX1.o 17 rfl).mono ?_;rintro x w2 ⟨rfl,hx,hg⟩;unfold jO;simp only;go_wp2_with fail;go_ret;exact aj.ok (aI (Y9 HB.o) hg) (Iy hlen) rfl hx
 have HX:=hd h;go_enter Z8,Z9;go_wp2_with fail;refine(cK w B lv ts sz _ dp HX.o).mono ?_;rintro x w1 ⟨rfl,hb⟩;have HX1:=hd (HX.o.below hb);have HB:=hd hb;unfold jO pk;simp only;go_wp2_with fail;refine(eD w1 B lv ts sz _ dp HX1.o).mono ?_;rintro x w2 ho;obtain⟨hg,⟨p,c,hr,rfl⟩|⟨n,q',v,hr,rfl,hv,hx⟩⟩:=ho.cases
 · exact⟨rfl,aj.err (aI (Y9 HB.o) hg) (vU hr)⟩
 cases hv
 have HR:=hd (vU hr);go_wp2_with fail;go_ret;exact aj.ok (aI (Y9 HB.o) hg) HR.o rfl hx
theorem zZ(B:Nat)(lv:Y3)(ts:List Zj)(sz:Nat)(dp:Bool)(w:Y4)(q:List Zj)(tk:Nat)(tt:Y6)(tp:Nat)(ht:pk sz q=⟨tk,tt,tp⟩)(h16:tk≠16)(h17:tk≠17)(h18:tk≠18)(h:Cx w B lv ts sz q dp)
   (ih:∀n,n<q.length->nQ B lv ts sz dp 1 n):
   aaT Zc 336 #[Ym (Y2 ⟨B,0,Y1⟩)] w (aj w B lv ts sz dp (jE sz 9) q JI dM):=by
 have hf0:=UT;have HX:=hd h;have HT:=hd ht;have HS:=hd h.Ya;have HI:=hd ih
 have e16:((tk:Int)==16)=false:=by rw[beq_eq_false_iff_ne];omega
 have e17:((tk:Int)==17)=false:=by rw[beq_eq_false_iff_ne];omega
 have e18:((tk:Int)==18)=false:=by rw[beq_eq_false_iff_ne];omega
 go_enter Z8,Z9;go_wp2_with fail;refine(cK w B lv ts sz _ dp HX.o).mono ?_;rintro x w1 ⟨rfl,hb⟩;have HX1:=hd (HX.o.below hb);have HB:=hd (Y9 (row:=Y2 B) hb);rw[HT.o];unfold jO;simp only
 cases hs1:Zm Px.gW q with
 |true=>
  go_wp2_with fail;refine(uh ⟨#[84,82,85,69]⟩ w1 B lv ts sz q dp HX1.o hs1 (by simp)).mono ?_;rintro x w2 ⟨rfl,hx,hg⟩;go_wp2_with fail;go_ret;exact aj.ok (aI HB.o hg) (qX HS.o hs1 (.inl ⟨rfl,rfl⟩)) rfl hx
 |false=>
  go_wp2_with fail;refine(dZ ⟨#[84,82,85,69]⟩ w1 B lv ts sz q dp HX1.o hs1 (by simp)).mono ?_;rintro x w2 ⟨rfl,hb2⟩;have HX2:=hd (HX1.o.below hb2);have HB2:=hd (aI HB.o (Y9 (row:=Y2 B) hb2))
  cases hs2:Zm Px.dK q with
  |true=>
   go_wp2_with fail;refine(uh ⟨#[70,65,76,83,69]⟩ w2 B lv ts sz q dp HX2.o hs2 (by simp)).mono ?_;rintro x w3 ⟨rfl,hx,hg⟩;go_wp2_with fail;go_ret;exact aj.ok (aI HB2.o hg) (qX HS.o hs2 (.inr (.inl ⟨rfl,rfl⟩))) rfl hx
  |false=>
   go_wp2_with fail;refine(dZ ⟨#[70,65,76,83,69]⟩ w2 B lv ts sz q dp HX2.o hs2 (by simp)).mono ?_;rintro x w3 ⟨rfl,hb3⟩;have HX3:=hd (HX2.o.below hb3);have HB3:=hd (aI HB2.o (Y9 (row:=Y2 B) hb3))
   cases hs3:Zm Z4 q with
   |true=>
    go_wp2_with fail;refine(uh ⟨#[78,85,76,76]⟩ w3 B lv ts sz q dp HX3.o hs3 (by simp)).mono ?_;rintro x w4 ⟨rfl,hx,hg⟩;go_wp2_with fail;go_ret;exact aj.ok (aI HB3.o hg) (qX HS.o hs3 (.inr (.inr ⟨rfl,rfl⟩))) rfl hx
   |false=>
    go_wp2_with fail;refine(dZ ⟨#[78,85,76,76]⟩ w3 B lv ts sz q dp HX3.o hs3 (by simp)).mono ?_;rintro x w4 ⟨rfl,hb4⟩;have HX4:=hd (HX3.o.below hb4);have HB4:=hd (aI HB3.o (Y9 (row:=Y2 B) hb4));go_wp2_with fail;refine(bV ⟨#[40]⟩ w4 B lv ts sz q dp HX4.o (by simp)).mono ?_;rintro x w5 ho;obtain⟨hg5,⟨p,c,hr,rfl⟩|⟨_,q5,v,hr,rfl,hv,hx5⟩⟩:=ho.cases
    · refine⟨rfl,aj.err (aI HB4.o hg5) ?_⟩;rcases Z7 hr with⟨_,h6⟩|⟨h6,h7⟩
      · cases h6
      cases h7
      exact Gf (by rw[HT.o];exact h16) (by rw[HT.o];exact h17) (by rw[HT.o];exact h18) hs1 hs2 hs3 h6
    cases hv
    have hopen:Zm Px.oO q=true/\q5=q.tail:=by
     rcases Z7 hr with⟨h6,h7⟩|⟨_,h6⟩
     · cases h7;exact⟨h6,rfl⟩
     cases h6
    obtain⟨hop,rfl⟩:=hopen;have HO:=hd hop;have HX5:=hd hx5;have HB5:=hd (aI HB4.o hg5);have hlen:=aaa hop;go_wp2_with fail;refine(HI.o q.tail.length (by omega) w5 q.tail (nlr _) HX5.o).mono ?_;rintro x w6 ho;obtain⟨hg6,⟨p,c,hr,rfl⟩|⟨e,q6,v,hr,rfl,hv,hx6⟩⟩:=ho.cases
    · exact⟨rfl,aj.err (aI HB5.o hg6) (qJ HO.o hr rfl)⟩
    cases hv
    have HR6:=hd hr;have HX6:=hd (hx6);have HB6:=hd (aI HB5.o hg6);obtain⟨et,ex,hev⟩:=jc e;have HEV:=hd hev;rw[hev];go_wp2_with fail;refine(bV ⟨#[41]⟩ w6 B lv ts sz q6 dp HX6.o (by simp)).mono ?_;rintro x w7 ho;obtain⟨hg7,⟨p,c,hr,rfl⟩|⟨_,q7,v,hr,rfl,hv,hx7⟩⟩:=ho.cases
    · exact⟨rfl,aj.err (aI HB6.o hg7) (qJ HO.o HR6.o (Px.Rg.err hr))⟩
    cases hv
    have HR7:=hd hr;go_wp2_with fail;go_ret;exact aj.ok (aI HB6.o hg7) (qJ HO.o HR6.o (Px.Rg.go HR7.o rfl)) (by rw[<-HEV.o];rfl) hx7
end
theorem Db(B:Nat)(lv:Y3)(ts:List Zj)(sz:Nat)(dp:Bool)(w:Y4)(q:List Zj)(h:Cx w B lv ts sz q dp)(ih:∀n,n<q.length->nQ B lv ts sz dp 1 n):
   aaT Zc 336 #[Ym (Y2 ⟨B,0,Y1⟩)] w (aj w B lv ts sz dp (jE sz 9) q JI dM):=by
 rcases ht:pk sz q with⟨tk,tt,tp⟩;by_cases hk:tk=16\/tk=17\/tk=18
 · obtain⟨q',rfl⟩:=xm ht (by omega);exact BO B lv ts sz dp w q' tk tt tp hk h
 exact zZ B lv ts sz dp w q tk tt tp ht (by omega) (by omega) (by omega) h ih
theorem Jm{q:List Zj}{r:ZE ZU}(hs:Zm aab q=false)(h:jE sz 9 q r):jE sz 8 q r:=⟨Px.Ex.XV hs h.1,h.2⟩
theorem RV{q q':List Zj}(hs:Zm aab q=true)(ht:q.tail=⟨16,ZO,tp⟩::q'):jE sz 8 q (.ok (.num aac,q')):=by
 refine gN (by omega) ?_ (by simp only[Px.E.ok,aac];omega);have:=Px.Ex.top (sz:=sz) (a:=[]) hs (by rw[ht];rfl);rw[ht]at this;exact this
theorem OC{q:List Zj}{tt:Y6}(ht:pk sz q=⟨tk,tt,tp⟩)(h:¬(tk=16/\tt=ZO)):Px.qH q=false:=by
 cases q with
 |nil=>rfl
 |cons t q=>
  simp only[pk]at ht;subst ht;simp only[Px.qH,Bool.and_eq_false_iff,decide_eq_false_iff_not,beq_eq_false_iff_ne];by_cases h1:tk=16
  · exact .inr fun e=>h ⟨h1,e⟩
  exact .inl h1
theorem Q9{q:List Zj}{r r':ZE ZU}(hs:Zm aab q=true)(ht:Px.qH q.tail=false)(h:jE sz 8 q.tail r)(h':Z5 r (fun e p s=>(∃z,e=.num z/\s=if z=aac then .error (Zl sz q,3)else .ok (.num (-z),p))\/(e.isNum=false/\s=.ok (.un 19 e,p))) r'):jE sz 8 q r':=by
 match r,h,h' with
 |.error (p,c),h,h'=>
  simp only[Z5]at h';subst h';exact fB (Px.Ex.neg hs ht h.1 rfl)
 |.ok (e,p),h,h'=>
  simp only[Z5]at h';have ho:=(h.2 _ _ rfl).1;rcases h' with⟨z,rfl,rfl⟩|⟨hn,rfl⟩
  · by_cases hz:z=aac
    · rw[if_pos hz];refine fB (Px.Ex.neg hs ht h.1 ?_);show Px.negate _ _ _=_;rw[Px.ym,if_pos hz]
    rw[if_neg hz];refine gN (by omega) (Px.Ex.neg hs ht h.1 ?_) ?_
    · show Px.negate _ _ _=_;rw[Px.ym,if_neg hz]
    simp only[Px.E.ok,aac]at*;omega
  refine gN (by omega) (Px.Ex.neg hs ht h.1 ?_) ⟨by omega,by omega,fun _=>hn,ho⟩;exact Px.IJ _ 2000 e _ hn ho
theorem sW(B:Nat)(lv:Y3)(ts:List Zj)(sz:Nat)(dp:Bool)(w:Y4)(q:List Zj)(h:Cx w B lv ts sz q dp)(ih:∀n,n<q.length->nQ B lv ts sz dp 1 n)
   (rec:∀(w:Y4) (q':List Zj),q'.length<q.length->Cx w B lv ts sz q' dp->aaT Zc 303 #[Ym (Y2 ⟨B,0,Y1⟩)] w (aj w B lv ts sz dp (jE sz 8) q' JI dM)):
   aaT Zc 303 #[Ym (Y2 ⟨B,0,Y1⟩)] w (aj w B lv ts sz dp (jE sz 8) q JI dM):=by
 have hf2:=Uh;have HX:=hd h;have HI:=hd ih;have HR:=hd rec;rcases ht:pk sz q with⟨tk,tt,tp⟩;have HT:=hd ht;have HP:=hd (Jn ht)
 cases hs:Zm aab q with
 |false=>
  go_enter aad,aae;go_wp2_with fail;refine(cK w B lv ts sz _ dp HX.o).mono ?_;rintro x w1 ⟨rfl,hb⟩;have HX1:=hd (HX.o.below hb);have HB:=hd (Y9 (row:=Y2 B) hb);rw[HT.o];unfold jO;simp only;go_wp2_with fail;refine(dZ ⟨#[45]⟩ w1 B lv ts sz q dp HX1.o hs (by simp)).mono ?_;rintro x w2 ⟨rfl,hb2⟩;have HX2:=hd (HX1.o.below hb2);have HB2:=hd (aI HB.o (Y9 (row:=Y2 B) hb2));go_wp2_with fail;refine(Db B lv ts sz dp w2 q HX2.o HI.o).mono ?_;rintro x w3 ho;obtain⟨hg,⟨p,c,hr,rfl⟩|⟨e,q',v,hr,rfl,hv,hx⟩⟩:=ho.cases
  · exact⟨rfl,aj.err (aI HB2.o hg) (Jm hs hr)⟩
  have HRR:=hd hr;have HV:=hd hv;obtain⟨et,ex,hev⟩:=jc e
  have hve:v=Yo et ex:=by rw[<-hev];exact hv
  subst hve;go_wp2_with fail;go_ret;exact aj.ok (aI HB2.o hg) (Jm hs HRR.o) HV.o hx
 |true=>
  have hlen:=aaa hs;go_enter aad,aae;go_wp2_with fail;refine(cK w B lv ts sz _ dp HX.o).mono ?_;rintro x w1 ⟨rfl,hb⟩;have HX1:=hd (HX.o.below hb);have HB:=hd (Y9 (row:=Y2 B) hb);rw[HT.o];unfold jO;simp only;go_wp2_with fail;refine(uh ⟨#[45]⟩ w1 B lv ts sz q dp HX1.o hs (by simp)).mono ?_;rintro x w2 ⟨rfl,hx2,hg2⟩;have HX2:=hd hx2;have HB2:=hd (aI HB.o hg2);rcases ht2:pk sz q.tail with⟨uk,ut,up⟩;have HT2:=hd ht2;go_wp2_with fail;refine(cK w2 B lv ts sz _ dp HX2.o).mono ?_;rintro x w3 ⟨rfl,hb3⟩;rw[HT2.o];unfold jO;simp only;have Tv:=hd (HX2.o.below hb3);have WE:=hd (aI HB2.o (Y9 (row:=Y2 B) hb3));have HX3:=hd ((HX2.o.below hb3).below ((Zh _ _).alloc (nlr _) (Yk #[Yg Yh (uk:Int),Yi ⟨ut.toArray⟩,Yg Yh (up:Int)] 146)));have HB3:=hd (vM (aI HB2.o (Y9 (row:=Y2 B) hb3)) (Yk #[Yg Yh (uk:Int),Yi ⟨ut.toArray⟩,Yg Yh (up:Int)] 146));by_cases htop:uk=16/\ut=ZO
  · obtain⟨rfl,rfl⟩:=htop;obtain⟨q',hq'⟩:=xm HT2.o (by omega);obtain⟨k,hk2,hblk⟩:=Tv.o.blk;have HQ:=hd hq';have c1:w3.cell? ⟨B,1,Y1⟩=Y2 (Yg Yh (k:Int)):=hblk.cell 1;have f1:=hblk.free 1;have HBK:=hd hblk;have hlt:=Tv.o.lt
    have d1:¬B=w3.heap.size:=by omega
    have d2:¬w3.heap.size=B:=by omega
    have hte:((⟨Lx.top.toArray⟩:ByteArray).toList==[57,50,50,51,51,55,50,48,51,54,56,53,52,55,55,53,56,48,56])=true:=by rw[Lib.toList_data];rfl
    have HL:=hd (RV (sz:=sz) hs HQ.o)
    have HNX:Yf (Cx ((w3.setCell ⟨B,1,Y1⟩ (Yg Yh ((k:Int)+1))).alloc (Yk #[Yg Yh 16,Yi ⟨Lx.top.toArray⟩,Yg Yh (up:Int)] 146)) B lv ts sz q' dp):=by
     have:=Tv.o.step (dp':=dp) (vM (qI w3 B 1 (Yg Yh ((k:Int)+1))) (Yk #[Yg Yh 16,Yi ⟨Lx.top.toArray⟩,Yg Yh (up:Int)] 146)) (by rw[HQ.o];simp) k c1 ((HBK.o.set 1 _).alloc _);rw[HQ.o]at this;exact this
    have HGX:Yf (w.grownBy ((w3.setCell ⟨B,1,Y1⟩ (Yg Yh ((k:Int)+1))).alloc (Yk #[Yg Yh 16,Yi ⟨Lx.top.toArray⟩,Yg Yh (up:Int)] 146)) (Y2 B)):=vM (aI WE.o (qI w3 B 1 (Yg Yh ((k:Int)+1)))) _;generalize (⟨Lx.top.toArray⟩:ByteArray)=tb at*;go_wp2_with fail;go_ret;exact aj.ok HGX.o HL.o rfl HNX.o
  have HNT:=hd (OC HT2.o htop)
  have VI:((uk:Int)==16)=false\/(((uk:Int)==16)=true/\((⟨ut.toArray⟩:ByteArray).toList==[57,50,50,51,51,55,50,48,51,54,56,53,52,55,55,53,56,48,56])=false):=by
   by_cases h16:uk=16
   · right
     refine⟨by simp[h16],?_⟩;rw[beq_eq_false_iff_ne,Lib.toList_data];intro e;exact htop ⟨h16,e⟩
   left;rw[beq_eq_false_iff_ne];omega
  have FIN:Yf (∀(r:ZE ZU),jE sz 8 q.tail r->∀r',Z5 r (fun e p s=>(∃z,e=.num z/\s=if z=aac then .error (tp,3)else .ok (.num (-z),p))\/(e.isNum=false/\s=.ok (.un 19 e,p))) r'->jE sz 8 q r'):=by
   intro r hr r' hr';refine Q9 hs HNT.o hr ?_;rw[HP.o];exact hr'
  generalize (⟨ut.toArray⟩:ByteArray)=ub at*;rcases VI with h16|⟨h16,hte⟩
  all_goals
   go_wp2_with fail;refine(HR.o _ q.tail (by omega) HX3.o).mono ?_;rintro x w4 ho;obtain⟨hg,⟨p,c,hr,rfl⟩|⟨e,q',v,hr,rfl,hv,hx⟩⟩:=ho.cases
   · exact⟨rfl,aj.err (aI HB3.o hg) (FIN.o _ hr _ rfl)⟩
   have HRR:=hd hr;have HGF:=hd (aI HB3.o hg);have HXF:=hd (hx)
   cases hv
   by_cases Pt:e.isNum=true
   · obtain⟨z,rfl⟩:∃z,e=.num z:=by cases e<;>simp[Px.E.isNum]at Pt;exact⟨_,rfl⟩
     have hz:=(HRR.o.2 _ _ rfl).1;simp only[Px.E.ok]at hz;unfold ev;by_cases SL:z=aac
     · subst SL;go_wp2_with fail;refine(Lv w4 _ tp).mono ?_;rintro x w5 ⟨rfl,hb5⟩;exact⟨rfl,aj.err (aI HGF.o (Y9 hb5)) (FIN.o _ HRR.o _ (.inl ⟨_,rfl,by rw[if_pos rfl]⟩))⟩
     go_wp2_with fail;refine(Kg w4 _ tp z (by unfold aac at SL;omega) hz.2).mono ?_;rintro x w5 ⟨rfl,hb5⟩;have HB5:=hd hb5;go_wp2_with fail;go_ret;exact aj.ok (a:=Px.E.num (-z)) (q':=q') (aI HGF.o (Y9 HB5.o)) (FIN.o _ HRR.o _ (.inl ⟨_,rfl,by rw[if_neg SL]⟩)) rfl (HXF.o.below HB5.o)
   have Pt:e.isNum=false:=by simpa using Pt
   obtain⟨et,ex,hev⟩:=jc e;have HEV:=hd hev;rw[hev];go_wp2_with fail;refine Calls.mono (by have:=KZ w4 (Ym (Y2 ⟨B,0,Y1⟩)) tp e Pt;rw[HEV.o]at this;exact this) ?_;rintro x w5 ⟨rfl,hb5⟩;have HB5:=hd hb5;obtain⟨et2,ex2,U5⟩:=jc (.un 19 e);have Xq:=hd U5;rw[U5];go_wp2_with fail;go_ret;exact aj.ok (a:=Px.E.un 19 e) (q':=q') (aI HGF.o (Y9 HB5.o)) (FIN.o _ HRR.o _ (.inr ⟨Pt,rfl⟩)) (by rw[<-Xq.o];rfl) (HXF.o.below HB5.o)
theorem E5(B:Nat)(lv:Y3)(ts:List Zj)(sz:Nat)(dp:Bool)(N:Nat)(ih:∀n,n<N->nQ B lv ts sz dp 1 n):∀(n:Nat) (w:Y4) (q:List Zj),q.length<=n->n<=N->Cx w B lv ts sz q dp->
   aaT Zc 303 #[Ym (Y2 ⟨B,0,Y1⟩)] w (aj w B lv ts sz dp (jE sz 8) q JI dM):=by
 intro n
 induction n with
 |zero=>intro w q hq hN h;exact sW B lv ts sz dp w q h (fun m hm=>ih m (by omega)) (fun w' q' hq' _=>by omega)
 |succ n ihn=>intro w q hq hN h;exact sW B lv ts sz dp w q h (fun m hm=>ih m (by omega)) (fun w' q' hq' h'=>ihn w' q' (by omega) (by omega) h')
theorem Em(l:Nat):ZT Zi l []=0:=by simp[Zi,ZT,Px.VY,Px.Rj]
theorem FT(l sz:Nat)(q:List Zj):ZT Zi l (uR (pk sz q))=aaf l q:=by
 cases q with
 |nil=>exact Em l
 |cons t q=>
  rw[Px.sD];show ZT Zi l (uR t)=_;unfold uR
  split
  · rfl
  exact Em l
def Ux(sz:Nat):ZF Nat:=fun q r=>if Zm aag q=true then Px.Rg.seq (ZG sz Z4) (fun _=>Px.Rg.ret 22) q.tail r else Px.Rg.seq (ZG sz Z4) (fun _=>Px.Rg.ret 21) q r
theorem Ha(B:Nat)(lv:Y3)(ts:List Zj)(sz:Nat)(dp:Bool)(w:Y4)(q:List Zj)(h:Cx w B lv ts sz q dp):
   aaT Zc 335 #[Ym (Y2 ⟨B,0,Y1⟩)] w (aj w B lv ts sz dp (Ux sz) q SQ dM):=by
 have HX:=hd h
 cases hs:Zm aag q with
 |true=>
  have HR:Yf (∀r,Px.Rg.seq (ZG sz Z4) (fun _=>Px.Rg.ret 22) q.tail r->Ux sz q r):=fun r hr=>by unfold Ux;rw[if_pos hs];exact hr
  go_enter aah,aai;go_wp2_with fail;refine(uh ⟨#[78,79,84]⟩ w B lv ts sz q dp HX.o hs (by simp)).mono ?_;rintro x w2 ⟨rfl,hx,hg⟩;have HX2:=hd hx;have HG2:=hd hg;go_wp2_with fail;refine(bV ⟨#[78,85,76,76]⟩ w2 B lv ts sz q.tail dp HX2.o (by simp)).mono ?_;rintro x w3 ho;obtain⟨hg,⟨p,c,hr,rfl⟩|⟨_,q',v,hr,rfl,hv,hx⟩⟩:=ho.cases
  · exact⟨rfl,aj.err (aI HG2.o hg) (HR.o _ (Px.Rg.err hr))⟩
  cases hv
  have HRR:=hd hr;go_wp2_with fail;go_ret;exact aj.ok (a:=22) (aI HG2.o hg) (HR.o _ (Px.Rg.go HRR.o rfl)) rfl hx
 |false=>
  have HR:Yf (∀r,Px.Rg.seq (ZG sz Z4) (fun _=>Px.Rg.ret 21) q r->Ux sz q r):=fun r hr=>by unfold Ux;rw[if_neg (by simp[hs])];exact hr
  go_enter aah,aai;go_wp2_with fail;refine(dZ ⟨#[78,79,84]⟩ w B lv ts sz q dp HX.o hs (by simp)).mono ?_;rintro x w2 ⟨rfl,hb⟩;have HX2:=hd (HX.o.below hb);have HG2:=hd (Y9 (row:=Y2 B) hb);go_wp2_with fail;refine(bV ⟨#[78,85,76,76]⟩ w2 B lv ts sz q dp HX2.o (by simp)).mono ?_;rintro x w3 ho;obtain⟨hg,⟨p,c,hr,rfl⟩|⟨_,q',v,hr,rfl,hv,hx⟩⟩:=ho.cases
  · exact⟨rfl,aj.err (aI HG2.o hg) (HR.o _ (Px.Rg.err hr))⟩
  cases hv
  have HRR:=hd hr;go_wp2_with fail;go_ret;exact aj.ok (a:=21) (aI HG2.o hg) (HR.o _ (Px.Rg.go HRR.o rfl)) rfl hx
theorem QC{q:List Zj}(h:jE sz 5 q (.error (p,c))):jE sz 4 q (.error (p,c)):=fB (Px.Ex.cmp h.1 rfl)
theorem Qe{q q1:List Zj}{e:ZU}(h:jE sz 5 q (.ok (e,q1)))(hs:Zm aaj q1=false)(ho:aaf 4 q1=0):jE sz 4 q (.ok (e,q1)):=
 gN (by omega) (Px.Ex.cmp h.1 (Px.yI hs ho)) (h.2 _ _ rfl).1
theorem Td{q q1:List Zj}{e:ZU}(h:jE sz 5 q (.ok (e,q1)))(hs:Zm aaj q1=false)(ho:aaf 4 q1≠0){r:ZE ZU}(h2:jE sz 5 q1.tail r):jE sz 4 q (ZX (Px.E.bin (aaf 4 q1) e) r):=by
 match r,h2 with
 |.error (p,c),h2=>exact fB (Px.Ex.cmp h.1 (Px.EI hs ho h2.1 rfl))
 |.ok (b,q2),h2=>
  have hr:=Px.yC ho;exact gN (by omega) (Px.Ex.cmp h.1 (Px.EI hs ho h2.1 rfl)) ⟨hr.1,hr.2,(h.2 _ _ rfl).1,(h2.2 _ _ rfl).1⟩
theorem P7{q q1:List Zj}{e:ZU}(h:jE sz 5 q (.ok (e,q1)))(hs:Zm aaj q1=true){r:ZE Nat}(h2:Ux sz q1.tail r):jE sz 4 q (ZX (fun k=>Px.E.un k e) r):=by
 have ho:=(h.2 _ _ rfl).1;unfold Ux at h2
 split at h2
 · rename_i hn;have ht:=Px.Gp (sz:=sz) (b:=e.nodes) hs hn;rcases Z6 h2 with⟨⟨p,c⟩,h3,rfl⟩|⟨_,q2,h3,h4⟩
   · rcases Z7 h3 with⟨_,h5⟩|⟨h5,h6⟩
     · cases h5
     cases h6
     rw[if_neg (by simp[h5])]at ht;exact fB (Px.Ex.cmp h.1 ht)
   cases h4
   rcases Z7 h3 with⟨h5,h6⟩|⟨_,h5⟩
   · cases h6
     rw[if_pos h5]at ht;exact gN (by omega) (Px.Ex.cmp h.1 ht) ⟨by omega,by omega,by omega,ho⟩
   cases h5
 rename_i hn;have ht:=Px.GD (sz:=sz) (b:=e.nodes) hs (by simpa using hn);rcases Z6 h2 with⟨⟨p,c⟩,h3,rfl⟩|⟨_,q2,h3,h4⟩
 · rcases Z7 h3 with⟨_,h5⟩|⟨h5,h6⟩
   · cases h5
   cases h6
   rw[if_neg (by simp[h5])]at ht;exact fB (Px.Ex.cmp h.1 ht)
 cases h4
 rcases Z7 h3 with⟨h5,h6⟩|⟨_,h5⟩
 · cases h6
   rw[if_pos h5]at ht;exact gN (by omega) (Px.Ex.cmp h.1 ht) ⟨by omega,by omega,by omega,ho⟩
 cases h5
theorem LG(B:Nat)(lv:Y3)(ts:List Zj)(sz:Nat)(dp:Bool)(w:Y4)(q:List Zj)(h:Cx w B lv ts sz q dp)(ih:nQ B lv ts sz dp 5 q.length):
   aaT Zc 302 #[Ym (Y2 ⟨B,0,Y1⟩)] w (aj w B lv ts sz dp (jE sz 4) q JI dM):=by
 have HX:=hd h;have HI:=hd ih;go_enter Tryz.func302,Tryz.ntmps302;go_wp2_with fail;refine(HI.o w q (nlr _) HX.o).mono ?_;rintro x w1 ho;obtain⟨hg,⟨p,c,hr,rfl⟩|⟨e,q1,v,hr,rfl,hv,hx⟩⟩:=ho.cases
 · exact⟨rfl,aj.err hg (QC hr)⟩
 cases hv
 have HR:=hd hr;have HX1:=hd (hx);have HG1:=hd hg;have hlen:=(hr.2 _ _ rfl).2;obtain⟨et,ex,hev⟩:=jc e;have HEV:=hd hev;rw[hev]
 cases hs:Zm aaj q1 with
 |true=>
  go_wp2_with fail;refine(uh ⟨#[73,83]⟩ w1 B lv ts sz q1 dp HX1.o hs (by simp)).mono ?_;rintro x w2 ⟨rfl,hx2,hg2⟩;have HX2:=hd hx2;have HG2:=hd (aI HG1.o hg2);go_wp2_with fail;refine(Ha B lv ts sz dp w2 q1.tail HX2.o).mono ?_;rintro x w3 ho;obtain⟨hg,⟨p,c,hr,rfl⟩|⟨k,q',v,hr,rfl,hv,hx⟩⟩:=ho.cases
  · exact⟨rfl,aj.err (aI HG2.o hg) (P7 HR.o hs hr)⟩
  cases hv
  have HRR:=hd (P7 HR.o hs hr);go_wp2_with fail;go_ret;exact aj.ok (a:=Px.E.un k e) (aI HG2.o hg) HRR.o (by show _=ev _;unfold ev;rw[HEV.o];rfl) hx
 |false=>
  go_wp2_with fail;refine(dZ ⟨#[73,83]⟩ w1 B lv ts sz q1 dp HX1.o hs (by simp)).mono ?_;rintro x w2 ⟨rfl,hb2⟩;have HX2:=hd (HX1.o.below hb2);have HG2:=hd (aI HG1.o (Y9 (row:=Y2 B) hb2));go_wp2_with fail;refine(lM w2 B lv ts sz q1 dp HX2.o).mono ?_;rintro x w3 ⟨rfl,hb3⟩;have HX3:=hd (HX2.o.below hb3);have HG3:=hd (aI HG2.o (Y9 (row:=Y2 B) hb3));go_wp2_with fail;refine(oN ⟨(uR (pk sz q1)).toArray⟩ 4 w3 HX3.o.env (by omega)).mono ?_;rintro x w4 ⟨rfl,hb4⟩;have HX4:=hd (HX3.o.below hb4);have HG4:=hd (aI HG3.o (Y9 (row:=Y2 B) hb4));have hop:=FT 4 sz q1;simp only[hop];by_cases h0:aaf 4 q1=0
  · have HF:=hd (Qe HR.o hs h0);rw[h0];go_wp2_with fail;go_ret;exact aj.ok (a:=e) HG4.o HF.o (by show _=ev _;rw[HEV.o];rfl) HX4.o
  have hdec:decide (aaf 4 q1≠0)=true:=decide_eq_true h0
  have hq1:q1≠[]:=by rintro rfl;exact h0 rfl
  obtain⟨k,hk2,hblk⟩:=HX4.o.blk;have c1:w4.cell? ⟨B,1,Y1⟩=Y2 (Yg Yh (k:Int)):=hblk.cell 1;have f1:=hblk.free 1;have HX5:=hd (HX4.o.step (qI w4 B 1 _) hq1 k c1 (hblk.set 1 _));have HG5:=hd (aI HG4.o (qI w4 B 1 (Yg Yh ((k:Int)+1))))
  have htl:q1.tail.length<=q.length:=by have:=Px.iX q1;have:=e.size_pos;omega
  rw[hdec];have HF:=hd (fun r (hr:jE sz 5 q1.tail r)=>Td HR.o hs h0 hr);generalize aaf 4 q1=ok at*;go_wp2_with fail;refine(HI.o _ q1.tail htl HX5.o).mono ?_;rintro x w6 ho;obtain⟨hg,⟨p,c,hr,rfl⟩|⟨b,q',v,hr,rfl,hv,hx⟩⟩:=ho.cases
  · exact⟨rfl,aj.err (aI HG5.o hg) (HF.o _ hr)⟩
  cases hv
  have HRR:=hd (HF.o _ hr);obtain⟨bt,bx,hev⟩:=jc b;have Uz:=hd hev;rw[hev];go_wp2_with fail;go_ret;exact aj.ok (a:=Px.E.bin ok e b) (aI HG5.o hg) HRR.o (by show _=ev _;unfold ev;rw[HEV.o,Uz.o];rfl) hx
theorem Ke{q:List Zj}{r:ZE ZU}(hs:Zm aag q=false)(h:jE sz 4 q r):jE sz 3 q r:=⟨Px.Ex.XU hs h.1,h.2⟩
theorem JL{q:List Zj}{r:ZE ZU}(hs:Zm aag q=true)(h:jE sz 3 q.tail r):jE sz 3 q (ZX (Px.E.un 20) r):=by
 match r,h with
 |.error (p,c),h=>exact fB (Px.Ex.not hs h.1 rfl)
 |.ok (e,p),h=>exact gN (by omega) (Px.Ex.not hs h.1 rfl) ⟨by omega,by omega,by omega,(h.2 _ _ rfl).1⟩
theorem zm(B:Nat)(lv:Y3)(ts:List Zj)(sz:Nat)(dp:Bool)(w:Y4)(q:List Zj)(h:Cx w B lv ts sz q dp)(ih:nQ B lv ts sz dp 4 q.length)
   (rec:∀(w:Y4) (q':List Zj),q'.length<q.length->Cx w B lv ts sz q' dp->aaT Zc 301 #[Ym (Y2 ⟨B,0,Y1⟩)] w (aj w B lv ts sz dp (jE sz 3) q' JI dM)):
   aaT Zc 301 #[Ym (Y2 ⟨B,0,Y1⟩)] w (aj w B lv ts sz dp (jE sz 3) q JI dM):=by
 have HX:=hd h;have HI:=hd ih;have HR:=hd rec;clear h ih rec
 cases hs:Zm aag q with
 |true=>
  have hlen:=aaa hs;go_enter aak,aal;go_wp2_with fail;refine(uh ⟨#[78,79,84]⟩ w B lv ts sz q dp HX.o hs (by simp)).mono ?_;rintro x w2 ⟨rfl,hx,hg⟩;have HX2:=hd hx;have HG2:=hd hg;clear hx hg;go_wp2_with fail;refine(HR.o w2 q.tail (by omega) HX2.o).mono ?_;rintro x w3 ho;obtain⟨hg,⟨p,c,hr,rfl⟩|⟨e,q',v,hr,rfl,hv,hx⟩⟩:=ho.cases
  · exact⟨rfl,aj.err (aI HG2.o hg) (JL hs hr)⟩
  cases hv
  have HRR:=hd (JL hs hr);obtain⟨et,ex,hev⟩:=jc e;have HEV:=hd hev;rw[hev];clear hr hev;go_wp2_with fail;go_ret;exact aj.ok (a:=Px.E.un 20 e) (aI HG2.o hg) HRR.o (by show _=ev _;unfold ev;rw[HEV.o];rfl) hx
 |false=>
  go_enter aak,aal;go_wp2_with fail;refine(dZ ⟨#[78,79,84]⟩ w B lv ts sz q dp HX.o hs (by simp)).mono ?_;rintro x w2 ⟨rfl,hb⟩;have HX2:=hd (HX.o.below hb);have HG2:=hd (Y9 (row:=Y2 B) hb);clear hb;go_wp2_with fail;refine(HI.o w2 q (nlr _) HX2.o).mono ?_;rintro x w3 ho;obtain⟨hg,⟨p,c,hr,rfl⟩|⟨e,q',v,hr,rfl,hv,hx⟩⟩:=ho.cases
  · exact⟨rfl,aj.err (aI HG2.o hg) (Ke hs hr)⟩
  cases hv
  have HRR:=hd (Ke hs hr);obtain⟨et,ex,hev⟩:=jc e;have HEV:=hd hev;rw[hev];clear hr hev;go_wp2_with fail;go_ret;exact aj.ok (a:=e) (aI HG2.o hg) HRR.o (by show _=ev _;rw[HEV.o];rfl) hx
theorem Mw(B:Nat)(lv:Y3)(ts:List Zj)(sz:Nat)(dp:Bool):∀(n:Nat),nQ B lv ts sz dp 4 n->∀(w:Y4) (q:List Zj),q.length<=n->Cx w B lv ts sz q dp->
   aaT Zc 301 #[Ym (Y2 ⟨B,0,Y1⟩)] w (aj w B lv ts sz dp (jE sz 3) q JI dM):=by
 intro n ih
 have key:∀(k:Nat) (w:Y4) (q:List Zj),q.length<=k->q.length<=n->Cx w B lv ts sz q dp->aaT Zc 301 #[Ym (Y2 ⟨B,0,Y1⟩)] w (aj w B lv ts sz dp (jE sz 3) q JI dM):=by
  intro k
  induction k with
  |zero=>intro w q hq hn h;exact zm B lv ts sz dp w q h (fun w' q' hq' h'=>ih w' q' (by omega) h') (fun w' q' hq' _=>by omega)
  |succ k ihk=>intro w q hq hn h;exact zm B lv ts sz dp w q h (fun w' q' hq' h'=>ih w' q' (by omega) h') (fun w' q' hq' h'=>ihk w' q' (by omega) (by omega) h')
 intro w q hq h;exact key q.length w q (nlr _) hq h
theorem NU(B:Nat)(lv:Y3)(ts:List Zj)(sz:Nat)(dp:Bool)(n:Nat)(ih:nQ B lv ts sz dp 4 n):nQ B lv ts sz dp 3 n:=by
 intro w q hq h;have HC:=hd (Mw B lv ts sz dp n ih w q hq h);clear h ih hq;go_enter aam,aan;go_wp2_with fail;refine HC.o.mono ?_;rintro x w3 ho;obtain⟨hg,⟨p,c,hr,rfl⟩|⟨e,q',v,hr,rfl,hv,hx⟩⟩:=ho.cases
 · exact⟨rfl,aj.err hg hr⟩
 cases hv
 have HRR:=hd hr;obtain⟨et,ex,hev⟩:=jc e;have HEV:=hd hev;rw[hev];clear hr hev;go_wp2_with fail;go_ret;exact aj.ok (a:=e) hg HRR.o (by show _=ev _;rw[HEV.o];rfl) hx
theorem Ow(B:Nat)(lv:Y3)(ts:List Zj)(sz:Nat)(dp:Bool)(n:Nat)(ih:nQ B lv ts sz dp 5 n):nQ B lv ts sz dp 4 n:=by
 intro w q hq h;have HC:=hd (LG B lv ts sz dp w q h (fun w' q' hq' h'=>ih w' q' (by omega) h'));clear h ih hq;go_enter aam,aan;go_wp2_with fail;refine HC.o.mono ?_;rintro x w3 ho;obtain⟨hg,⟨p,c,hr,rfl⟩|⟨e,q',v,hr,rfl,hv,hx⟩⟩:=ho.cases
 · exact⟨rfl,aj.err hg hr⟩
 cases hv
 have HRR:=hd hr;obtain⟨et,ex,hev⟩:=jc e;have HEV:=hd hev;rw[hev];clear hr hev;go_wp2_with fail;go_ret;exact aj.ok (a:=e) hg HRR.o (by show _=ev _;rw[HEV.o];rfl) hx
theorem OT(B:Nat)(lv:Y3)(ts:List Zj)(sz:Nat)(dp:Bool)(n:Nat)(ih:∀k,k<n->nQ B lv ts sz dp 1 k):nQ B lv ts sz dp 8 n:=by
 intro w q hq h;have HC:=hd (E5 B lv ts sz dp n ih n w q hq (nlr _) h);clear h ih hq;go_enter aam,aan;go_wp2_with fail;refine HC.o.mono ?_;rintro x w3 ho;obtain⟨hg,⟨p,c,hr,rfl⟩|⟨e,q',v,hr,rfl,hv,hx⟩⟩:=ho.cases
 · exact⟨rfl,aj.err hg hr⟩
 cases hv
 have HRR:=hd hr;obtain⟨et,ex,hev⟩:=jc e;have HEV:=hd hev;rw[hev];clear hr hev;go_wp2_with fail;go_ret;exact aj.ok (a:=e) hg HRR.o (by show _=ev _;rw[HEV.o];rfl) hx
def xq(w:Y4)(B:Nat):Nat:=match w.cell? ⟨B,1,Y1⟩with
 |some (.int _ z)=>z.toNat
 |_=>0
theorem Cx.xq{ts:List Zj}{q:List Zj}(h:Cx w B lv ts sz q dp):q.length=ts.length-xq w B:=by
 obtain⟨k,rfl,h⟩:=h;unfold Go.Proofs.YthhhfcdakfbpkaaGreatDoor.xq;rw[h.cells.2.1];simp
structure uX(sz m:Nat)(q:List Zj)(e:ZU)(q1:List Zj):Prop where
 ok:e.ok 2000
 len:q1.length<q.length
 goes:∀r,ZW sz (m+10) e.nodes q1 r->ZW sz m [] q r
def gV(m:Nat):Prop:=m=1\/m=2\/m=5\/m=6\/m=7
theorem MO{q:List Zj}(hm:gV m)(h:jE sz (m+1) q (.error (p,c))):jE sz m q (.error (p,c)):=by
 unfold gV at hm;exact fB (Px.Ex.left (by omega) (by omega) (by omega) h.1 rfl)
theorem Ho{q q1:List Zj}{e:ZU}(hm:gV m)(h:jE sz (m+1) q (.ok (e,q1))):uX sz m q e q1:=by
 unfold gV at hm;have h2:=h.2 _ _ rfl;have:=e.size_pos;exact⟨h2.1,by omega,fun r hr=>Px.Ex.left (by omega) (by omega) (by omega) h.1 hr⟩
theorem PW{q q1:List Zj}{e:ZU}(hm:gV m)(h:uX sz m q e q1)(ho:aaf m q1=0):jE sz m q (.ok (e,q1)):=by
 unfold gV at hm;exact gN (by omega) (h.goes _ (Px.Ex.end_ ho)) h.ok
theorem Le{q q1:List Zj}{e:ZU}(h:uX sz m q e q1)(ho:aaf m q1≠0){p c:Nat}(h2:jE sz (m+1) q1.tail (.error (p,c))):jE sz m q (.error (p,c)):=
 fB (h.goes _ (Px.Ex.more ho h2.1 rfl))
theorem Lm{q q1 q2:List Zj}{e b:ZU}(h:uX sz m q e q1)(ho:aaf m q1≠0)(h2:jE sz (m+1) q1.tail (.ok (b,q2))):uX sz m q (.bin (aaf m q1) e b) q2:=by
 have hr:=Px.yC ho;have:=h2.2 _ _ rfl;have:=Px.iX q1;have:=h.len;exact⟨⟨hr.1,hr.2,h.ok,(h2.2 _ _ rfl).1⟩,by omega,fun r hr=>h.goes _ (Px.Ex.more ho h2.1 hr)⟩
theorem eY(B:Nat)(lv:Y3)(ts:List Zj)(sz:Nat)(dp:Bool)(m n:Nat)(hm:gV m)(ih:nQ B lv ts sz dp (m+1) n):nQ B lv ts sz dp m n:=by
 intro w q hq h;have HX:=hd h
 have HI:Yf (∀(w:Y4) (q:List Zj),q.length<=n->Cx w B lv ts sz q dp->aaT Zc 236 #[Ym (Y2 ⟨B,0,Y1⟩),Yg Yh ((m:Int)+1)] w (aj w B lv ts sz dp (jE sz (m+1)) q JI dM)):=fun w q hq hx=>by
  have:=ih w q hq hx
  rwa [show((m+1:Nat):Int)=(m:Int)+1 by omega]at this
 have HM:=hd hm
 have e3:((m:Int)==3)=false:=by rw[beq_eq_false_iff_ne];unfold gV at hm;omega
 have e4:((m:Int)==4)=false:=by rw[beq_eq_false_iff_ne];unfold gV at hm;omega
 have e8:((m:Int)==8)=false:=by rw[beq_eq_false_iff_ne];unfold gV at hm;omega
 have hm9:m<=9:=by unfold gV at hm;omega
 go_enter aam,aan;go_wp2_with fail;refine(HI.o w q hq HX.o).mono ?_;rintro x w1 ho;obtain⟨hg,⟨p,c,hr,rfl⟩|⟨e,q1,v,hr,rfl,hv,hx⟩⟩:=ho.cases
 · exact⟨rfl,aj.err hg (MO HM.o hr)⟩
 cases hv
 have HL:=hd (Ho HM.o hr);have HX1:=hd (hx);have HG1:=hd hg;obtain⟨et,ex,hev⟩:=jc e;have HEV:=hd hev;rw[hev];go_wp2_with fail;go_loopw [5] (fun v wr=>∃(e:ZU) (q1:List Zj),Yf (v=ev e)/\Yf (Cx wr B lv ts sz q1 dp)/\Yf (w.grownBy wr (Y2 B))/\Yf (uX sz m q e q1)) (fun _ wr=>ts.length-xq wr B)
 case atStart=>exact⟨e,q1,HEV.o.symm,HX1,HG1,HL⟩
 case round=>
  obtain⟨e,q1,HEV,HX1,HG1,HL⟩:=hrel;obtain⟨et,ex,hev⟩:=jc e
  have hv:u5=Yo et ex:=by rw[HEV.o,hev]
  subst hv;go_wp2_with fail;refine(lM wr B lv ts sz q1 dp HX1.o).mono ?_;rintro x w3 ⟨rfl,hb3⟩;have HX3:=hd (HX1.o.below hb3);have HG3:=hd (aI HG1.o (Y9 (row:=Y2 B) hb3));go_wp2_with fail;refine(oN ⟨(uR (pk sz q1)).toArray⟩ m w3 HX3.o.env hm9).mono ?_;rintro x w4 ⟨rfl,hb4⟩;have HX4:=hd (HX3.o.below hb4);have HG4:=hd (aI HG3.o (Y9 (row:=Y2 B) hb4));have hop:=FT m sz q1;simp only[hop];by_cases h0:aaf m q1=0
  · have HF:=hd (PW HM.o HL.o h0);rw[h0];go_wp2_with fail;go_ret;exact aj.ok (a:=e) HG4.o HF.o (by show _=ev _;rw[<-HEV.o];rfl) HX4.o
  have hdec:decide (aaf m q1≠0)=true:=decide_eq_true h0
  have hq1:q1≠[]:=by rintro rfl;exact h0 rfl
  obtain⟨k,hk2,hblk⟩:=HX4.o.blk;have c1:w4.cell? ⟨B,1,Y1⟩=Y2 (Yg Yh (k:Int)):=hblk.cell 1;have f1:=hblk.free 1;have HX5:=hd (HX4.o.step (qI w4 B 1 _) hq1 k c1 (hblk.set 1 _));have HG5:=hd (aI HG4.o (qI w4 B 1 (Yg Yh ((k:Int)+1))))
  have htl:q1.tail.length<=n:=by have:=Px.iX q1;have:=HL.o.len;omega
  have htl2:q1.tail.length+1=q1.length:=by cases q1 with
   |nil=>exact absurd rfl hq1
   |cons t r=>simp
  rw[hdec];have HF1:=hd (fun p c (hr:jE sz (m+1) q1.tail (.error (p,c)))=>Le HL.o h0 hr);have HF2:=hd (fun b q2 (hr:jE sz (m+1) q1.tail (.ok (b,q2)))=>Lm HL.o h0 hr);generalize aaf m q1=ok at*;go_wp2_with fail;refine(HI.o _ q1.tail htl HX5.o).mono ?_;rintro x w6 ho;obtain⟨hg,⟨p,c,hr,rfl⟩|⟨b,q',v,hr,rfl,hv,hx⟩⟩:=ho.cases
  · exact⟨rfl,aj.err (aI HG5.o hg) (HF1.o _ _ hr)⟩
  cases hv
  have HRR:=hd (HF2.o _ _ hr);have hlen2:=(hr.2 _ _ rfl).2;obtain⟨bt,bx,hev⟩:=jc b;have Uz:=hd hev;have HX6:=hd (hx);have HG6:=hd (aI HG5.o hg);have hl1:=HX1.o.xq;have hl6:=HX6.o.xq;rw[hev];go_wp2_with fail;go_roundw
  case rel=>exact⟨.bin ok e b,q',(by show _=ev _;unfold ev;rw[<-HEV.o,Uz.o]),HX6,HG6,HRR⟩
  case measure=>have:=b.size_pos;omega
theorem Kl(B:Nat)(lv:Y3)(ts:List Zj)(sz:Nat)(dp:Bool):∀n,nQ B lv ts sz dp 1 n:=by
 have key:∀n,∀k,k<=n->nQ B lv ts sz dp 1 k:=by
  intro n
  induction n with
  |zero=>
   intro k hk;have h8:=OT B lv ts sz dp k (fun j hj=>by omega);have h7:=eY B lv ts sz dp 7 k (by unfold gV;omega) h8;have h6:=eY B lv ts sz dp 6 k (by unfold gV;omega) h7;have h5:=eY B lv ts sz dp 5 k (by unfold gV;omega) h6;have h3:=NU B lv ts sz dp k (Ow B lv ts sz dp k h5);have h2:=eY B lv ts sz dp 2 k (by unfold gV;omega) h3;exact eY B lv ts sz dp 1 k (by unfold gV;omega) h2
  |succ n ih=>
   intro k hk;have h8:=OT B lv ts sz dp k (fun j hj=>ih j (by omega));have h7:=eY B lv ts sz dp 7 k (by unfold gV;omega) h8;have h6:=eY B lv ts sz dp 6 k (by unfold gV;omega) h7;have h5:=eY B lv ts sz dp 5 k (by unfold gV;omega) h6;have h3:=NU B lv ts sz dp k (Ow B lv ts sz dp k h5);have h2:=eY B lv ts sz dp 2 k (by unfold gV;omega) h3;exact eY B lv ts sz dp 1 k (by unfold gV;omega) h2
 intro n;exact key n n (nlr _)
theorem wrap_small(x:Int)(h1: -1000000<=x)(h2:x<=1000000):IntKind.i64.wrap x=x:=by
 rw[IntKind.wrap_i64];omega
theorem kr(t:Nat)(v:Y3)(ht:t=290\/t=285\/t=287\/t=289\/t=271)(w:Y4):
   aaT Zc 237 #[Yo t v] w fun x w'=>x=Yl (Yg Yh 1)/\aaS w.heap.size w w':=by
 have h1:=Qu t v ht;have h2:=PU t v ht;clear ht;go_enter aao,aap;go_wp2_with fail;go_ret;exact⟨rfl,Zh _ _⟩
theorem Na(k:Int)(tv:Nat)(xv:Y3)(d:Nat)(hd1:d<=100000)(ih:∀w:Y4,aaT Zc 237 #[Yo tv xv] w fun x w'=>x=Yl (Yg Yh (d:Int))/\aaS w.heap.size w w')(w:Y4):
   aaT Zc 237 #[Yo 292 (Yj #[Yg Yh k,Yo tv xv])] w fun x w'=>x=Yl (Yg Yh (1+(d:Int)))/\aaS w.heap.size w w':=by
 have h1:=VF (Yg Yh k) (Yo tv xv);go_enter aao,aap;go_wp2_with fail;refine(ih _).mono ?_;rintro x w1 ⟨rfl,hb⟩;have HB:=hd hb;go_wp2_with fail;go_ret;exact⟨rfl,((Zh _ _).alloc (nlr _) _).trans (HB.o.mono (by simp))⟩
theorem Ij(k:Int)(tu:Nat)(xu:Y3)(tv:Nat)(xv:Y3)(d e:Nat)(hd1:d<=100000)(he1:e<=100000)(iha:∀w:Y4,aaT Zc 237 #[Yo tu xu] w fun x w'=>x=Yl (Yg Yh (d:Int))/\aaS w.heap.size w w')
   (ihb:∀w:Y4,aaT Zc 237 #[Yo tv xv] w fun x w'=>x=Yl (Yg Yh (e:Int))/\aaS w.heap.size w w') (w:Y4) (hde:(d:Int)<(e:Int)):
   aaT Zc 237 #[Yo 294 (Yj #[Yg Yh k,Yo tu xu,Yo tv xv])] w fun x w'=>x=Yl (Yg Yh (1+(e:Int)))/\aaS w.heap.size w w':=by
 have hmx:max (d:Int) (e:Int)=(e:Int):=by omega
 have hwr:IntKind.i64.wrap (1+(e:Int))=1+(e:Int):=wrap_small _ (by omega) (by omega);have h1:=OY (Yg Yh k) (Yo tu xu) (Yo tv xv);have h2:=Oe (Yg Yh k) (Yo tu xu) (Yo tv xv);go_enter aao,aap;go_wp2_with fail;have KW:=ae.new w #[Yg Yh k,Yo tu xu,Yo tv xv] 294;have BW:aaS w.heap.size w (w.alloc (Yk #[Yg Yh k,Yo tu xu,Yo tv xv] 294)):=(Zh _ _).alloc (nlr _) _;generalize w.alloc (Yk #[Yg Yh k,Yo tu xu,Yo tv xv] 294)=W at*;have k1:W.cell? ⟨w.heap.size,1,Y1⟩=Y2 (Yo tu xu):=KW.cell 1;have k2:W.cell? ⟨w.heap.size,2,Y1⟩=Y2 (Yo tv xv):=KW.cell 2;have HK:=hd KW;have HB:=hd BW;have HIA:=hd iha;have HIB:=hd ihb
 go_region_with (go_at_call 237;first
  |(go_at_call_of 237 (Yo tu xu)
    refine Calls.mono (HIA.o _) ?_;rintro x w1 ⟨rfl,hb1⟩;have hK:ae w1 w.heap.size #[Yg Yh k,Yo tu xu,Yo tv xv] 294:=HK.o.drew.below hb1 HK.o.lt;have q1:w1.cell? ⟨w.heap.size,1,Y1⟩=Y2 (Yo tu xu):=hK.cell 1;have q2:w1.cell? ⟨w.heap.size,2,Y1⟩=Y2 (Yo tv xv):=hK.cell 2;have HB1:=hd hb1
    clear hK hb1)
  |(refine Calls.mono (HIB.o _) ?_
    rintro x w2 ⟨rfl,hb2⟩;have HB2:=hd hb2
    clear hb2))
 all_goals
  have hs1:=HB1.o.size;have hs:=HB.o.size;have HBF:=hd ((HB.o.trans ((Zh _ _).drew.trans (HB1.o.mono (by simp at*;omega)))).trans (HB2.o.mono (by simp at*;omega)));go_wp2;go_ret;exact⟨rfl,HBF.o⟩
theorem Ir(k:Int)(tu:Nat)(xu:Y3)(tv:Nat)(xv:Y3)(d e:Nat)(hd1:d<=100000)(he1:e<=100000)(iha:∀w:Y4,aaT Zc 237 #[Yo tu xu] w fun x w'=>x=Yl (Yg Yh (d:Int))/\aaS w.heap.size w w')
   (ihb:∀w:Y4,aaT Zc 237 #[Yo tv xv] w fun x w'=>x=Yl (Yg Yh (e:Int))/\aaS w.heap.size w w') (w:Y4) (hde:¬(d:Int)<(e:Int)):
   aaT Zc 237 #[Yo 294 (Yj #[Yg Yh k,Yo tu xu,Yo tv xv])] w fun x w'=>x=Yl (Yg Yh (1+(d:Int)))/\aaS w.heap.size w w':=by
 have hmx:max (d:Int) (e:Int)=(d:Int):=by omega
 have hwr:IntKind.i64.wrap (1+(d:Int))=1+(d:Int):=wrap_small _ (by omega) (by omega);have h1:=OY (Yg Yh k) (Yo tu xu) (Yo tv xv);have h2:=Oe (Yg Yh k) (Yo tu xu) (Yo tv xv);go_enter aao,aap;go_wp2_with fail;have KW:=ae.new w #[Yg Yh k,Yo tu xu,Yo tv xv] 294;have BW:aaS w.heap.size w (w.alloc (Yk #[Yg Yh k,Yo tu xu,Yo tv xv] 294)):=(Zh _ _).alloc (nlr _) _;generalize w.alloc (Yk #[Yg Yh k,Yo tu xu,Yo tv xv] 294)=W at*;have k1:W.cell? ⟨w.heap.size,1,Y1⟩=Y2 (Yo tu xu):=KW.cell 1;have k2:W.cell? ⟨w.heap.size,2,Y1⟩=Y2 (Yo tv xv):=KW.cell 2;have HK:=hd KW;have HB:=hd BW;have HIA:=hd iha;have HIB:=hd ihb
 go_region_with (go_at_call 237;first
  |(go_at_call_of 237 (Yo tu xu)
    refine Calls.mono (HIA.o _) ?_;rintro x w1 ⟨rfl,hb1⟩;have hK:ae w1 w.heap.size #[Yg Yh k,Yo tu xu,Yo tv xv] 294:=HK.o.drew.below hb1 HK.o.lt;have q1:w1.cell? ⟨w.heap.size,1,Y1⟩=Y2 (Yo tu xu):=hK.cell 1;have q2:w1.cell? ⟨w.heap.size,2,Y1⟩=Y2 (Yo tv xv):=hK.cell 2;have HB1:=hd hb1
    clear hK hb1)
  |(refine Calls.mono (HIB.o _) ?_
    rintro x w2 ⟨rfl,hb2⟩;have HB2:=hd hb2
    clear hb2))
 all_goals
  have hs1:=HB1.o.size;have hs:=HB.o.size;have HBF:=hd ((HB.o.trans ((Zh _ _).drew.trans (HB1.o.mono (by simp at*;omega)))).trans (HB2.o.mono (by simp at*;omega)));go_wp2;go_ret;exact⟨rfl,HBF.o⟩
theorem Fx(e:ZU)(hs:e.size<=100000):∀w:Y4,aaT Zc 237 #[ev e] w fun x w'=>x=Yl (Yg Yh (e.depth:Int))/\aaS w.heap.size w w':=by
 induction e with
 |un k e ih=>
  intro w;obtain⟨t,y,hy⟩:=jc e
  have hsz:e.size<=100000:=by simp only[Px.E.size]at hs;omega
  have hdp:=e.uj;have ih':=ih hsz;rw[hy]at ih';have:=Na (k:Int) t y e.depth (by omega) ih' w;unfold ev;rw[hy];refine this.mono ?_;rintro x w' ⟨rfl,hb⟩;exact⟨by simp only[Px.E.depth];rw[show((e.depth+1:Nat):Int)=1+(e.depth:Int) by omega],hb⟩
 |bin k a b iha ihb=>
  intro w;obtain⟨ta,ya,hya⟩:=jc a;obtain⟨tb,yb,hyb⟩:=jc b
  have hsa:a.size<=100000:=by simp only[Px.E.size]at hs;omega
  have hsb:b.size<=100000:=by simp only[Px.E.size]at hs;omega
  have hda:=a.uj;have hdb:=b.uj;have TK:=iha hsa;have Tn:=ihb hsb;rw[hya]at TK;rw[hyb]at Tn;unfold ev;rw[hya,hyb];by_cases hde:(a.depth:Int)<(b.depth:Int)
  · refine(Ij (k:Int) ta ya tb yb a.depth b.depth (by omega) (by omega) TK Tn w hde).mono ?_;rintro x w' ⟨rfl,hb⟩;refine⟨?_,hb⟩;simp only[Px.E.depth];rw[Nat.max_eq_right (by omega),show((b.depth+1:Nat):Int)=1+(b.depth:Int) by omega]
  refine(Ir (k:Int) ta ya tb yb a.depth b.depth (by omega) (by omega) TK Tn w hde).mono ?_;rintro x w' ⟨rfl,hb⟩;refine⟨?_,hb⟩;simp only[Px.E.depth];rw[Nat.max_eq_left (by omega),show((a.depth+1:Nat):Int)=1+(a.depth:Int) by omega]
 |null=>intro w;exact kr _ _ (.inl rfl) w
 |bool b=>intro w;exact kr _ _ (.inr (.inl rfl)) w
 |num z=>intro w;exact kr _ _ (.inr (.inr (.inl rfl))) w
 |str s=>intro w;exact kr _ _ (.inr (.inr (.inr (.inl rfl)))) w
 |nm s=>intro w;exact kr _ _ (.inr (.inr (.inr (.inr rfl)))) w
def gI(e:ZU):Bool:=decide (40<e.depth)
theorem jh(B:Nat)(lv:Y3)(ts:List Zj)(sz:Nat)(dp:Bool)(w:Y4)(q:List Zj)(h:Cx w B lv ts sz q dp):
   aaT Zc 183 #[Ym (Y2 ⟨B,0,Y1⟩)] w (aj w B lv ts sz dp (aaq sz) q JI gI):=by
 have HL:=hd (Kl B lv ts sz dp q.length w q (nlr _) h)
 have hlen:q.length<=2000:=by
  obtain⟨k,rfl,h⟩:=h;have:=h.len;simp;omega
 clear h;go_enter Tryz.func183,Tryz.ntmps183;go_wp2_with fail;refine HL.o.mono ?_;rintro x w1 ho;obtain⟨hg,⟨p,c,hr,rfl⟩|⟨e,q1,v,hr,rfl,hv,hx⟩⟩:=ho.cases
 · exact⟨rfl,aj.err hg hr⟩
 cases hv
 have HX1:Yf (Cx w1 B lv ts sz q1 dp):=hx;have HG1:=hd hg;have HR:Yf (aaq sz q (.ok (e,q1))):=hr;have hsz:=(hr.2 _ _ rfl).2;have HD:=hd (Fx e (by omega) w1);have hdl:=e.uj;obtain⟨et,ex,hev⟩:=jc e;have HEV:=hd hev;rw[hev]at HD⊢;clear hr hx hg hev ho;go_wp2_with fail;refine HD.o.mono ?_;rintro x w2 ⟨rfl,hb2⟩;have HX2:=hd (HX1.o.below hb2);have HG2:=hd (aI HG1.o (Y9 (row:=Y2 B) hb2));clear hb2 HD;by_cases hdp:40<e.depth
 · have WV:(40:Int)<(e.depth:Int):=by omega
   obtain⟨k,hk,hs⟩:=HX2.o;have c3:=hs.cells.2.2.2;have f3:=hs.blk.free 3;have HX3:Yf (Cx (w2.setCell ⟨B,3,Y1⟩ (.bool true)) B lv ts sz q1 true):=⟨k,hk,hs.QO⟩;have HG3:=hd (aI HG2.o (qI w2 B 3 (.bool true)));clear hs;go_wp2_with fail;go_ret;exact aj.ok (a:=e) HG3.o HR.o (by show _=ev _;rw[HEV.o];rfl) (by unfold gI;rw[decide_eq_true hdp];exact HX3.o)
 have WV:¬(40:Int)<(e.depth:Int):=by omega
 go_wp2_with fail;go_ret;exact aj.ok (a:=e) HG2.o HR.o (by show _=ev _;rw[HEV.o];rfl) (by unfold gI;rw[decide_eq_false hdp];exact HX2.o)
def ev?:Option ZU->Y3
 |none=>Yq
 |some e=>ev e
def Yc(o:Option ZU)(v:Y3)(_:Y4):Prop:=v=ev? o
def iO:Option ZU->Bool
 |none=>false
 |some e=>gI e
theorem pK(B:Nat)(lv:Y3)(ts:List Zj)(sz:Nat)(dp:Bool)(w:Y4)(q:List Zj)(h:Cx w B lv ts sz q dp):
   aaT Zc 123 #[Ym (Y2 ⟨B,0,Y1⟩)] w (aj w B lv ts sz dp (aar sz) q Yc iO):=by
 have HX:=hd h;clear h
 cases hs:Zm Px.bG q with
 |true=>
  have HR:Yf (∀r,Px.Rg.seq (aaq sz) (fun e=>Px.Rg.ret (Y2 e)) q.tail r->aar sz q r):=fun r hr=>by unfold aar;rw[if_pos hs];exact hr
  go_enter aas,aat;go_wp2_with fail;refine(uh ⟨#[87,72,69,82,69]⟩ w B lv ts sz q dp HX.o hs (by simp)).mono ?_;rintro x w2 ⟨rfl,hx,hg⟩;have HX2:=hd hx;have HG2:=hd hg;clear hx hg;go_wp2_with fail;refine(jh B lv ts sz dp w2 q.tail HX2.o).mono ?_;rintro x w3 ho;obtain⟨hg,⟨p,c,hr,rfl⟩|⟨e,q',v,hr,rfl,hv,hx⟩⟩:=ho.cases
  · exact⟨rfl,aj.err (aI HG2.o hg) (HR.o _ (Px.Rg.err hr))⟩
  cases hv
  have HRR:=hd hr;obtain⟨et,ex,hev⟩:=jc e;have HEV:=hd hev;rw[hev];clear hr hev;go_wp2_with fail;go_ret;exact aj.ok (a:=Y2 e) (aI HG2.o hg) (HR.o _ (Px.Rg.go HRR.o rfl)) (by show _=ev _;rw[HEV.o];rfl) hx
 |false=>
  have HR:Yf (aar sz q (.ok (Y1,q))):=by show aar _ _ _;unfold aar;rw[if_neg (by simp[hs])]
  go_enter aas,aat;go_wp2_with fail;refine(dZ ⟨#[87,72,69,82,69]⟩ w B lv ts sz q dp HX.o hs (by simp)).mono ?_;rintro x w2 ⟨rfl,hb⟩;have HX2:=hd (HX.o.below hb);have HG2:=hd (Y9 (row:=Y2 B) hb);clear hb;go_wp2_with fail;go_ret;exact aj.ok (a:=Y1) HG2.o HR.o rfl HX2.o
theorem ae.grown{b:Nat}{cs:Array Y3}{t:Y5}(h:ae w b cs t)(hg:w.grownBy w' (Y2 B))(hne:b≠B):ae w' b cs t:=by
 unfold ae at h⊢;rw[hg.block b (geA.1 h).1 (by simp;omega)];exact h
theorem Cx.aQ{ts:List Zj}{q:List Zj}(h:Cx w B lv ts sz q dp):∀g,lv.ownBlock=Y2 g->g<w.heap.size:=by
 obtain⟨k,_,h⟩:=h;obtain⟨b,ho⟩:=h.own;intro g hg;exact(ho.lt g hg).2
theorem Cx.far{w0:Y4}{ts:List Zj}{q q0:List Zj}{dp0:Bool}(h:Cx w B lv ts sz q dp)(h0:Cx w0 B lv ts sz q0 dp0){M:Nat}(hM:w0.heap.size<=M)(i:Nat)(v:Y3):Cx (w.setCell ⟨M,i,Y1⟩ v) B lv ts sz q dp:=by
 have hB:=h0.lt;have hL:=h0.aQ;obtain⟨k,hk,h⟩:=h;have hr:=h.low;obtain⟨b,ho⟩:=h.own;refine⟨k,hk,h.blk.far ⟨M,i,Y1⟩ v (by show M≠B;omega),⟨b,ho.kept (qI w M i v) ?_⟩,h.ne,h.toks,h.len,h.size,h.le,h.env.grown (qI w M i v) (by omega),h.low⟩
 cases hv:lv.ownBlock with
 |none=>simp
 |some g=>right;intro e;simp only[Option.some.injEq]at e;subst e;have:=hL _ hv;omega
def Wp(x:Y6×ZU)(v:Y3)(_:Y4):Prop:=v=Yj #[Yi ⟨x.1.toArray⟩,ev x.2]
def Bj(x:Y6×ZU):Bool:=gI x.2
theorem Bp(B:Nat)(lv:Y3)(ts:List Zj)(sz:Nat)(dp:Bool)(w:Y4)(q:List Zj)(h:Cx w B lv ts sz q dp):
   aaT Zc 125 #[Ym (Y2 ⟨B,0,Y1⟩)] w (aj w B lv ts sz dp (aau sz) q Wp Bj):=by
 have HX:=hd h;have hlt:=h.lt;have HB0:Yf (aaS w.heap.size w (w.alloc (Yk #[Yi ⟨#[]⟩,Yq] 223))):=(Zh _ _).alloc (nlr _) _;have KR:=ae.new w #[Yi ⟨#[]⟩,Yq] 223;have HKR:=hd KR;clear h KR;go_enter Tryz.func125,Tryz.ntmps125;go_wp2_with fail;refine(eD _ B lv ts sz q dp (HX.o.below HB0.o)).mono ?_;rintro x w1 ho;obtain⟨hg,⟨p,c,hr,rfl⟩|⟨n,q1,v,hr,rfl,hv,hx⟩⟩:=ho.cases
 · exact⟨rfl,aj.err (aI (Y9 HB0.o) hg) (Px.Rg.err hr)⟩
 cases hv
 have HR1:=hd hr;have HX1:Yf (Cx w1 B lv ts sz q1 dp):=hx;have HG1:=hd (aI (Y9 HB0.o) hg);have HK1:=hd (HKR.o.grown hg (by omega));clear hr hx hg ho HB0 HKR;go_wp2_with fail;refine(bV ⟨#[61]⟩ w1 B lv ts sz q1 dp HX1.o (by simp)).mono ?_;rintro x w2 ho;obtain⟨hg,⟨p,c,hr,rfl⟩|⟨_,q2,v,hr,rfl,hv,hx⟩⟩:=ho.cases
 · exact⟨rfl,aj.err (aI HG1.o hg) (Px.Rg.go HR1.o (Px.Rg.err hr))⟩
 cases hv
 have HR2:=hd hr;have HX2:Yf (Cx w2 B lv ts sz q2 dp):=hx;have HG2:=hd (aI HG1.o hg);have HK2:=hd (HK1.o.grown hg (by omega));clear hr hx hg ho HG1 HK1;go_wp2_with fail;refine(jh B lv ts sz dp w2 q2 HX2.o).mono ?_;rintro x w3 ho;obtain⟨hg,⟨p,c,hr,rfl⟩|⟨e,q3,v,hr,rfl,hv,hx⟩⟩:=ho.cases
 · exact⟨rfl,aj.err (aI HG2.o hg) (Px.Rg.go HR1.o (Px.Rg.go HR2.o (Px.Rg.err hr)))⟩
 cases hv
 have HR3:=hd hr;have HX3:=hd hx;have HG3:=hd (aI HG2.o hg);have HK3:=hd (HK2.o.grown hg (by omega));obtain⟨et,ex,hev⟩:=jc e;have HEV:=hd hev;rw[hev];have m0:w3.cell? ⟨w.heap.size,0,Y1⟩=Y2 (Yi ⟨#[]⟩):=HK3.o.cell 0;have m1:w3.cell? ⟨w.heap.size,1,Y1⟩=Y2 Yq:=HK3.o.cell 1;have g0:=HK3.o.free 0;have g1:=HK3.o.free 1;clear hr hx hg ho HG2 HK2 hev;go_wp2_with fail;have KF:=(HK3.o.set 0 (Yi ⟨n.toArray⟩)).set 1 (Yo et ex);have e0:=KF.cell 0;have e1:=KF.cell 1;simp at e0 e1;refine aaU (v:=Yj #[Yi ⟨n.toArray⟩,Yo et ex]) (by simp[aaW,Tryz.results125,go_sem,e0,e1]) rfl ?_;exact aj.ok (a:=(n,e)) (fq (fq HG3.o (nlr _) 0 _) (nlr _) 1 _) (Px.Rg.go HR1.o (Px.Rg.go HR2.o (Px.Rg.go HR3.o rfl))) (by show _=Yj #[_,ev e];rw[HEV.o]) ((HX3.o.far HX.o (nlr _) 0 _).far HX.o (nlr _) 1 _)
def Su:Option ZU->Y3
 |none=>Yj #[.bool true,Yq]
 |some e=>Yj #[.bool false,ev e]
def VB(x:Option ZU)(v:Y3)(_:Y4):Prop:=v=Su x
theorem yL(B:Nat)(lv:Y3)(ts:List Zj)(sz:Nat)(dp:Bool)(w:Y4)(q:List Zj)(h:Cx w B lv ts sz q dp):
   aaT Zc 127 #[Ym (Y2 ⟨B,0,Y1⟩)] w (aj w B lv ts sz dp (aav sz) q VB iO):=by
 have HX:=hd h;have hlt:=h.lt;have HB0:Yf (aaS w.heap.size w (w.alloc (Yk #[.bool false,Yq] 225))):=(Zh _ _).alloc (nlr _) _;have KR:=ae.new w #[.bool false,Yq] 225;have HKR:=hd KR
 cases hs:Zm Px.Qf q with
 |true=>
  have HR:Yf (aav sz q (.ok (Y1,q.tail))):=by show aav _ _ _;unfold aav;rw[if_pos hs]
  go_enter aaw,aax;go_wp2_with fail;refine(uh ⟨#[42]⟩ _ B lv ts sz q dp (HX.o.below HB0.o) hs (by simp)).mono ?_;rintro x w3 ⟨rfl,hx,hg⟩;have HX3:=hd hx;have HG3:=hd (aI (Y9 HB0.o) hg);have HK3:=hd (HKR.o.grown hg (by omega));have m0:w3.cell? ⟨w.heap.size,0,Y1⟩=Y2 (.bool false):=HK3.o.cell 0;have m1:w3.cell? ⟨w.heap.size,1,Y1⟩=Y2 Yq:=HK3.o.cell 1;obtain⟨g0,g1⟩:=HK3.o.f2;go_wp2_with fail;have KF:=(HK3.o.set 0 (.bool true)).set 1 Yq;obtain⟨e0,e1⟩:=KF.d2;refine aaU (v:=Yj #[.bool true,Yq]) (by simp[aaW,aay,go_sem,e0,e1]) rfl ?_;exact aj.ok (a:=Y1) (fq (fq HG3.o (nlr _) 0 _) (nlr _) 1 _) HR.o rfl ((HX3.o.far HX.o (nlr _) 0 _).far HX.o (nlr _) 1 _)
 |false=>
  have HR:Yf (∀r,Px.Rg.seq (aaq sz) (fun e=>Px.Rg.ret (Y2 e)) q r->aav sz q r):=fun r hr=>by unfold aav;rw[if_neg (by simp[hs])];exact hr
  go_enter aaw,aax;go_wp2_with fail;refine(dZ ⟨#[42]⟩ _ B lv ts sz q dp (HX.o.below HB0.o) hs (by simp)).mono ?_;rintro x w2 ⟨rfl,hb⟩;have HX2:=hd ((HX.o.below HB0.o).below hb);have HG2:=hd (aI (Y9 (row:=Y2 B) HB0.o) (Y9 (row:=Y2 B) hb));have HK2:=hd (HKR.o.below hb (by simp));go_wp2_with fail;refine(jh B lv ts sz dp w2 q HX2.o).mono ?_;rintro x w3 ho;obtain⟨hg,⟨p,c,hr,rfl⟩|⟨e,q3,v,hr,rfl,hv,hx⟩⟩:=ho.cases
  · exact⟨rfl,aj.err (aI HG2.o hg) (HR.o _ (Px.Rg.err hr))⟩
  cases hv
  have HR3:=hd hr;have HX3:=hd hx;have HG3:=hd (aI HG2.o hg);have HK3:=hd (HK2.o.grown hg (by omega));obtain⟨et,ex,hev⟩:=jc e;have HEV:=hd hev;rw[hev];have m0:w3.cell? ⟨w.heap.size,0,Y1⟩=Y2 (.bool false):=HK3.o.cell 0;have m1:w3.cell? ⟨w.heap.size,1,Y1⟩=Y2 Yq:=HK3.o.cell 1;obtain⟨g0,g1⟩:=HK3.o.f2;go_wp2_with fail;have KF:=(HK3.o.set 0 (.bool false)).set 1 (Yo et ex);obtain⟨e0,e1⟩:=KF.d2;refine aaU (v:=Yj #[.bool false,Yo et ex]) (by simp[aaW,aay,go_sem,e0,e1]) rfl ?_;exact aj.ok (a:=Y2 e) (fq (fq HG3.o (nlr _) 0 _) (nlr _) 1 _) (HR.o _ (Px.Rg.go HR3.o rfl)) (by show _=Yj #[_,ev e];rw[HEV.o]) ((HX3.o.far HX.o (nlr _) 0 _).far HX.o (nlr _) 1 _)
theorem vB(B:Nat)(lv:Y3)(ts:List Zj)(sz:Nat)(dp:Bool)(w:Y4)(q:List Zj)(h:Cx w B lv ts sz q dp):
   aaT Zc 181 #[Ym (Y2 ⟨B,0,Y1⟩)] w (aj w B lv ts sz dp (aaz sz) q SQ dM):=by
 have HX:=hd h
 cases hs1:Zm Px.o9 q with
 |true=>
  have HR:Yf (aaz sz q (.ok (1,q.tail))):=by show aaz _ _ _;unfold aaz;rw[if_pos hs1]
  go_enter aaA,aaB;go_wp2_with fail;refine(uh ⟨#[73,78,84,69,71,69,82]⟩ w B lv ts sz q dp HX.o hs1 (by simp)).mono ?_;rintro x w2 ⟨rfl,hx,hg⟩;go_wp2_with fail;go_ret;exact aj.ok (a:=1) hg HR.o rfl hx
 |false=>
  cases hs2:Zm Px.qC q with
  |true=>
   have HR:Yf (aaz sz q (.ok (2,q.tail))):=by show aaz _ _ _;unfold aaz;rw[if_neg (by simp[hs1]),if_pos hs2]
   go_enter aaA,aaB;go_wp2_with fail;refine(dZ ⟨#[73,78,84,69,71,69,82]⟩ w B lv ts sz q dp HX.o hs1 (by simp)).mono ?_;rintro x w1 ⟨rfl,hb⟩;have HX1:=hd (HX.o.below hb);have HG1:=hd (Y9 (row:=Y2 B) hb);go_wp2_with fail;refine(uh ⟨#[84,69,88,84]⟩ w1 B lv ts sz q dp HX1.o hs2 (by simp)).mono ?_;rintro x w2 ⟨rfl,hx,hg⟩;go_wp2_with fail;go_ret;exact aj.ok (a:=2) (aI HG1.o hg) HR.o rfl hx
  |false=>
   have HR:Yf (∀r,Px.Rg.seq (ZG sz Px.ko) (fun _=>Px.Rg.ret 3) q r->aaz sz q r):=fun r hr=>by unfold aaz;rw[if_neg (by simp[hs1]),if_neg (by simp[hs2])];exact hr
   go_enter aaA,aaB;go_wp2_with fail;refine(dZ ⟨#[73,78,84,69,71,69,82]⟩ w B lv ts sz q dp HX.o hs1 (by simp)).mono ?_;rintro x w1 ⟨rfl,hb⟩;have HX1:=hd (HX.o.below hb);have HG1:=hd (Y9 (row:=Y2 B) hb);go_wp2_with fail;refine(dZ ⟨#[84,69,88,84]⟩ w1 B lv ts sz q dp HX1.o hs2 (by simp)).mono ?_;rintro x w2 ⟨rfl,hb⟩;have HX2:=hd (HX1.o.below hb);have HG2:=hd (aI HG1.o (Y9 (row:=Y2 B) hb));go_wp2_with fail;refine(bV ⟨#[66,79,79,76,69,65,78]⟩ w2 B lv ts sz q dp HX2.o (by simp)).mono ?_;rintro x w3 ho;obtain⟨hg,⟨p,c,hr,rfl⟩|⟨_,q2,v,hr,rfl,hv,hx⟩⟩:=ho.cases
   · exact⟨rfl,aj.err (aI HG2.o hg) (HR.o _ (Px.Rg.err hr))⟩
   cases hv
   have HRR:=hd hr;go_wp2_with fail;go_ret;exact aj.ok (a:=3) (aI HG2.o hg) (HR.o _ (Px.Rg.go HRR.o rfl)) rfl hx
def Ue(x:ZU×Bool)(v:Y3)(_:Y4):Prop:=v=Yj #[ev x.1,.bool x.2]
def Bi(x:ZU×Bool):Bool:=gI x.1
theorem wh(B:Nat)(lv:Y3)(ts:List Zj)(sz:Nat)(dp:Bool)(w:Y4)(q:List Zj)(h:Cx w B lv ts sz q dp):
   aaT Zc 129 #[Ym (Y2 ⟨B,0,Y1⟩)] w (aj w B lv ts sz dp (aaC sz) q Ue Bi):=by
 have HX:=hd h;have hlt:=h.lt;have HB0:Yf (aaS w.heap.size w (w.alloc (Yk #[Yq,.bool false] 227))):=(Zh _ _).alloc (nlr _) _;have KR:=ae.new w #[Yq,.bool false] 227;have HKR:=hd KR;go_enter Tryz.func129,Tryz.ntmps129;go_wp2_with fail;refine(jh B lv ts sz dp _ q (HX.o.below HB0.o)).mono ?_;rintro x w1 ho;obtain⟨hg,⟨p,c,hr,rfl⟩|⟨e,q1,v,hr,rfl,hv,hx⟩⟩:=ho.cases
 · exact⟨rfl,aj.err (aI (Y9 HB0.o) hg) (Px.Rg.err hr)⟩
 cases hv
 have HR1:=hd hr;obtain⟨et,ex,hev⟩:=jc e;have HEV:=hd hev;rw[hev];have hsz1:=hg.size;simp only[ZC]at hsz1;have HX1:=hd (hx.below ((Zh _ _).alloc (nlr _) (Yk #[Yo et ex,.bool false] 227)));have HG1:=hd (vM (aI (Y9 HB0.o) hg) (Yk #[Yo et ex,.bool false] 227));have HK1:=hd ((HKR.o.grown hg (by omega)).alloc (Yk #[Yo et ex,.bool false] 227));have HL1:=hd (ae.new w1 #[Yo et ex,.bool false] 227)
 cases hs:Zm Px.Ej q1 with
 |true=>
  have HR:Yf (aaD e q1 (.ok ((e,true),q1.tail))):=by show aaD _ _ _;unfold aaD;rw[if_pos hs]
  go_wp2_with fail;refine(uh ⟨#[68,69,83,67]⟩ _ B lv ts sz q1 _ HX1.o hs (by simp)).mono ?_;rintro x w2 ⟨rfl,hx,hg⟩;have HX2:=hd hx;have HG2:=hd (aI HG1.o hg);have HK2:=hd (HK1.o.grown hg (by omega));have HL2:=hd (HL1.o.grown hg (by omega));have m0:w2.cell? ⟨w.heap.size,0,Y1⟩=Y2 Yq:=HK2.o.cell 0;have m1:w2.cell? ⟨w.heap.size,1,Y1⟩=Y2 (.bool false):=HK2.o.cell 1;obtain⟨g0,g1⟩:=HK2.o.f2;have n0:w2.cell? ⟨w1.heap.size,0,Y1⟩=Y2 (Yo et ex):=HL2.o.cell 0;have n1:w2.cell? ⟨w1.heap.size,1,Y1⟩=Y2 (.bool false):=HL2.o.cell 1;have f1:=HL2.o.free 1
  have d1:¬w1.heap.size=w.heap.size:=by omega
  have d2:¬w.heap.size=w1.heap.size:=by omega
  go_wp2_with fail;have KF:=((HK2.o.far ⟨w1.heap.size,1,Y1⟩ (.bool true) d1).set 0 (Yo et ex)).set 1 (.bool true);obtain⟨e0,e1⟩:=KF.d2;refine aaU (v:=Yj #[Yo et ex,.bool true]) (by simp[aaW,aaE,go_sem,e0,e1]) rfl ?_;exact aj.ok (a:=(e,true)) (fq (fq (fq HG2.o (by omega) 1 _) (nlr _) 0 _) (nlr _) 1 _) (Px.Rg.go HR1.o HR.o) (by show _=Yj #[ev e,_];rw[HEV.o]) (((HX2.o.far HX.o (by omega) 1 _).far HX.o (nlr _) 0 _).far HX.o (nlr _) 1 _)
 |false=>
  go_wp2_with fail;refine(dZ ⟨#[68,69,83,67]⟩ _ B lv ts sz q1 _ HX1.o hs (by simp)).mono ?_;rintro x w2 ⟨rfl,hb⟩;have hsz2:=hb.size;simp only[ZC]at hsz2;have HL20:=hd (HL1.o.below hb (by simp));have n00:w2.cell? ⟨w1.heap.size,0,Y1⟩=Y2 (Yo et ex):=HL20.o.cell 0;have n01:w2.cell? ⟨w1.heap.size,1,Y1⟩=Y2 (.bool false):=HL20.o.cell 1;have f01:=HL20.o.free 1;have HX2:=hd ((HX1.o.below hb).far HX.o (M:=w1.heap.size) (by omega) 1 (.bool false));have HG2:=hd (fq (aI HG1.o (Y9 (row:=Y2 B) hb)) (M:=w1.heap.size) (by omega) 1 (.bool false))
  have d1:¬w1.heap.size=w.heap.size:=by omega
  have d2:¬w.heap.size=w1.heap.size:=by omega
  have HK2:=hd ((HK1.o.below hb (by simp;omega)).far ⟨w1.heap.size,1,Y1⟩ (.bool false) d1);have HL2:=hd (HL20.o.set 1 (.bool false))
  cases hs2:Zm Px.SV q1 with
  |true=>
   have HR:Yf (aaD e q1 (.ok ((e,false),q1.tail))):=by show aaD _ _ _;unfold aaD;rw[if_neg (by simp[hs]),if_pos hs2]
   go_wp2_with fail;refine(uh ⟨#[65,83,67]⟩ _ B lv ts sz q1 _ HX2.o hs2 (by simp)).mono ?_;rintro x w3 ⟨rfl,hx,hg⟩;have HX3:=hd hx;have HG3:=hd (aI HG2.o hg);have HK3:=hd (HK2.o.grown hg (by omega));have HL3:=hd (HL2.o.grown hg (by omega));have m0:w3.cell? ⟨w.heap.size,0,Y1⟩=Y2 Yq:=HK3.o.cell 0;have m1:w3.cell? ⟨w.heap.size,1,Y1⟩=Y2 (.bool false):=HK3.o.cell 1;obtain⟨g0,g1⟩:=HK3.o.f2;have n0:w3.cell? ⟨w1.heap.size,0,Y1⟩=Y2 (Yo et ex):=HL3.o.cell 0;have n1:w3.cell? ⟨w1.heap.size,1,Y1⟩=Y2 (.bool false):=HL3.o.cell 1;go_wp2_with fail;have KF:=(HK3.o.set 0 (Yo et ex)).set 1 (.bool false);obtain⟨e0,e1⟩:=KF.d2;refine aaU (v:=Yj #[Yo et ex,.bool false]) (by simp[aaW,aaE,go_sem,e0,e1]) rfl ?_;exact aj.ok (a:=(e,false)) (fq (fq HG3.o (nlr _) 0 _) (nlr _) 1 _) (Px.Rg.go HR1.o HR.o) (by show _=Yj #[ev e,_];rw[HEV.o]) ((HX3.o.far HX.o (nlr _) 0 _).far HX.o (nlr _) 1 _)
  |false=>
   have HR:Yf (aaD e q1 (.ok ((e,false),q1))):=by show aaD _ _ _;unfold aaD;rw[if_neg (by simp[hs]),if_neg (by simp[hs2])]
   go_wp2_with fail;refine(dZ ⟨#[65,83,67]⟩ _ B lv ts sz q1 _ HX2.o hs2 (by simp)).mono ?_;rintro x w3 ⟨rfl,hb3⟩;have HX3:=hd (HX2.o.below hb3);have HG3:=hd (aI HG2.o (Y9 (row:=Y2 B) hb3));have HK3:=hd (HK2.o.below hb3 HK2.o.lt);have HL3:=hd (HL2.o.below hb3 HL2.o.lt);have m0:w3.cell? ⟨w.heap.size,0,Y1⟩=Y2 Yq:=HK3.o.cell 0;have m1:w3.cell? ⟨w.heap.size,1,Y1⟩=Y2 (.bool false):=HK3.o.cell 1;obtain⟨g0,g1⟩:=HK3.o.f2;have n0:w3.cell? ⟨w1.heap.size,0,Y1⟩=Y2 (Yo et ex):=HL3.o.cell 0;have n1:w3.cell? ⟨w1.heap.size,1,Y1⟩=Y2 (.bool false):=HL3.o.cell 1;go_wp2_with fail;have KF:=(HK3.o.set 0 (Yo et ex)).set 1 (.bool false);obtain⟨e0,e1⟩:=KF.d2;refine aaU (v:=Yj #[Yo et ex,.bool false]) (by simp[aaW,aaE,go_sem,e0,e1]) rfl ?_;exact aj.ok (a:=(e,false)) (fq (fq HG3.o (nlr _) 0 _) (nlr _) 1 _) (Px.Rg.go HR1.o HR.o) (by show _=Yj #[ev e,_];rw[HEV.o]) ((HX3.o.far HX.o (nlr _) 0 _).far HX.o (nlr _) 1 _)
def Xl(x:Y6×Nat)(v:Y3)(_:Y4):Prop:=v=Yj #[Yi ⟨x.1.toArray⟩,Yg Yh (x.2:Int)]
theorem Jb{q q':List Zj}(h:aaz sz q (.ok (k,q'))):k<=3:=by
 unfold aaz at h
 split at h
 · cases h;omega
 split at h
 · cases h;omega
 rcases Z6 h with⟨e,_,h2⟩|⟨_,_,_,h2⟩
 · cases h2
 cases h2;omega
theorem Cw(B:Nat)(lv:Y3)(ts:List Zj)(sz:Nat)(dp:Bool)(w:Y4)(q:List Zj)(h:Cx w B lv ts sz q dp)(i:Nat)(hi:i<=100000):
   aaT Zc 119 #[Ym (Y2 ⟨B,0,Y1⟩),Yg Yh ((i:Int)+1)] w (aj w B lv ts sz dp (Px.kV sz i) q Xl dM):=by
 have hf2:=Uh;have HX:=hd h;have hlt:=h.lt;rcases ht:pk sz q with⟨tk,tt,tp⟩;have HT:=hd ht;have HP:=hd (Jn ht);have HB0:Yf (aaS w.heap.size w (w.alloc (Yk #[Yi ⟨#[]⟩,Yg Yh 0] 220))):=(Zh _ _).alloc (nlr _) _;have HKR:=hd (ae.new w #[Yi ⟨#[]⟩,Yg Yh 0] 220);go_enter Tryz.func119,Tryz.ntmps119;go_wp2_with fail;refine(cK _ B lv ts sz q dp (HX.o.below HB0.o)).mono ?_;rintro x w0 ⟨rfl,hb⟩;rw[HT.o];unfold jO;simp only;have HX0:=hd ((HX.o.below HB0.o).below hb);have HG0:=hd (aI (Y9 (row:=Y2 B) HB0.o) (Y9 (row:=Y2 B) hb));have HK0:=hd (HKR.o.below hb (by simp));go_wp2_with fail;refine(eD w0 B lv ts sz q dp HX0.o).mono ?_;rintro x w1 ho;obtain⟨hg,⟨p,c,hr,rfl⟩|⟨n,q1,v,hr,rfl,hv,hx⟩⟩:=ho.cases
 · exact⟨rfl,aj.err (aI HG0.o hg) (Px.Rg.err hr)⟩
 cases hv
 have HR1:=hd hr;have HX1:=hd (hx);have HG1:=hd (aI HG0.o hg);have HK1:=hd (HK0.o.grown hg (by omega));by_cases h6:6<=i
 · have h6':(6:Int)<(i:Int)+1:=by omega
   have HR:Yf (Px.kV sz i q (.error (tp,4))):=Px.Rg.go HR1.o (by rw[if_pos h6,HP.o]);go_wp2_with fail;refine(je _ _ tp 4).mono ?_;rintro x w2 ⟨rfl,rfl⟩;exact⟨rfl,aj.err HG1.o HR.o⟩
 have h6':¬(6:Int)<(i:Int)+1:=by omega
 have HR:Yf (∀r,Px.Rg.seq (aaz sz) (aaF sz n) q1 r->Px.kV sz i q r):=fun r hr=>Px.Rg.go HR1.o (by rw[if_neg h6];exact hr)
 go_wp2_with fail;refine(vB B lv ts sz dp w1 q1 HX1.o).mono ?_;rintro x w2 ho;obtain⟨hg,⟨p,c,hr,rfl⟩|⟨k,q2,v,hr,rfl,hv,hx⟩⟩:=ho.cases
 · exact⟨rfl,aj.err (aI HG1.o hg) (HR.o _ (Px.Rg.err hr))⟩
 cases hv
 have hk3:=Jb hr;have HR2:=hd hr;have hsz1:=(aI HG1.o hg).size
 have Qz:w.heap.size<w2.heap.size:=by have:=HK1.o.lt;have:=hg.size;omega
 have HX2:=hd (Cx.below (w':=w2.alloc (Yk #[Yi ⟨n.toArray⟩,Yg Yh (k:Int)] 220)) hx ((Zh _ _).alloc (nlr _) _));have HG2:=hd (vM (aI HG1.o hg) (Yk #[Yi ⟨n.toArray⟩,Yg Yh (k:Int)] 220));have HK2:=hd ((HK1.o.grown hg (by omega)).alloc (Yk #[Yi ⟨n.toArray⟩,Yg Yh (k:Int)] 220));have HL2:=hd (ae.new w2 #[Yi ⟨n.toArray⟩,Yg Yh (k:Int)] 220)
 have d1:¬w2.heap.size=w.heap.size:=by omega
 have d2:¬w.heap.size=w2.heap.size:=by omega
 cases hs:Zm aag q2 with
 |false=>
  have HRN:Yf (aaF sz n k q2 (.ok ((n,k),q2))):=by show aaF _ _ _ _ _;unfold aaF;rw[if_neg (by simp[hs])]
  go_wp2_with fail;refine(dZ ⟨#[78,79,84]⟩ _ B lv ts sz q2 _ HX2.o hs (by simp)).mono ?_;rintro x w3 ⟨rfl,hb3⟩;have HX3:=hd (HX2.o.below hb3);have HG3:=hd (aI HG2.o (Y9 (row:=Y2 B) hb3));have HK3:=hd (HK2.o.below hb3 HK2.o.lt);have HL3:=hd (HL2.o.below hb3 HL2.o.lt);have m0:w3.cell? ⟨w.heap.size,0,Y1⟩=Y2 (Yi ⟨#[]⟩):=HK3.o.cell 0;have m1:w3.cell? ⟨w.heap.size,1,Y1⟩=Y2 (Yg Yh 0):=HK3.o.cell 1;obtain⟨g0,g1⟩:=HK3.o.f2;have n0:w3.cell? ⟨w2.heap.size,0,Y1⟩=Y2 (Yi ⟨n.toArray⟩):=HL3.o.cell 0;have n1:w3.cell? ⟨w2.heap.size,1,Y1⟩=Y2 (Yg Yh (k:Int)):=HL3.o.cell 1;go_wp2_with fail;have KF:=(HK3.o.set 0 (Yi ⟨n.toArray⟩)).set 1 (Yg Yh (k:Int));obtain⟨e0,e1⟩:=KF.d2;refine aaU (v:=Yj #[Yi ⟨n.toArray⟩,Yg Yh (k:Int)]) (by simp[aaW,aaG,go_sem,e0,e1]) rfl ?_;exact aj.ok (a:=(n,k)) (fq (fq HG3.o (nlr _) 0 _) (nlr _) 1 _) (HR.o _ (Px.Rg.go HR2.o HRN.o)) rfl ((HX3.o.far HX.o (nlr _) 0 _).far HX.o (nlr _) 1 _)
 |true=>
  have HRN:Yf (∀r,Px.Rg.seq (ZG sz Z4) (fun _=>Px.Rg.ret (n,k+4)) q2.tail r->aaF sz n k q2 r):=fun r hr=>by unfold aaF;rw[if_pos hs];exact hr
  go_wp2_with fail;refine(uh ⟨#[78,79,84]⟩ _ B lv ts sz q2 _ HX2.o hs (by simp)).mono ?_;rintro x w3 ⟨rfl,hx3,hg3⟩;have HX3:=hd hx3;have HG3:=hd (aI HG2.o hg3);have HK3:=hd (HK2.o.grown hg3 (by omega));have HL3:=hd (HL2.o.grown hg3 (by have:=HX2.o.lt;have:=HX.o.lt;omega));go_wp2_with fail;refine(bV ⟨#[78,85,76,76]⟩ w3 B lv ts sz q2.tail _ HX3.o (by simp)).mono ?_;rintro x w4 ho;obtain⟨hg,⟨p,c,hr,rfl⟩|⟨_,q4,v,hr,rfl,hv,hx⟩⟩:=ho.cases
  · exact⟨rfl,aj.err (aI HG3.o hg) (HR.o _ (Px.Rg.go HR2.o (HRN.o _ (Px.Rg.err hr))))⟩
  cases hv
  have HR4:=hd hr;have HX4:=hd hx;have HG4:=hd (aI HG3.o hg);have HK4:=hd (HK3.o.grown hg (by omega));have HL4:=hd (HL3.o.grown hg (by omega));have m0:w4.cell? ⟨w.heap.size,0,Y1⟩=Y2 (Yi ⟨#[]⟩):=HK4.o.cell 0;have m1:w4.cell? ⟨w.heap.size,1,Y1⟩=Y2 (Yg Yh 0):=HK4.o.cell 1;obtain⟨g0,g1⟩:=HK4.o.f2;have n0:w4.cell? ⟨w2.heap.size,0,Y1⟩=Y2 (Yi ⟨n.toArray⟩):=HL4.o.cell 0;have n1:w4.cell? ⟨w2.heap.size,1,Y1⟩=Y2 (Yg Yh (k:Int)):=HL4.o.cell 1;have f1:=HL4.o.free 1
  have hcast:((k+4:Nat):Int)=(k:Int)+4:=by omega
  go_wp2_with fail;have KF:=((HK4.o.far ⟨w2.heap.size,1,Y1⟩ (Yg Yh ((k:Int)+4)) d1).set 0 (Yi ⟨n.toArray⟩)).set 1 (Yg Yh ((k:Int)+4));obtain⟨e0,e1⟩:=KF.d2;refine aaU (v:=Yj #[Yi ⟨n.toArray⟩,Yg Yh ((k:Int)+4)]) (by simp[aaW,aaG,go_sem,e0,e1]) rfl ?_;exact aj.ok (a:=(n,k+4)) (fq (fq (fq HG4.o (by omega) 1 _) (nlr _) 0 _) (nlr _) 1 _) (HR.o _ (Px.Rg.go HR2.o (HRN.o _ (Px.Rg.go HR4.o rfl)))) (by show _=Yj #[_,Yg Yh ((k+4:Nat):Int)];rw[hcast]) (((HX4.o.far HX.o (by omega) 1 _).far HX.o (nlr _) 0 _).far HX.o (nlr _) 1 _)
theorem Cx.kept{w0:Y4}{ts:List Zj}{q q0:List Zj}{dp0:Bool}{row:Option Nat}(h:Cx w B lv ts sz q dp)(h0:Cx w0 B lv ts sz q0 dp0)(hg:w.grownBy w' row)(hrow:∀o,row=Y2 o->w0.heap.size<=o):Cx w' B lv ts sz q dp:=by
 have hB:=h0.lt;have hL:=h0.aQ;obtain⟨k,hk,h⟩:=h;have hlow:=h.low
 have hg':w.grownBy w' (Y2 (match row with|none=>w.heap.size|some o=>o)):=by
  cases row with
  |none=>exact⟨hg.os,hg.tape,hg.output,hg.size,fun k hk _=>hg.block k hk (by simp)⟩
  |some o=>exact hg
 obtain⟨b,ho⟩:=h.own
 have hblk:ae w' B #[lv,Yg Yh (k:Int),Yg Yh (sz:Int),.bool dp] 79:=by
  have:=h.blk;unfold ae at this⊢
  rw[hg.block B h.blk.lt (by
   intro e;have:=hrow B e.symm
   omega)]
  exact this
 refine⟨k,hk,hblk,⟨b,ho.kept hg ?_⟩,h.ne,h.toks,h.len,h.size,h.le,h.env.grown hg' ?_,h.low⟩
 · cases hv:lv.ownBlock with
   |none=>simp
   |some g=>
    right
    intro e;have:=hrow g e.symm;have:=hL g hv;omega
 cases row with
 |none=>have:=h.blk.lt;simp only;omega
 |some o=>have:=hrow o rfl;simp only;omega
theorem nX{α:Type}(dv:α->Bool)(l:List α)(a:α)(dp:Bool):((l++[a]).any dv||dp)=(dv a||(l.any dv||dp)):=by
 simp only[List.any_append,List.any_cons,List.any_nil,Bool.or_false]
 cases dv a<;>cases l.any dv<;>cases dp<;>rfl
theorem Tryz.info98:(Tryz.prog.info? 98).map (fun i=>(i.zero,i.size,i.bytes))=Y2 (Y2 Yq,1,16):=by kernel_rfl
def Ec{α:Type}(B:Nat)(T:Y5)(size:Nat)(cl:α->List Y3)(l:List α)(v:Y3)(w:Y4):Prop:=w.ownsRow (B+1) T size v l.length (l.flatMap cl)
def nP(e:ZU):List Y3:=[ev e]
def KT(x:Y6×ZU):List Y3:=[Yi ⟨x.1.toArray⟩,ev x.2]
def iK:Option ZU->List Y3
 |none=>[.bool true,Yq]
 |some e=>[.bool false,ev e]
def dA(x:ZU×Bool):List Y3:=[ev x.1,.bool x.2]
def qU(x:Y6×Nat):List Y3:=[Yi ⟨x.1.toArray⟩,Yg Yh (x.2:Int)]
theorem mH{α:Type}(cl:α->List Y3)(l:List α)(a:α):(l++[a]).flatMap cl=l.flatMap cl++cl a:=by simp
theorem fw{base':Nat}(h:w.ownsRow base e size v n xs)(hb:base'<=base):w.ownsRow base' e size v n xs:=by
 refine⟨h.1,?_⟩;rcases h.2 with hn|⟨g,cap,cur,hv,hg,r⟩
 · exact .inl hn
 exact .inr ⟨g,cap,cur,hv,by omega,r⟩
theorem Ee(w:Y4)(a:Y3)(t:Y5):∀j u,([a]:List Y3)[j]? =Y2 u->(w.alloc (Yk #[a] t)).cell? ((⟨w.heap.size,0,Y1⟩:Addr).add j)=Y2 u:=by
 intro j u hu;rw[Zn,Ze,(ae.new w #[a] t).cell];simpa using hu
theorem uB(w:Y4)(a b:Y3)(t:Y5):∀j u,([a,b]:List Y3)[j]? =Y2 u->(w.alloc (Yk #[a,b] t)).cell? ((⟨w.heap.size,0,Y1⟩:Addr).add j)=Y2 u:=by
 intro j u hu;rw[Zn,Ze,(ae.new w #[a,b] t).cell];simpa using hu
theorem Fq(w:Y4)(a:Y3)(t:Y5):(w.alloc (Yk #[a] t)).ownsRow w.heap.size t 1 (Yp (Y2 ⟨w.heap.size,0,Y1⟩) 1 1) 1 [a]:=
 ⟨by simp,.inr ⟨w.heap.size,1,#[a],rfl,nlr _,heap_alloc_new w _,by omega,by unfold aaV;omega,by simp,by simp⟩⟩
theorem tq(w:Y4)(a b:Y3)(t:Y5):(w.alloc (Yk #[a,b] t)).ownsRow w.heap.size t 2 (Yp (Y2 ⟨w.heap.size,0,Y1⟩) 1 1) 1 [a,b]:=
 ⟨by simp,.inr ⟨w.heap.size,1,#[a,b],rfl,nlr _,heap_alloc_new w _,by omega,by unfold aaV;omega,by simp,by simp⟩⟩
theorem yY(B:Nat)(lv:Y3)(ts:List Zj)(sz:Nat)(dp:Bool)(w:Y4)(q:List Zj)(h:Cx w B lv ts sz q dp):
   aaT Zc 182 #[Ym (Y2 ⟨B,0,Y1⟩),.func (.func 183) #[Ym (Y2 ⟨B,0,Y1⟩)] #[]] w (aj w B lv ts sz dp (aaH fun _=>aaq sz) q (Ec B 98 1 nP) fun l=>l.any gI):=by
 obtain⟨i0,hi,hz0,hz1,hz2⟩:=aaX Tryz.info98;have HX:=hd h;have hlt:=h.lt
 have zO:q.length<=2000:=by
  obtain⟨k,rfl,h⟩:=h;have:=h.len;simp;omega
 clear h;go_enter Tryz.func182,Tryz.ntmps182;go_wp2_with fail;refine(jh B lv ts sz dp w q HX.o).mono ?_;rintro x w1 ho;obtain⟨hg,⟨p,c,hr,rfl⟩|⟨a,q1,v,hr,rfl,hv,hx⟩⟩:=ho.cases
 · exact⟨rfl,aj.err hg (Px.Sep.err0 hr)⟩
 have HR1:=hd (Px.Reach.first (x:=fun _=>aaq sz) hr);have HX1:=hd hx;have HG1:=hd hg;have hs1:=hg.size;clear hr hx hg ho
 cases hv
 obtain⟨et,ex,hev⟩:=jc a;have HEV:=hd hev;rw[hev];clear hev;have HO1:=hd (fw (Fq w1 (Yo et ex) 98) hs1);have wF:=hd (HX1.o.below ((Zh _ _).alloc (nlr _) (Yk #[Yo et ex] 98)));have wT:=hd (vM HG1.o (Yk #[Yo et ex] 98));clear HX1 HG1;go_wp2_with fail;go_loopw [5] (fun v wr=>∃(l:List ZU) (q1:List Zj),Yf (wr.ownsRow w.heap.size 98 1 v l.length (l.flatMap nP))/\Yf (Cx wr B lv ts sz q1 (l.any gI||dp))/\Yf (w.grownBy wr (Y2 B))/\Yf (aaI (fun _=>aaq sz) q l q1)) (fun _ wr=>ts.length-xq wr B)
 case atStart=>exact⟨[a],q1,(by have:=HO1.o;simp only[YU,aaJ,aaK,aaL,nP];rw[HEV.o];exact this),(by show Cx _ _ _ _ _ _ _;have:=wF.o;simpa using this),wT,HR1⟩
 case round=>
  clear HR1 wF wT HO1;obtain⟨l,q1,HO,HX1,HG1,HRe⟩:=hrel;have hll:q1.length+l.length<=q.length+1:=HRe.o.len (fun _=>Px.jg sz)
  cases hs:Zm aaM q1 with
  |false=>
   go_wp2_with fail;refine(dZ ⟨#[44]⟩ wr B lv ts sz q1 _ HX1.o hs (by simp)).mono ?_;rintro x w2 ⟨rfl,hb⟩;have HO2:=hd (eO HO.o hb);have HB:=hd hb;clear hb;go_wp2_with fail;go_ret;exact aj.ok (a:=l) (aI HG1.o (Y9 HB.o)) (Px.Sep.stop HRe.o hs) (fw HO2.o (by omega)) (HX1.o.below HB.o)
  |true=>
   have hcl:=aaa hs;go_wp2_with fail;refine(uh ⟨#[44]⟩ wr B lv ts sz q1 _ HX1.o hs (by simp)).mono ?_;rintro x w2 ⟨rfl,hx2,hg2⟩;have HX2:=hd hx2;have HG2:=hd (aI HG1.o hg2)
   have HO2:=hd (HO.o.kept hg2 (by
    cases hv:u5.ownBlock with
    |none=>exact .inl rfl
    |some g=>right;have:=(HO.o.lt g hv).1;simp;omega))
   have hl1:=HX1.o.xq;clear hx2 hg2 HG1 HO;go_wp2_with fail;refine(jh B lv ts sz _ w2 q1.tail HX2.o).mono ?_;rintro x w3 ho;obtain⟨hg,⟨p,c,hr,rfl⟩|⟨a,q2,v,hr,rfl,hv,hx⟩⟩:=ho.cases
   · exact⟨rfl,aj.err (aI HG2.o hg) (Px.Sep.err HRe.o hs hr)⟩
   have HR3:=hd (HRe.o.step hs hr);have hsh:=Px.jg sz _ _ _ hr;have HX3:=hd hx;have HG3:=hd (aI HG2.o hg)
   have HO3:=hd (HO2.o.kept hg (by
    cases hv:u5.ownBlock with
    |none=>exact .inl rfl
    |some g=>right;have:=(HO2.o.lt g hv).1;simp;omega))
   have hs3:=HG3.o.size;clear hr hx hg ho HG2 HO2 HX1 HX2
   cases hv
   obtain⟨et,ex,hev⟩:=jc a;have HEV:=hd hev;rw[hev];clear hev;have HX3':=hd (HX3.o.below ((Zh _ _).alloc (nlr _) (Yk #[Yo et ex] 98)));have dF:=hd (vM HG3.o (Yk #[Yo et ex] 98));clear HX3 HG3
   go_wp2_with(first
    |(at_builtin;refine wpList_append_own _ rfl _ _ 132 rfl w.heap.size 98 i0 Yq 1 16 Tryz.underlying132 hi hz0 hz1 hz2 rfl (by decide) _ _ _ rfl (HO3.o.alloc _) ⟨w3.heap.size,0,Y1⟩ 1 1 [Yo et ex] rfl rfl ?c1 ?c2 ?c3 ?c4 ?c5 ?_)
    |fail)
   case c1=>exact Ee w3 (Yo et ex) 98
   case c2=>intro u hu;simp at hu;subst hu;rfl
   case c3=>unfold aaV;omega
   case c4=>omega
   case c5=>simp;omega
   intro v' w4 hown' hgrow _
   have HO4:Yf (w4.ownsRow w.heap.size 98 1 v' (l++[a]).length ((l++[a]).flatMap nP)):=by
    rw[aaN,aaL,mH];show aaO _ _ _ _ _ _ _;simp only[nP];rw[HEV.o];exact hown'
   have HX4:=hd (HX3'.o.kept HX.o hgrow (fun o ho=>(HO3.o.lt o ho).1))
   have HG4:Yf (w.grownBy w4 (Y2 B)):=by
    refine⟨hgrow.os.trans dF.o.os,hgrow.tape.trans dF.o.tape,hgrow.output.trans dF.o.output,YB dF.o.size hgrow.size,fun k hk hne=> ?_⟩
    rw[hgrow.block k (nlA hk dF.o.size) (by
     intro e;have:=(HO3.o.lt k e.symm).1
     omega)]
    exact dF.o.block k hk hne
   have hl4:=HX4.o.xq;clear hown' hgrow HX3' dF HO3;go_wp2_with fail;go_roundw
   case rel=>exact⟨l++[a],q2,HO4,(by have:=HX4.o;rw[nX];exact this),HG4,HR3⟩
   case measure=>omega
theorem Tryz.info223:(Tryz.prog.info? 223).map (fun i=>(i.zero,i.size,i.bytes))=Y2 (Y2 (Yj #[Yi ⟨#[]⟩,Yq]),2,32):=by kernel_rfl
theorem Ah(B:Nat)(lv:Y3)(ts:List Zj)(sz:Nat)(dp:Bool)(w:Y4)(q:List Zj)(h:Cx w B lv ts sz q dp):
   aaT Zc 124 #[Ym (Y2 ⟨B,0,Y1⟩),.func (.func 125) #[Ym (Y2 ⟨B,0,Y1⟩)] #[]] w (aj w B lv ts sz dp (aaH fun _=>aau sz) q (Ec B 223 2 KT) fun l=>l.any Bj):=by
 obtain⟨i0,hi,hz0,hz1,hz2⟩:=aaX Tryz.info223;have HX:=hd h;have hlt:=h.lt
 have zO:q.length<=2000:=by
  obtain⟨k,rfl,h⟩:=h;have:=h.len;simp;omega
 go_enter Tryz.func124,Tryz.ntmps124;go_wp2_with fail;refine(Bp B lv ts sz dp w q HX.o).mono ?_;rintro x w1 ho;obtain⟨hg,⟨p,c,hr,rfl⟩|⟨a,q1,v,hr,rfl,hv,hx⟩⟩:=ho.cases
 · exact⟨rfl,aj.err hg (Px.Sep.err0 hr)⟩
 have HR1:=hd (Px.Reach.first (x:=fun _=>aau sz) hr);have HX1:=hd hx;have HG1:=hd hg;have hs1:=hg.size;obtain⟨n,e⟩:=a
 cases hv
 obtain⟨et,ex,hev⟩:=jc e;have HEV:=hd hev;simp only[hev];have HO1:=hd (fw (tq w1 (Yi ⟨n.toArray⟩) (Yo et ex) 223) hs1);have wF:=hd (HX1.o.below ((Zh _ _).alloc (nlr _) (Yk #[Yi ⟨n.toArray⟩,Yo et ex] 223)));have wT:=hd (vM HG1.o (Yk #[Yi ⟨n.toArray⟩,Yo et ex] 223));go_wp2_with fail;go_loopw [5] (fun v wr=>∃(l:List (Y6×ZU)) (q1:List Zj),Yf (wr.ownsRow w.heap.size 223 2 v l.length (l.flatMap KT))/\Yf (Cx wr B lv ts sz q1 (l.any Bj||dp))/\Yf (w.grownBy wr (Y2 B))/\Yf (aaI (fun _=>aau sz) q l q1)) (fun _ wr=>ts.length-xq wr B)
 case atStart=>exact⟨[(n,e)],q1,(by have:=HO1.o;simp only[YU,aaJ,aaK,aaL,KT];rw[HEV.o];exact this),(by show Cx _ _ _ _ _ _ _;have:=wF.o;simpa using this),wT,HR1⟩
 case round=>
  obtain⟨l,q1,HO,HX1,HG1,HRe⟩:=hrel;have hll:q1.length+l.length<=q.length+1:=HRe.o.len (fun _=>Px.vR sz)
  cases hs:Zm aaM q1 with
  |false=>
   go_wp2_with fail;refine(dZ ⟨#[44]⟩ wr B lv ts sz q1 _ HX1.o hs (by simp)).mono ?_;rintro x w2 ⟨rfl,hb⟩;have HO2:=hd (eO HO.o hb);have HB:=hd hb;clear hb;go_wp2_with fail;go_ret;exact aj.ok (a:=l) (aI HG1.o (Y9 HB.o)) (Px.Sep.stop HRe.o hs) (fw HO2.o (by omega)) (HX1.o.below HB.o)
  |true=>
   have hcl:=aaa hs;go_wp2_with fail;refine(uh ⟨#[44]⟩ wr B lv ts sz q1 _ HX1.o hs (by simp)).mono ?_;rintro x w2 ⟨rfl,hx2,hg2⟩;have HX2:=hd hx2;have HG2:=hd (aI HG1.o hg2)
   have HO2:=hd (HO.o.kept hg2 (by
    cases hv:u5.ownBlock with
    |none=>exact .inl rfl
    |some g=>right;have:=(HO.o.lt g hv).1;simp;omega))
   have hl1:=HX1.o.xq;clear hx2 hg2 HG1 HO;go_wp2_with fail;refine(Bp B lv ts sz _ w2 q1.tail HX2.o).mono ?_;rintro x w3 ho;obtain⟨hg,⟨p,c,hr,rfl⟩|⟨a,q2,v,hr,rfl,hv,hx⟩⟩:=ho.cases
   · exact⟨rfl,aj.err (aI HG2.o hg) (Px.Sep.err HRe.o hs hr)⟩
   have HR3:=hd (HRe.o.step hs hr);have hsh:=Px.vR sz _ _ _ hr;have HX3:=hd hx;have HG3:=hd (aI HG2.o hg)
   have HO3:=hd (HO2.o.kept hg (by
    cases hv:u5.ownBlock with
    |none=>exact .inl rfl
    |some g=>right;have:=(HO2.o.lt g hv).1;simp;omega))
   have hs3:=HG3.o.size;clear hr hx hg ho HG2 HO2 HX1 HX2;obtain⟨n,e⟩:=a
   cases hv
   obtain⟨et,ex,hev⟩:=jc e;have HEV:=hd hev;simp only[hev];clear hev;have HX3':=hd (HX3.o.below ((Zh _ _).alloc (nlr _) (Yk #[Yi ⟨n.toArray⟩,Yo et ex] 223)));have dF:=hd (vM HG3.o (Yk #[Yi ⟨n.toArray⟩,Yo et ex] 223));clear HX3 HG3
   go_wp2_with(first
    |(at_builtin;refine wpList_append_own _ rfl _ _ 102 rfl w.heap.size 223 i0 (Yj #[Yi ⟨#[]⟩,Yq]) 2 32 Tryz.underlying102 hi hz0 hz1 hz2 rfl (by decide) _ _ _ rfl (HO3.o.alloc _) ⟨w3.heap.size,0,Y1⟩ 1 1 [Yi ⟨n.toArray⟩,Yo et ex] rfl rfl ?c1 ?c2 ?c3 ?c4 ?c5 ?_)
    |fail)
   case c1=>exact uB w3 (Yi ⟨n.toArray⟩) (Yo et ex) 223
   case c2=>intro u hu;simp at hu;rcases hu with rfl|rfl<;>rfl
   case c3=>unfold aaV;omega
   case c4=>omega
   case c5=>simp;omega
   intro v' w4 hown' hgrow _
   have HO4:Yf (w4.ownsRow w.heap.size 223 2 v' (l++[(n,e)]).length ((l++[(n,e)]).flatMap KT)):=by
    rw[aaN,aaL,mH];show aaO _ _ _ _ _ _ _;simp only[KT];rw[HEV.o];exact hown'
   have HX4:=hd (HX3'.o.kept HX.o hgrow (fun o ho=>(HO3.o.lt o ho).1))
   have HG4:Yf (w.grownBy w4 (Y2 B)):=by
    refine⟨hgrow.os.trans dF.o.os,hgrow.tape.trans dF.o.tape,hgrow.output.trans dF.o.output,YB dF.o.size hgrow.size,fun k hk hne=> ?_⟩
    rw[hgrow.block k (nlA hk dF.o.size) (by
     intro e;have:=(HO3.o.lt k e.symm).1
     omega)]
    exact dF.o.block k hk hne
   have hl4:=HX4.o.xq;clear hown' hgrow HX3' dF HO3;go_wp2_with fail;go_roundw
   case rel=>exact⟨l++[(n,e)],q2,HO4,(by have:=HX4.o;rw[nX];exact this),HG4,HR3⟩
   case measure=>omega
theorem Tryz.info227:(Tryz.prog.info? 227).map (fun i=>(i.zero,i.size,i.bytes))=Y2 (Y2 (Yj #[Yq,.bool false]),2,24):=by kernel_rfl
theorem wU(B:Nat)(lv:Y3)(ts:List Zj)(sz:Nat)(dp:Bool)(w:Y4)(q:List Zj)(h:Cx w B lv ts sz q dp):
   aaT Zc 128 #[Ym (Y2 ⟨B,0,Y1⟩),.func (.func 129) #[Ym (Y2 ⟨B,0,Y1⟩)] #[]] w (aj w B lv ts sz dp (aaH fun _=>aaC sz) q (Ec B 227 2 dA) fun l=>l.any Bi):=by
 obtain⟨i0,hi,hz0,hz1,hz2⟩:=aaX Tryz.info227;have HX:=hd h;have hlt:=h.lt
 have zO:q.length<=2000:=by
  obtain⟨k,rfl,h⟩:=h;have:=h.len;simp;omega
 go_enter Tryz.func128,Tryz.ntmps128;go_wp2_with fail;refine(wh B lv ts sz dp w q HX.o).mono ?_;rintro x w1 ho;obtain⟨hg,⟨p,c,hr,rfl⟩|⟨a,q1,v,hr,rfl,hv,hx⟩⟩:=ho.cases
 · exact⟨rfl,aj.err hg (Px.Sep.err0 hr)⟩
 have HR1:=hd (Px.Reach.first (x:=fun _=>aaC sz) hr);have HX1:=hd hx;have HG1:=hd hg;have hs1:=hg.size;obtain⟨e,b⟩:=a
 cases hv
 obtain⟨et,ex,hev⟩:=jc e;have HEV:=hd hev;simp only[hev];have HO1:=hd (fw (tq w1 (Yo et ex) (.bool b) 227) hs1);have wF:=hd (HX1.o.below ((Zh _ _).alloc (nlr _) (Yk #[Yo et ex,.bool b] 227)));have wT:=hd (vM HG1.o (Yk #[Yo et ex,.bool b] 227));go_wp2_with fail;go_loopw [5] (fun v wr=>∃(l:List (ZU×Bool)) (q1:List Zj),Yf (wr.ownsRow w.heap.size 227 2 v l.length (l.flatMap dA))/\Yf (Cx wr B lv ts sz q1 (l.any Bi||dp))/\Yf (w.grownBy wr (Y2 B))/\Yf (aaI (fun _=>aaC sz) q l q1)) (fun _ wr=>ts.length-xq wr B)
 case atStart=>exact⟨[(e,b)],q1,(by have:=HO1.o;simp only[YU,aaJ,aaK,aaL,dA];rw[HEV.o];exact this),(by show Cx _ _ _ _ _ _ _;have:=wF.o;simpa using this),wT,HR1⟩
 case round=>
  obtain⟨l,q1,HO,HX1,HG1,HRe⟩:=hrel;have hll:q1.length+l.length<=q.length+1:=HRe.o.len (fun _=>Px.qB sz)
  cases hs:Zm aaM q1 with
  |false=>
   go_wp2_with fail;refine(dZ ⟨#[44]⟩ wr B lv ts sz q1 _ HX1.o hs (by simp)).mono ?_;rintro x w2 ⟨rfl,hb⟩;have HO2:=hd (eO HO.o hb);have HB:=hd hb;clear hb;go_wp2_with fail;go_ret;exact aj.ok (a:=l) (aI HG1.o (Y9 HB.o)) (Px.Sep.stop HRe.o hs) (fw HO2.o (by omega)) (HX1.o.below HB.o)
  |true=>
   have hcl:=aaa hs;go_wp2_with fail;refine(uh ⟨#[44]⟩ wr B lv ts sz q1 _ HX1.o hs (by simp)).mono ?_;rintro x w2 ⟨rfl,hx2,hg2⟩;have HX2:=hd hx2;have HG2:=hd (aI HG1.o hg2)
   have HO2:=hd (HO.o.kept hg2 (by
    cases hv:u5.ownBlock with
    |none=>exact .inl rfl
    |some g=>right;have:=(HO.o.lt g hv).1;simp;omega))
   have hl1:=HX1.o.xq;clear hx2 hg2 HG1 HO;go_wp2_with fail;refine(wh B lv ts sz _ w2 q1.tail HX2.o).mono ?_;rintro x w3 ho;obtain⟨hg,⟨p,c,hr,rfl⟩|⟨a,q2,v,hr,rfl,hv,hx⟩⟩:=ho.cases
   · exact⟨rfl,aj.err (aI HG2.o hg) (Px.Sep.err HRe.o hs hr)⟩
   have HR3:=hd (HRe.o.step hs hr);have hsh:=Px.qB sz _ _ _ hr;have HX3:=hd hx;have HG3:=hd (aI HG2.o hg)
   have HO3:=hd (HO2.o.kept hg (by
    cases hv:u5.ownBlock with
    |none=>exact .inl rfl
    |some g=>right;have:=(HO2.o.lt g hv).1;simp;omega))
   have hs3:=HG3.o.size;clear hr hx hg ho HG2 HO2 HX1 HX2;obtain⟨e,b⟩:=a
   cases hv
   obtain⟨et,ex,hev⟩:=jc e;have HEV:=hd hev;simp only[hev];clear hev;have HX3':=hd (HX3.o.below ((Zh _ _).alloc (nlr _) (Yk #[Yo et ex,.bool b] 227)));have dF:=hd (vM HG3.o (Yk #[Yo et ex,.bool b] 227));clear HX3 HG3
   go_wp2_with(first
    |(at_builtin;refine wpList_append_own _ rfl _ _ 107 rfl w.heap.size 227 i0 (Yj #[Yq,.bool false]) 2 24 Tryz.underlying107 hi hz0 hz1 hz2 rfl (by decide) _ _ _ rfl (HO3.o.alloc _) ⟨w3.heap.size,0,Y1⟩ 1 1 [Yo et ex,.bool b] rfl rfl ?c1 ?c2 ?c3 ?c4 ?c5 ?_)
    |fail)
   case c1=>exact uB w3 (Yo et ex) (.bool b) 227
   case c2=>intro u hu;simp at hu;rcases hu with rfl|rfl<;>rfl
   case c3=>unfold aaV;omega
   case c4=>omega
   case c5=>simp;omega
   intro v' w4 hown' hgrow _
   have HO4:Yf (w4.ownsRow w.heap.size 227 2 v' (l++[(e,b)]).length ((l++[(e,b)]).flatMap dA)):=by
    rw[aaN,aaL,mH];show aaO _ _ _ _ _ _ _;simp only[dA];rw[HEV.o];exact hown'
   have HX4:=hd (HX3'.o.kept HX.o hgrow (fun o ho=>(HO3.o.lt o ho).1))
   have HG4:Yf (w.grownBy w4 (Y2 B)):=by
    refine⟨hgrow.os.trans dF.o.os,hgrow.tape.trans dF.o.tape,hgrow.output.trans dF.o.output,YB dF.o.size hgrow.size,fun k hk hne=> ?_⟩
    rw[hgrow.block k (nlA hk dF.o.size) (by
     intro e;have:=(HO3.o.lt k e.symm).1
     omega)]
    exact dF.o.block k hk hne
   have hl4:=HX4.o.xq;clear hown' hgrow HX3' dF HO3;go_wp2_with fail;go_roundw
   case rel=>exact⟨l++[(e,b)],q2,HO4,(by have:=HX4.o;rw[nX];exact this),HG4,HR3⟩
   case measure=>omega
theorem Tryz.info225:(Tryz.prog.info? 225).map (fun i=>(i.zero,i.size,i.bytes))=Y2 (Y2 (Yj #[.bool false,Yq]),2,24):=by kernel_rfl
theorem AO(x:Option ZU):∃b ex,Su x=Yj #[.bool b,ex]/\iK x=[.bool b,ex]/\ex.oneCell'=true:=by
 cases x with
 |none=>exact⟨true,Yq,rfl,rfl,rfl⟩
 |some e=>exact⟨false,ev e,rfl,rfl,by obtain⟨t,y,h⟩:=jc e;rw[h];rfl⟩
theorem yJ(B:Nat)(lv:Y3)(ts:List Zj)(sz:Nat)(dp:Bool)(w:Y4)(q:List Zj)(h:Cx w B lv ts sz q dp):
   aaT Zc 126 #[Ym (Y2 ⟨B,0,Y1⟩),.func (.func 127) #[Ym (Y2 ⟨B,0,Y1⟩)] #[]] w (aj w B lv ts sz dp (aaH fun _=>aav sz) q (Ec B 225 2 iK) fun l=>l.any iO):=by
 obtain⟨i0,hi,hz0,hz1,hz2⟩:=aaX Tryz.info225;have HX:=hd h;have hlt:=h.lt
 have zO:q.length<=2000:=by
  obtain⟨k,rfl,h⟩:=h;have:=h.len;simp;omega
 go_enter Tryz.func126,Tryz.ntmps126;go_wp2_with fail;refine(yL B lv ts sz dp w q HX.o).mono ?_;rintro x w1 ho;obtain⟨hg,⟨p,c,hr,rfl⟩|⟨a,q1,v,hr,rfl,hv,hx⟩⟩:=ho.cases
 · exact⟨rfl,aj.err hg (Px.Sep.err0 hr)⟩
 have HR1:=hd (Px.Reach.first (x:=fun _=>aav sz) hr);have HX1:=hd hx;have HG1:=hd hg;have hs1:=hg.size;obtain⟨b,ex,hit,hic,hoc⟩:=AO a;have HIC:=hd hic;have HOC:=hd hoc;have hv2:v=Yj #[.bool b,ex]:=hv.trans hit;subst hv2;have HO1:=hd (fw (tq w1 (.bool b) ex 225) hs1);have wF:=hd (HX1.o.below ((Zh _ _).alloc (nlr _) (Yk #[.bool b,ex] 225)));have wT:=hd (vM HG1.o (Yk #[.bool b,ex] 225));go_wp2_with fail;go_loopw [5] (fun v wr=>∃(l:List (Option ZU)) (q1:List Zj),Yf (wr.ownsRow w.heap.size 225 2 v l.length (l.flatMap iK))/\Yf (Cx wr B lv ts sz q1 (l.any iO||dp))/\Yf (w.grownBy wr (Y2 B))/\Yf (aaI (fun _=>aav sz) q l q1)) (fun _ wr=>ts.length-xq wr B)
 case atStart=>exact⟨[a],q1,(by have:=HO1.o;simp only[YU,aaJ,aaK,aaL];rw[HIC.o];exact this),(by show Cx _ _ _ _ _ _ _;have:=wF.o;simpa using this),wT,HR1⟩
 case round=>
  obtain⟨l,q1,HO,HX1,HG1,HRe⟩:=hrel;have hll:q1.length+l.length<=q.length+1:=HRe.o.len (fun _=>Px.tH sz)
  cases hs:Zm aaM q1 with
  |false=>
   go_wp2_with fail;refine(dZ ⟨#[44]⟩ wr B lv ts sz q1 _ HX1.o hs (by simp)).mono ?_;rintro x w2 ⟨rfl,hb⟩;have HO2:=hd (eO HO.o hb);have HB:=hd hb;go_wp2_with fail;go_ret;exact aj.ok (a:=l) (aI HG1.o (Y9 HB.o)) (Px.Sep.stop HRe.o hs) (fw HO2.o (by omega)) (HX1.o.below HB.o)
  |true=>
   have hcl:=aaa hs;go_wp2_with fail;refine(uh ⟨#[44]⟩ wr B lv ts sz q1 _ HX1.o hs (by simp)).mono ?_;rintro x w2 ⟨rfl,hx2,hg2⟩;have HX2:=hd hx2;have HG2:=hd (aI HG1.o hg2)
   have HO2:=hd (HO.o.kept hg2 (by
    cases hv:u5.ownBlock with
    |none=>exact .inl rfl
    |some g=>right;have:=(HO.o.lt g hv).1;simp;omega))
   have hl1:=HX1.o.xq;go_wp2_with fail;refine(yL B lv ts sz _ w2 q1.tail HX2.o).mono ?_;rintro x w3 ho;obtain⟨hg,⟨p,c,hr,rfl⟩|⟨a,q2,v,hr,rfl,hv,hx⟩⟩:=ho.cases
   · exact⟨rfl,aj.err (aI HG2.o hg) (Px.Sep.err HRe.o hs hr)⟩
   have HR3:=hd (HRe.o.step hs hr);have hsh:=Px.tH sz _ _ _ hr;have HX3:=hd hx;have HG3:=hd (aI HG2.o hg)
   have HO3:=hd (HO2.o.kept hg (by
    cases hv:u5.ownBlock with
    |none=>exact .inl rfl
    |some g=>right;have:=(HO2.o.lt g hv).1;simp;omega))
   have hs3:=HG3.o.size;obtain⟨b,ex,hit,hic,hoc⟩:=AO a;have HIC:=hd hic;have HOC:=hd hoc;have hv2:v=Yj #[.bool b,ex]:=hv.trans hit;subst hv2;have HX3':=hd (HX3.o.below ((Zh _ _).alloc (nlr _) (Yk #[.bool b,ex] 225)));have dF:=hd (vM HG3.o (Yk #[.bool b,ex] 225))
   go_wp2_with(first
    |(at_builtin;refine wpList_append_own _ rfl _ _ 106 rfl w.heap.size 225 i0 (Yj #[.bool false,Yq]) 2 24 Tryz.underlying106 hi hz0 hz1 hz2 rfl (by decide) _ _ _ rfl (HO3.o.alloc _) ⟨w3.heap.size,0,Y1⟩ 1 1 [.bool b,ex] rfl rfl ?c1 ?c2 ?c3 ?c4 ?c5 ?_)
    |fail)
   case c1=>exact uB w3 (.bool b) ex 225
   case c2=>
    intro u hu;rcases List.mem_cons.1 hu with rfl|hu
    · rfl
    rw[aaP]at hu;subst hu;exact HOC.o
   case c3=>unfold aaV;omega
   case c4=>omega
   case c5=>simp;omega
   intro v' w4 hown' hgrow _
   have HO4:Yf (w4.ownsRow w.heap.size 225 2 v' (l++[a]).length ((l++[a]).flatMap iK)):=by
    rw[aaN,aaL,mH];show aaO _ _ _ _ _ _ _;rw[HIC.o];exact hown'
   have HX4:=hd (HX3'.o.kept HX.o hgrow (fun o ho=>(HO3.o.lt o ho).1))
   have HG4:Yf (w.grownBy w4 (Y2 B)):=by
    refine⟨hgrow.os.trans dF.o.os,hgrow.tape.trans dF.o.tape,hgrow.output.trans dF.o.output,YB dF.o.size hgrow.size,fun k hk hne=> ?_⟩
    rw[hgrow.block k (nlA hk dF.o.size) (by
     intro e;have:=(HO3.o.lt k e.symm).1
     omega)]
    exact dF.o.block k hk hne
   have hl4:=HX4.o.xq;go_wp2_with fail;go_roundw
   case rel=>exact⟨l++[a],q2,HO4,(by have:=HX4.o;rw[nX];exact this),HG4,HR3⟩
   case measure=>omega
def ED(l:List ZU):Bool:=l.any gI
theorem Bg(B:Nat)(lv:Y3)(ts:List Zj)(sz:Nat)(dp:Bool)(w:Y4)(q:List Zj)(h:Cx w B lv ts sz q dp):
   aaT Zc 122 #[Ym (Y2 ⟨B,0,Y1⟩)] w (aj w B lv ts sz dp (aaQ sz) q (Ec B 98 1 nP) ED):=by
 have hmf:∀(fn:Fn) (first cap:Array Y3) (w:Y4),(Instr.makeFunc fn first cap).run Zc w=.ok (.func fn first cap) w:=fun _ _ _ _=>rfl
 have HX:=hd h;clear h;go_enter Tryz.func122,Tryz.ntmps122;go_wp2_with fail;refine(bV ⟨#[40]⟩ w B lv ts sz q dp HX.o (by simp)).mono ?_;rintro x w1 ho;obtain⟨hg,⟨p,c,hr,rfl⟩|⟨_,q1,v,hr,rfl,hv,hx⟩⟩:=ho.cases
 · exact⟨rfl,aj.err hg (Px.Rg.err hr)⟩
 cases hv
 have HR1:=hd hr;have HX1:Yf (Cx w1 B lv ts sz q1 dp):=hx;have HG1:=hd hg;clear hr hx hg ho;go_wp2_with fail;refine(yY B lv ts sz dp w1 q1 HX1.o).mono ?_;rintro x w2 ho;obtain⟨hg,⟨p,c,hr,rfl⟩|⟨l,q2,v,hr,rfl,hv,hx⟩⟩:=ho.cases
 · exact⟨rfl,aj.err (aI HG1.o hg) (Px.Rg.go HR1.o (Px.Rg.err hr))⟩
 have HR2:=hd hr;have HX2:=hd hx;have HG2:=hd (aI HG1.o hg);have HV2:=hd hv
 obtain⟨ao,n,cp,rfl⟩:∃ao n cp,v=Yp ao n cp:=by
  rcases hv.2 with⟨rfl,_⟩|⟨g,cap,cur,rfl,_⟩
  · exact⟨_,_,_,rfl⟩
  exact⟨_,_,_,rfl⟩
 clear hr hx hg ho HG1 hv;go_wp2_with fail;refine(bV ⟨#[41]⟩ w2 B lv ts sz q2 _ HX2.o (by simp)).mono ?_;rintro x w3 ho;obtain⟨hg,⟨p,c,hr,rfl⟩|⟨_,q3,v,hr,rfl,hv,hx⟩⟩:=ho.cases
 · exact⟨rfl,aj.err (aI HG2.o hg) (Px.Rg.go HR1.o (Px.Rg.go HR2.o (Px.Rg.err hr)))⟩
 cases hv
 have HR3:=hd hr;have HX3:=hd hx
 have HV3:=hd (HV2.o.kept hg (by
  cases hv:aaR (Yp ao n cp)with
  |none=>exact .inl rfl
  |some g=>right;have:=(HV2.o.lt g hv).1;simp;omega))
 have HG3:=hd (aI HG2.o hg);clear hr hx hg ho HG2 HV2;go_wp2_with fail;go_ret;exact aj.ok (a:=l) HG3.o (Px.Rg.go HR1.o (Px.Rg.go HR2.o (Px.Rg.go HR3.o rfl))) HV3.o HX3.o
def iM(w:Y4)(base:Nat):List (List ZU)->List Y3->Prop
 |[],[]=>True
 |r::l,v::vs=>w.ownsRow base 98 1 v r.length (r.flatMap nP)/\iM w base l vs
 |_,_=>False
theorem iM.map(f:∀(r:List ZU) (v:Y3),w.ownsRow base 98 1 v r.length (r.flatMap nP)->w'.ownsRow base 98 1 v r.length (r.flatMap nP)):∀{l:List (List ZU)} {vs:List Y3},iM w base l vs->iM w' base l vs
 |[],[],_=>trivial
 |r::l,v::vs,h=>⟨f r v h.1,iM.map f h.2⟩
 |[],_::_,h=>h.elim
 |_::_,[],h=>h.elim
theorem iM.snoc{r:List ZU}(hr:w.ownsRow base 98 1 v r.length (r.flatMap nP)):∀{l:List (List ZU)} {vs:List Y3},iM w base l vs->iM w base (l++[r]) (vs++[v])
 |[],[],_=>⟨hr,trivial⟩
 |_::_,_::_,h=>⟨h.1,iM.snoc hr h.2⟩
 |[],_::_,h=>h.elim
 |_::_,[],h=>h.elim
def Gi(B:Nat)(l:List (List ZU))(v:Y3)(w:Y4):Prop:=∃vs,w.ownsRow (B+1) 132 1 v l.length vs/\iM w (B+1) l vs
theorem Ki(h:w.ownsRow base e size v n xs):∃ao n cp,v=Yp ao n cp:=by
 rcases h.2 with⟨rfl,_⟩|⟨g,cap,cur,rfl,_⟩
 · exact⟨_,_,_,rfl⟩
 exact⟨_,_,_,rfl⟩
theorem Ua(h:w.ownsRow base e size v n xs)(o:Obj):(w.alloc o).ownsRow base e size v n xs:=h.alloc o
theorem aW(h:w.ownsRow (B+1) e size v n xs)(hg:w.grownBy w' (Y2 B)):w'.ownsRow (B+1) e size v n xs:=
 h.kept hg (by
  cases hv:v.ownBlock with
  |none=>exact .inl rfl
  |some g=>right;have:=(h.lt g hv).1;simp;omega)
theorem tL(h:w.ownsRow base e size v n xs):∀g,v.ownBlock=Y2 g->∃cur,w.heap[g]? =Y2 (.cells cur e (0,0)):=by
 intro g hg;rcases h.2 with⟨rfl,_⟩|⟨g',cap,cur,rfl,_,hh,_⟩
 · simp[aaR]at hg
 simp[aaR]at hg;subst hg;exact⟨cur,hh⟩
theorem pV{b1 b2:Nat}{e1 e2:Y5}{s1 s2:Nat}{v1 v2:Y3}{n1 n2:Nat}{x1 x2:List Y3}(h1:w.ownsRow b1 e1 s1 v1 n1 x1)(h2:w.ownsRow b2 e2 s2 v2 n2 x2)(hne:e1≠e2):v1.ownBlock=Y1\/v1.ownBlock≠v2.ownBlock:=by
 cases hv:v1.ownBlock with
 |none=>exact .inl rfl
 |some g=>
  right
  intro e;obtain⟨c1,k1⟩:=tL h1 g hv;obtain⟨c2,k2⟩:=tL h2 g e.symm;rw[k1]at k2;simp only[Option.some.injEq,Obj.cells.injEq]at k2;exact hne k2.2.1
theorem Tryz.info132:(Tryz.prog.info? 132).map (fun i=>(i.zero,i.size,i.bytes))=Y2 (Y2 (Yp Y1 0 0),1,24):=by kernel_rfl
theorem Aq(B:Nat)(lv:Y3)(ts:List Zj)(sz:Nat)(dp:Bool)(w:Y4)(q:List Zj)(h:Cx w B lv ts sz q dp):
   aaT Zc 121 #[Ym (Y2 ⟨B,0,Y1⟩),.func (.func 122) #[Ym (Y2 ⟨B,0,Y1⟩)] #[]] w (aj w B lv ts sz dp (aaH fun _=>aaQ sz) q (Gi B) fun l=>l.any ED):=by
 obtain⟨i0,hi,hz0,hz1,hz2⟩:=aaX Tryz.info132;have HX:=hd h;have hlt:=h.lt
 have zO:q.length<=2000:=by
  obtain⟨k,rfl,h⟩:=h;have:=h.len;simp;omega
 go_enter Tryz.func121,Tryz.ntmps121;go_wp2_with fail;refine(Bg B lv ts sz dp w q HX.o).mono ?_;rintro x w1 ho;obtain⟨hg,⟨p,c,hr,rfl⟩|⟨a,q1,v,hr,rfl,hv,hx⟩⟩:=ho.cases
 · exact⟨rfl,aj.err hg (Px.Sep.err0 hr)⟩
 have HR1:=hd (Px.Reach.first (x:=fun _=>aaQ sz) hr);have HX1:=hd hx;have HG1:=hd hg;have hs1:=hg.size;have HV1:=hd hv;obtain⟨ao,n,cp,rfl⟩:=Ki hv;have HO1:=hd (fw (Fq w1 (Yp ao n cp) 132) hs1);have wF:=hd (HX1.o.below ((Zh _ _).alloc (nlr _) (Yk #[Yp ao n cp] 132)));have wT:=hd (vM HG1.o (Yk #[Yp ao n cp] 132));go_wp2_with fail;go_loopw [5] (fun v wr=>∃(l:List (List ZU)) (vs:List Y3) (q1:List Zj),Yf (wr.ownsRow w.heap.size 132 1 v l.length vs)/\Yf (iM wr (B+1) l vs)/\Yf (Cx wr B lv ts sz q1 (l.any ED||dp))/\Yf (w.grownBy wr (Y2 B))/\Yf (aaI (fun _=>aaQ sz) q l q1)) (fun _ wr=>ts.length-xq wr B)
 case atStart=>exact⟨[a],[Yp ao n cp],q1,HO1,⟨(Ua HV1.o _),trivial⟩,(by show Cx _ _ _ _ _ _ _;have:=wF.o;simpa using this),wT,HR1⟩
 case round=>
  obtain⟨l,vs,q1,HO,HRo,HX1,HG1,HRe⟩:=hrel;have hll:q1.length+l.length<=q.length+1:=HRe.o.len (fun _=>Px.vQ sz)
  cases hs:Zm aaM q1 with
  |false=>
   go_wp2_with fail;refine(dZ ⟨#[44]⟩ wr B lv ts sz q1 _ HX1.o hs (by simp)).mono ?_;rintro x w2 ⟨rfl,hb⟩;have HO2:=hd (eO HO.o hb);have HRo2:=hd (HRo.o.map fun r v hr=>eO hr hb);have HB:=hd hb;go_wp2_with fail;go_ret;exact aj.ok (a:=l) (aI HG1.o (Y9 HB.o)) (Px.Sep.stop HRe.o hs) ⟨vs,fw HO2.o (by omega),HRo2.o⟩ (HX1.o.below HB.o)
  |true=>
   have hcl:=aaa hs;go_wp2_with fail;refine(uh ⟨#[44]⟩ wr B lv ts sz q1 _ HX1.o hs (by simp)).mono ?_;rintro x w2 ⟨rfl,hx2,hg2⟩;have HX2:=hd hx2;have HG2:=hd (aI HG1.o hg2)
   have HO2:=hd (HO.o.kept hg2 (by
    cases hv:u5.ownBlock with
    |none=>exact .inl rfl
    |some g=>right;have:=(HO.o.lt g hv).1;simp;omega))
   have HRo2:=hd (HRo.o.map fun r v hr=>aW hr hg2);have hl1:=HX1.o.xq;go_wp2_with fail;refine(Bg B lv ts sz _ w2 q1.tail HX2.o).mono ?_;rintro x w3 ho;obtain⟨hg,⟨p,c,hr,rfl⟩|⟨a,q2,v,hr,rfl,hv,hx⟩⟩:=ho.cases
   · exact⟨rfl,aj.err (aI HG2.o hg) (Px.Sep.err HRe.o hs hr)⟩
   have HR3:=hd (HRe.o.step hs hr);have hsh:=Px.vQ sz _ _ _ hr;have HX3:=hd hx;have HG3:=hd (aI HG2.o hg)
   have HO3:=hd (HO2.o.kept hg (by
    cases hv:u5.ownBlock with
    |none=>exact .inl rfl
    |some g=>right;have:=(HO2.o.lt g hv).1;simp;omega))
   have HRo3:=hd (HRo2.o.map fun r v hr=>aW hr hg);have hs3:=HG3.o.size;have HV3:=hd hv;obtain⟨ao,n,cp,rfl⟩:=Ki hv;have HX3':=hd (HX3.o.below ((Zh _ _).alloc (nlr _) (Yk #[Yp ao n cp] 132)));have dF:=hd (vM HG3.o (Yk #[Yp ao n cp] 132))
   go_wp2_with(first
    |(at_builtin;refine wpList_append_own _ rfl _ _ 91 rfl w.heap.size 132 i0 (Yp Y1 0 0) 1 24 Tryz.underlying91 hi hz0 hz1 hz2 rfl (by decide) _ _ _ rfl (HO3.o.alloc _) ⟨w3.heap.size,0,Y1⟩ 1 1 [Yp ao n cp] rfl rfl ?c1 ?c2 ?c3 ?c4 ?c5 ?_)
    |fail)
   case c1=>exact Ee w3 (Yp ao n cp) 132
   case c2=>intro u hu;rw[aaP]at hu;subst hu;rfl
   case c3=>unfold aaV;omega
   case c4=>omega
   case c5=>simp;omega
   intro v' w4 hown' hgrow _
   have HO4:Yf (w4.ownsRow w.heap.size 132 1 v' (l++[a]).length (vs++[Yp ao n cp])):=by
    rw[aaN,aaL];exact hown'
   have Xm:Yf (iM w4 (B+1) (l++[a]) (vs++[Yp ao n cp])):=by
    refine iM.snoc ?_ (HRo3.o.map fun r v hr=> ?_)
    · exact(Ua HV3.o _).kept hgrow (pV (Ua HV3.o (Yk #[Yp ao n cp] 132)) (HO3.o.alloc (Yk #[Yp ao n cp] 132)) (by decide))
    exact(Ua hr _).kept hgrow (pV (Ua hr (Yk #[Yp ao n cp] 132)) (HO3.o.alloc (Yk #[Yp ao n cp] 132)) (by decide))
   have HX4:=hd (HX3'.o.kept HX.o hgrow (fun o ho=>(HO3.o.lt o ho).1))
   have HG4:Yf (w.grownBy w4 (Y2 B)):=by
    refine⟨hgrow.os.trans dF.o.os,hgrow.tape.trans dF.o.tape,hgrow.output.trans dF.o.output,YB dF.o.size hgrow.size,fun k hk hne=> ?_⟩
    rw[hgrow.block k (nlA hk dF.o.size) (by
     intro e;have:=(HO3.o.lt k e.symm).1
     omega)]
    exact dF.o.block k hk hne
   have hl4:=HX4.o.xq;go_wp2_with fail;go_roundw
   case rel=>exact⟨l++[a],vs++[Yp ao n cp],q2,HO4,Xm,(by have:=HX4.o;rw[nX];exact this),HG4,HR3⟩
   case measure=>omega
end Go.Proofs.YthhhfcdakfbpkaaGreatDoor
