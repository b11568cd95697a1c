/- Parts of the proof -/
import Derived.Test.YthhhfcdakfbpkaaGreatDoorO1
import Derived.Test.YthhhfcdakfbpkaaGreatDoorOShelf
import Derived.Deep.RegionHeld3
import Derived.Deep.DrawnRows
import Derived.Deep.RegionWith
import Derived.Test.YthhhfcdakfbpkaaGreatDoorRows
import Derived.Lib.LaidU8T
import Derived.PinnedBridge
import Derived.Deep.Strs
import Derived.Lib.ItoaMem
import Derived.Lib.Replace
import Derived.Lib.CountLaws
import Derived.Lib.IndexBytes
namespace Go.Proofs.YthhhfcdakfbpkaaGreatDoor
set_option linter.unusedSimpArgs false
set_option linter.unusedVariables false
set_option maxRecDepth 100000
set_option maxHeartbeats 16000000
open Go.RowKit
variable {w w' w1:World}{B g k n st sz:Nat}{s:ByteArray}{lv:Value}{dp:Bool}{t:TypeId}
def jP:List Lx.Bs:=Lx.DD++Lx.ones
structure Env(w:World):Prop where
 tabs:Lib.Utf8Tabs 5 6 w
 kws:∃t fr,w.heap[4]? =some (.cells (ed Lx.keys) t fr)
 sgs:∃t fr,w.heap[1]? =some (.cells (ed jP) t fr)
 room:12<=w.heap.size
theorem Env.grown(h:Env w)(hg:w.grownBy w' (some B))(hB:12<=B):Env w':=by
 have hr:=h.room
 have hb:∀k,k<12->w'.heap[k]? =w.heap[k]?:=fun k hk=>hg.block k (by omega) (by simp;omega)
 refine⟨⟨fun c hc=> ?_,fun i hi=> ?_⟩,?_,?_,Nat.le_trans hr hg.size⟩
 · rw[World.cell?_of_block (w:=w) (hb _ (by simp))];exact h.tabs.1 c hc
 · rw[World.cell?_of_block (w:=w) (hb _ (by simp)),World.cell?_of_block (w:=w) (hb _ (by simp))];exact h.tabs.2 i hi
 · rw[hb _ (by simp)];exact h.kws
 rw[hb _ (by simp)];exact h.sgs
theorem Env.below(h:Env w)(hb:Below w.heap.size w w'):Env w':=h.grown (B:=w.heap.size) (Below.grownBy hb) h.room
structure NW(w:World):Prop where
 tabs:Lib.Utf8Tabs 5 6 w
 kws:∃t fr,w.heap[4]? =some (.cells (ed Lx.keys) t fr)
 room:12<=w.heap.size
theorem Env.weak(h:Env w):NW w:=⟨h.tabs,h.kws,h.room⟩
theorem ay{w2:World}{row:Option Nat}(h:w.grownBy w1 row)(k:w1.grownBy w2 row):w.grownBy w2 row:=
 ⟨k.os.trans h.os,k.tape.trans h.tape,k.output.trans h.output,Nat.le_trans h.size k.size,fun i hi hne=>(k.block i (nlA hi h.size) hne).trans (h.block i hi hne)⟩
theorem grownBy_refl(w:World)(row:Option Nat):w.grownBy w row:=⟨rfl,rfl,rfl,nlr _,fun _ _ _=>rfl⟩
theorem nK(w:World)(B i:Nat)(v:Value):w.grownBy (w.setCell ⟨B,i,none⟩ v) (some B):=
 ⟨rfl,rfl,rfl,by simp[World.setCell],fun k _ hne=>Below.heap_setCell w _ v k (by simpa using hne)⟩
theorem grownBy_drew{row:Option Nat}(h:w.grownBy w1 row):w.grownBy w1.drew row:=⟨h.os,h.tape,h.output,h.size,h.block⟩
structure Rd(w:World)(B:Nat)(s:ByteArray)(k st:Nat):Prop where
 blk:af w B #[.string s,.int .i64 (k:Int),.int .i64 (st:Int)] 143
 low:12<=B
 env:Env w
 le:k<=s.size
 small:s.size<=2000
theorem Rd.below(h:Rd w B s k st)(hb:Below w.heap.size w w'):Rd w' B s k st:=
 ⟨h.blk.below hb h.blk.lt,h.low,h.env.below hb,h.le,h.small⟩
theorem Rd.drew(h:Rd w B s k st):Rd w.drew B s k st:=
 ⟨h.blk,h.low,⟨h.env.tabs,h.env.kws,h.env.sgs,h.env.room⟩,h.le,h.small⟩
theorem Rd.set1(h:Rd w B s k st)(j:Nat)(hj:j<=s.size):Rd (w.setCell ⟨B,1,none⟩ (.int .i64 (j:Int))) B s j st:=
 ⟨h.blk.set 1 _,h.low,h.env.grown (nK w B 1 _) h.low,hj,h.small⟩
theorem Rd.set2(h:Rd w B s k st)(j:Nat):Rd (w.setCell ⟨B,2,none⟩ (.int .i64 (j:Int))) B s k j:=
 ⟨h.blk.set 2 _,h.low,h.env.grown (nK w B 2 _) h.low,h.le,h.small⟩
def OP(r:Int):Bool:=decide (r=9\/r=10\/r=13\/r=32)
def xe(r:Int):Bool:=decide (r≠10)
def vQ(r:Int):Bool:=decide (48<=r/\r<=57)
def KO(r:Int):Bool:=decide ((97<=r/\r<=122)\/(65<=r/\r<=90)\/r=95\/(48<=r/\r<=57))
theorem qI(r:Int)(w:World):Calls Tryz.prog 111 #[.int .i32 r] w fun e w'=>e=.returned (.bool (OP r))/\w'=w:=by
 go_enter Tryz.func111,Tryz.ntmps111;go_wp2
 all_goals
  go_ret;refine⟨fQ ?_,rfl⟩;rw[Bool.eq_iff_iff];simp[OP];omega
theorem sF(r:Int)(w:World):Calls Tryz.prog 113 #[.int .i32 r] w fun e w'=>e=.returned (.bool (xe r))/\w'=w:=by
 go_enter Tryz.func113,Tryz.ntmps113;go_wp2
 all_goals
  go_ret;refine⟨fQ ?_,rfl⟩;rw[Bool.eq_iff_iff];simp[xe]
theorem je(r:Int)(w:World):Calls Tryz.prog 173 #[.int .i32 r] w fun e w'=>e=.returned (.bool (vQ r))/\w'=w:=by
 go_enter Tryz.func173,Tryz.ntmps173;go_wp2
 all_goals
  go_ret;refine⟨fQ ?_,rfl⟩;rw[Bool.eq_iff_iff];simp[vQ];omega
theorem iF(r:Int)(w:World):Calls Tryz.prog 175 #[.int .i32 r] w fun e w'=>e=.returned (.bool (KO r))/\w'=w:=by
 go_enter Tryz.func175,Tryz.ntmps175;go_wp2_with(go_at_call 173;refine(je _ _).mono ?_;rintro e w' ⟨rfl,rfl⟩)
 all_goals
  go_ret;refine⟨fQ ?_,rfl⟩;rw[Bool.eq_iff_iff];simp[KO,vQ]<;>omega
theorem iA(w:World)(B:Nat)(s:ByteArray)(k st:Nat)(c:Int)(h:Rd w B s k st):
   Calls Tryz.prog 228 #[.pointer (some ⟨B,0,none⟩),.int .i64 c] w fun e w'=>e=.panicked [{v:=.iface 74 (.agg #[.int .i64 (st:Int),.int .i64 c]),recovered:=false}]/\w'=w:=by
 obtain⟨⟨b0,b1,b2⟩,b3,b4,b5⟩:=h.blk.three;go_enter Tryz.func228,Tryz.ntmps228;go_wp2;exact⟨rfl,rfl,rfl⟩
def bu(s:ByteArray)(k:Nat):Int×Nat:=
 if k<s.size then(if Lx.aF (s.data.toList.drop k)=0 then(-2,1)else((Utf8.decode s k).1,Lx.aF (s.data.toList.drop k)))else(-1,0)
theorem get_extract(s:ByteArray)(k j:Nat):(s.extract k s.size).get! j=s.get! (k+j):=by
 have e:(s.extract k s.size).data.toList=s.data.toList.drop k:=Lib.extract_to_end s k
 have g:∀(t:ByteArray) (i:Nat),t.get! i=(t.data.toList[i]?).getD default:=by
  intro t i;show t.data[i]! =_;rw[getElem!_def];simp only[Array.getElem?_toList]
  cases t.data[i]? <;>rfl
 rw[g,g,e,List.getElem?_drop]
theorem decode_extract(s:ByteArray)(k:Nat)(h:k<=s.size):Utf8.decode (s.extract k s.size) 0=Utf8.decode s k:=by
 rw[Lib.decode_at,Lib.decode_at];rw[get_extract,get_extract,get_extract,get_extract];simp only[Nat.zero_add,Nat.add_zero,Nat.sub_zero]
 congr 1
 simp
theorem qH(s:ByteArray)(k:Nat)(h:k<s.size):Lib.decodeGo (s.extract k s.size)=Utf8.decode s k:=by
 unfold Lib.decodeGo;rw[if_neg (by simp;omega),decode_extract s k (by omega)]
theorem yF(s:ByteArray)(k:Nat)(h:¬k<s.size):Lib.decodeGo (s.extract k s.size)=(65533,0):=by
 unfold Lib.decodeGo;rw[if_pos (by simp;omega)]
theorem nW(w:World)(B:Nat)(s:ByteArray)(k st:Nat)(h:Rd w B s k st):
   Calls Tryz.prog 172 #[.pointer (some ⟨B,0,none⟩)] w fun e w'=>e=.returned (.tuple #[.int .i32 (bu s k).1,.int .i64 ((bu s k).2:Int)])/\Below w.heap.size w w':=by
 obtain⟨⟨b0,b1,b2⟩,b3,b4,b5⟩:=h.blk.three;have hle:=h.le;have hsm:=h.small;by_cases hk:k<s.size
 · by_cases hc:Lx.aF (s.data.toList.drop k)=0
   · have hp:bu s k=(-2,1):=by unfold bu;rw[if_pos hk,if_pos hc]
     have hd:=(qH s k hk).trans (oh s k hk hc).1;rw[hp];clear hp hc;go_enter Tryz.func172,Tryz.ntmps172;go_wp2
     go_region_with (go_at_call 227;refine(Tryz.utf8_DecodeRuneInString _ _ h.drew.env.tabs).mono ?_;rintro e w1 ⟨rfl,hb1⟩;simp only[hd])
     all_goals
      go_wp2
      go_ret2
      exact⟨rfl,(Below.refl _ _).drew.trans (by assumption)⟩
   obtain⟨hg1,hg2,hg3⟩:=jL s k hk hc
   have hp:bu s k=(((Utf8.decode s k).1:Int),(Utf8.decode s k).2):=by unfold bu;rw[if_pos hk,if_neg hc,hg1]
   have hd:=qH s k hk
   have hx:¬((Utf8.decode s k).1=65533/\(Utf8.decode s k).2<=1):=by
    rintro⟨q1,q2⟩;rcases hg3 with⟨_,q3,q4⟩|⟨q3,_⟩<;>omega
   rw[hp];generalize Utf8.decode s k=d at*;obtain⟨c,n⟩:=d;clear hp hc hg1 hg2 hg3;simp only;by_cases hc1:c=65533
   · subst hc1
     have hn:1<n:=by simp at hx;omega
     clear hx;go_enter Tryz.func172,Tryz.ntmps172;go_wp2
     go_region_with (go_at_call 227;refine(Tryz.utf8_DecodeRuneInString _ _ h.drew.env.tabs).mono ?_;rintro e w1 ⟨rfl,hb1⟩;simp only[hd])
     all_goals
      go_wp2
      go_ret2
      exact⟨rfl,(Below.refl _ _).drew.trans (by assumption)⟩
   have hn:¬(c:Int)=65533:=by omega
   clear hx hc1;go_enter Tryz.func172,Tryz.ntmps172;go_wp2
   go_region_with (go_at_call 227;refine(Tryz.utf8_DecodeRuneInString _ _ h.drew.env.tabs).mono ?_;rintro e w1 ⟨rfl,hb1⟩;simp only[hd])
   all_goals
    go_wp2
    go_ret2
    exact⟨rfl,(Below.refl _ _).drew.trans (by assumption)⟩
 have hp:bu s k=(-1,0):=by unfold bu;rw[if_neg hk]
 have hd:=yF s k hk;rw[hp];clear hp;go_enter Tryz.func172,Tryz.ntmps172;go_wp2
 go_region_with (go_at_call 227;refine(Tryz.utf8_DecodeRuneInString _ _ h.drew.env.tabs).mono ?_;rintro e w1 ⟨rfl,hb1⟩;simp only[hd])
 all_goals
  go_wp2
  go_ret2
  exact⟨rfl,(Below.refl _ _).drew.trans (by assumption)⟩
section
namespace Px
open Lx (Bs Tok)
inductive E where
 |null
 |bool (b:Bool)
 |num (z:Int)
 |str (s:Bs)
 |nm (s:Bs)
 |un (k:Nat) (e:E)
 |bin (k:Nat) (a b:E)
def E.nodes:E->List Nd
 |.null=>leaf 14 [] 0
 |.bool b=>leaf 15 [] (if b=true then 1 else 0)
 |.num z=>leaf 16 [] z
 |.str s=>leaf 17 s 0
 |.nm s=>leaf 18 s 0
 |.un k e=>aP k e.nodes
 |.bin k a b=>bO k a.nodes b.nodes
def E.depth:E->Nat
 |.un _ e=>e.depth+1
 |.bin _ a b=>max a.depth b.depth+1
 |_=>1
def E.size:E->Nat
 |.un _ e=>e.size+1
 |.bin _ a b=>a.size+b.size+1
 |_=>1
def E.isNum:E->Bool
 |.num _=>true
 |_=>false
def E.ok(n:Nat):E->Prop
 |.num z=> -9223372036854775808<=z/\z<=9223372036854775807
 |.str s=>s.length<=n
 |.nm s=>s.length<=30
 |.un k e=>19<=k/\k<=22/\(k=19->e.isNum=false)/\e.ok n
 |.bin k a b=>23<=k/\k<=36/\a.ok n/\b.ok n
 |_=>True
theorem E.Ah(e:E):e.nodes.length=e.size:=by
 induction e with
 |un k e ih=>simp[E.nodes,E.size,aP,ih]
 |bin k a b iha ihb=>simp[E.nodes,E.size,bO,iha,ihb]
 |_=>simp[E.nodes,E.size,leaf]
theorem E.size_pos(e:E):1<=e.size:=by cases e<;>simp[E.size]
theorem E.oF(e:E):e.depth<=e.size:=by
 induction e with
 |un k e ih=>simp[E.depth,E.size];omega
 |bin k a b iha ihb=>simp[E.depth,E.size];omega
 |_=>simp[E.depth,E.size]
theorem E.tree(e:E)(h:e.ok n):CL e.nodes e.depth:=by
 induction e with
 |un k e ih=>exact(ih h.2.2.2).aP _ (by have:=h.1;have:=h.2.1;simp[eD];omega)
 |bin k a b iha ihb=>exact(iha h.2.2.1).bO _ (by have:=h.1;have:=h.2.1;simp[eD];omega) (ihb h.2.2.2)
 |null=>exact CL.leaf _ _ _ (by decide)
 |bool b=>exact CL.leaf _ _ _ (by decide)
 |num b=>exact CL.leaf _ _ _ (by decide)
 |str b=>exact CL.leaf _ _ _ (by decide)
 |nm b=>exact CL.leaf _ _ _ (by decide)
theorem uX(p:Nat)(z:Int)(r:List Tok):negate p (E.num z).nodes r=if z=bot then some (.error (p,3))else some (.ok ((E.num (-z)).nodes,r)):=by
 simp only[E.nodes,leaf,negate];rw[if_neg (by decide)]
theorem CX(p n:Nat)(e:E)(r:List Tok)(h:e.isNum=false)(ho:e.ok n):negate p e.nodes r=some (.ok ((E.un 19 e).nodes,r)):=by
 cases e with
 |num z=>simp[E.isNum]at h
 |un k e=>
  have:=ho.1;have:=ho.2.1;simp only[E.nodes,aP,negate];rw[if_pos (by omega)];rfl
 |bin k a b=>
  have:=ho.1;have:=ho.2.1;simp only[E.nodes,bO,negate];rw[if_pos (by omega)];rfl
 |_=>
  simp only[E.nodes,leaf,negate];rw[if_pos (by decide)];rfl
end Px
end
section
namespace Px
open Lx (Bs Tok)
abbrev Rg(α:Type):=List Tok->iK α->Prop
def mapR{α β:Type}(f:α->β):iK α->iK β
 |.error e=> .error e
 |.ok (a,q)=> .ok (f a,q)
def Rg.seq{α β:Type}(x:Rg α)(f:α->Rg β):Rg β:=fun ts r=>∃r1,x ts r1/\Then r1 f r
theorem Rg.err{α β:Type}{x:Rg α}{f:α->Rg β}{ts:List Tok}{e:Nat×Nat}(h:x ts (.error e)):Rg.seq x f ts (.error e):=⟨_,h,rfl⟩
theorem Rg.go{α β:Type}{x:Rg α}{f:α->Rg β}{ts q:List Tok}{a:α}{r:iK β}(h:x ts (.ok (a,q)))(h':f a q r):Rg.seq x f ts r:=⟨_,h,h'⟩
def Rg.ret{α:Type}(a:α):Rg α:=fun ts r=>r=.ok (a,ts)
def bL(sz:Nat)(s:Bs):Rg Unit:=fun ts r=>must sz s ts=some r
def nameR(sz:Nat):Rg Bs:=fun ts r=>name sz ts=some r
def Aq(sz:Nat):Rg E:=fun ts r=>Ex sz 1 [] ts (mapR E.nodes r)/\∀e q,r=.ok (e,q)->e.ok 2000/\e.size+q.length<=ts.length
inductive Reach{α:Type}(x:Nat->Rg α)(ts:List Tok):List α->List Tok->Prop
 |first{a:α} {q:List Tok}:x 0 ts (.ok (a,q))->Reach x ts [a] q
 |step {l:List α} {q:List Tok} {a:α} {q':List Tok}:Reach x ts l q->sees iR q=true->x l.length q.tail (.ok (a,q'))->Reach x ts (l++[a]) q'
inductive Sep{α:Type}(x:Nat->Rg α)(ts:List Tok):iK (List α)->Prop
 |err0 {e:Nat×Nat}:x 0 ts (.error e)->Sep x ts (.error e)
 |err {l:List α} {q:List Tok} {e:Nat×Nat}:Reach x ts l q->sees iR q=true->x l.length q.tail (.error e)->Sep x ts (.error e)
 |stop {l:List α} {q:List Tok}:Reach x ts l q->sees iR q=false->Sep x ts (.ok (l,q))
def jf{β:Type}(item:Nat->β->List Tok->Out β)(n:Nat)(b:β)(q:List Tok):Out β:=if sees iR q=true then sep item n b q.tail else some (.ok (b,q))
theorem dR{β:Type}(item:Nat->β->List Tok->Out β)(n:Nat)(a:β)(ts:List Tok):sep item (n+1) a ts=obind (item n a ts) (jf item n):=rfl
theorem aA{β:Type}{item:Nat->β->List Tok->Out β}(h:∀b ts,dh fun n=>item n b ts):∀b ts,dh fun n=>sep item n b ts:=by
 have key:∀n k b ts r,n<=k->sep item n b ts=some r->sep item k b ts=some r:=by
  intro n
  induction n with
  |zero=>intro k b ts r _ hh;cases hh
  |succ n ih=>
   intro k b ts r hk hh
   cases k with
   |zero=>omega
   |succ k=>
    rw[dR]at hh⊢;rcases sU hh with⟨e,h1,rfl⟩|⟨a,q,h1,h2⟩
    · rw[show item k b ts=_ from h b ts n k _ (by omega) h1];rfl
    rw[show item k b ts=_ from h b ts n k _ (by omega) h1];show jf item k a q=some r;unfold jf at h2⊢
    split at h2
    · rename_i c;rw[if_pos c];exact ih k _ _ _ (by omega) h2
    rename_i c;rw[if_neg c];exact h2
 intro b ts n k r hnk hh;exact key n k b ts r hnk hh
theorem rF{β:Type}{item:Nat->β->List Tok->Out β}(h:∀b ts,dh fun n=>item n b ts)(b:β)(q:List Tok):dh fun n=>jf item n b q:=by
 unfold jf;exact aU (aA h _ _) (ag _)
def uH{α β:Type}(x:Nat->Rg α)(item:Nat->β->List Tok->Out β)(acc:List α->β):Prop:=
 ∀(l:List α) (ts:List Tok) (r:iK α),x l.length ts r->∃n,item n (acc l) ts=some (mapR (fun a=>acc (l++[a])) r)
theorem xx{α β:Type}{x:Nat->Rg α}{item:Nat->β->List Tok->Out β}{acc:List α->β}(hg:∀b ts,dh fun n=>item n b ts)(hm:uH x item acc){ts:List Tok}{l:List α}{q:List Tok}(h:Reach x ts l q):
   ∀r,(∃n,jf item n (acc l) q=some r)->∃n,sep item n (acc []) ts=some r:=by
 induction h with
 |first h1=>
  rename_i a q;rintro r ⟨n,hn⟩;obtain⟨k,hk⟩:=hm [] ts _ h1;refine⟨max n k+1,?_⟩;rw[dR,show item (max n k) (acc []) ts=_ from hg _ _ k _ _ (Nat.le_max_right _ _) hk];exact rF hg _ _ n _ _ (Nat.le_max_left _ _) hn
 |step h1 hs hx ih=>
  rename_i l q a q';rintro r ⟨n,hn⟩;obtain⟨k,hk⟩:=hm l _ _ hx;refine ih r ⟨max n k+1,?_⟩;unfold jf;rw[if_pos hs,dR,show item (max n k) (acc l) q.tail=_ from hg _ _ k _ _ (Nat.le_max_right _ _) hk];exact rF hg _ _ n _ _ (Nat.le_max_left _ _) hn
theorem jG{α β:Type}{x:Nat->Rg α}{item:Nat->β->List Tok->Out β}{acc:List α->β}(hg:∀b ts,dh fun n=>item n b ts)(hm:uH x item acc){ts:List Tok}{r:iK (List α)}(h:Sep x ts r):
   ∃n,sep item n (acc []) ts=some (mapR acc r):=by
 cases h with
 |err0 h1=>
  obtain⟨k,hk⟩:=hm [] ts _ h1;exact⟨k+1,by rw[dR,hk];rfl⟩
 |err h1 hs hx=>
  rename_i l q e;obtain⟨k,hk⟩:=hm l _ _ hx;refine xx hg hm h1 _ ⟨k+1,?_⟩;unfold jf;rw[if_pos hs,dR,hk];rfl
 |stop h1 hs=>
  refine xx hg hm h1 _ ⟨0,?_⟩;unfold jf;rw[if_neg (by simp[hs])]
  rfl
def aR{α:Type}(x:Rg α):Prop:=∀ts a q,x ts (.ok (a,q))->q.length<=ts.length
theorem Reach.len{α:Type}{x:Nat->Rg α}(hx:∀i,aR (x i)){ts:List Tok}{l:List α}{q:List Tok}(h:Reach x ts l q):q.length+l.length<=ts.length+1:=by
 induction h with
 |first h1=>have:=hx _ _ _ _ h1;simp;omega
 |step h1 hs h2 ih=>
  have:=hx _ _ _ _ h2;have:=bg hs;simp;omega
inductive St where
 |create (t:Bs) (cols:List (Bs×Nat))
 |drop (t:Bs)
 |insert (t:Bs) (rows:List (List E))
 |delete (t:Bs) (w:Option E)
 |update (t:Bs) (sets:List (Bs×E)) (w:Option E)
 |select (items:List (Option E)) (t:Bs) (w:Option E) (orders:List (E×Bool)) (lim:Option Nat)
def nG(c:Bs×Nat):Nd:=⟨2,c.1,c.2,0⟩
def GL(r:List E):List Nd:=⟨5,[],0,r.length⟩::r.flatMap E.nodes
def CG(s:Bs×E):List Nd:=⟨8,s.1,0,1⟩::s.2.nodes
def itemN:Option E->List Nd
 |none=>[⟨10,[],0,0⟩]
 |some e=>e.nodes
def dL(o:E×Bool):List Nd:=⟨12,[],if o.2=true then 1 else 0,1⟩::o.1.nodes
def dP:Option E->List Nd
 |none=>[]
 |some e=>aP 11 e.nodes
def limN:Option Nat->List Nd
 |none=>[]
 |some n=>[⟨13,[],n,0⟩]
def one?{α:Type}:Option α->Nat
 |none=>0
 |some _=>1
def St.nodes:St->List Nd
 |.create t c=>⟨1,t,0,c.length⟩::c.map nG
 |.drop t=>[⟨3,t,0,0⟩]
 |.insert t r=>⟨4,t,0,r.length⟩::r.flatMap GL
 |.delete t w=>⟨6,t,0,one? w⟩::dP w
 |.update t s w=>⟨7,t,0,s.length+one? w⟩::(s.flatMap CG++dP w)
 |.select i t w o l=>⟨9,t,0,i.length+one? w+o.length+one? l⟩::(i.flatMap itemN++dP w++o.flatMap dL++limN l)
def deepest:List E->Nat
 |[]=>0
 |e::l=>max e.depth (deepest l)
def St.exprs:St->List E
 |.create _ _=>[]
 |.drop _=>[]
 |.insert _ r=>r.flatten
 |.delete _ w=>w.toList
 |.update _ s w=>s.map (·.2)++w.toList
 |.select i _ w o _=>i.filterMap id++w.toList++o.map (·.1)
def fE(sz:Nat):Rg Nat:=fun ts r=>
 if sees ll ts=true then r=.ok (1,ts.tail)else if sees mK ts=true then r=.ok (2,ts.tail)else Rg.seq (bL sz iP) (fun _=>Rg.ret 3) ts r
def ja(sz:Nat)(n:Bs)(k:Nat):Rg (Bs×Nat):=fun ts r=>
 if sees jA ts=true then Rg.seq (bL sz aZ) (fun _=>Rg.ret (n,k+4)) ts.tail r else r=.ok ((n,k),ts)
def jq(sz:Nat)(i:Nat):Rg (Bs×Nat):=fun ts r=>
 Rg.seq (nameR sz) (fun n q r=>if 6<=i then r=.error (plc sz ts,4)else Rg.seq (fE sz) (ja sz n) q r) ts r
def Af(sz:Nat):Rg St:=
 Rg.seq (bL sz kS) fun _=>Rg.seq (nameR sz) fun t=>Rg.seq (bL sz mH) fun _=>Rg.seq (Sep (jq sz)) fun l=>Rg.seq (bL sz lC) fun _=>Rg.ret (.create t l)
def zG(sz:Nat):Rg (List E):=Rg.seq (bL sz mH) fun _=>Rg.seq (Sep fun _=>Aq sz) fun l=>Rg.seq (bL sz lC) fun _=>Rg.ret l
def zq(sz:Nat):Rg St:=Rg.seq (bL sz ET) fun _=>Rg.seq (nameR sz) fun t=>Rg.seq (bL sz rZ) fun _=>Rg.seq (Sep fun _=>zG sz) fun l=>Rg.ret (.insert t l)
def eY(sz:Nat):Rg (Option E):=fun ts r=>if sees uV ts=true then Rg.seq (Aq sz) (fun e=>Rg.ret (some e)) ts.tail r else r=.ok (none,ts)
def zh(sz:Nat):Rg (Bs×E):=Rg.seq (nameR sz) fun n=>Rg.seq (bL sz Si) fun _=>Rg.seq (Aq sz) fun e=>Rg.ret (n,e)
def ze(sz:Nat):Rg St:=Rg.seq (nameR sz) fun t=>Rg.seq (bL sz LD) fun _=>Rg.seq (Sep fun _=>zh sz) fun l=>Rg.seq (eY sz) fun w=>Rg.ret (.update t l w)
def fZ(sz:Nat):Rg (Option E):=fun ts r=>if sees Jb ts=true then r=.ok (none,ts.tail)else Rg.seq (Aq sz) (fun e=>Rg.ret (some e)) ts r
def iy(e:E):Rg (E×Bool):=fun ts r=>
 if sees Ce ts=true then r=.ok ((e,true),ts.tail)else if sees Nj ts=true then r=.ok ((e,false),ts.tail)else r=.ok ((e,false),ts)
def jl(sz:Nat):Rg (E×Bool):=Rg.seq (Aq sz) iy
def bY(sz:Nat):Rg (List (E×Bool)):=fun ts r=>if sees pO ts=true then Rg.seq (bL sz OQ) (fun _=>Sep fun _=>jl sz) ts.tail r else r=.ok ([],ts)
def yN(sz:Nat):Rg (Option Nat):=fun ts r=>if sees jk ts=true then Rg.seq (fun ts r=>limit sz ts=some r) (fun n=>Rg.ret (some n)) ts.tail r else r=.ok (none,ts)
def Ad(sz:Nat):Rg St:=
 Rg.seq (Sep fun _=>fZ sz) fun i=>Rg.seq (bL sz qV) fun _=>Rg.seq (nameR sz) fun t=>Rg.seq (eY sz) fun w=>Rg.seq (bY sz) fun o=>Rg.seq (yN sz) fun l=>Rg.ret (.select i t w o l)
def M7(sz:Nat):Rg St:=Rg.seq (bL sz kS) fun _=>Rg.seq (nameR sz) fun t=>Rg.ret (.drop t)
def yU(sz:Nat):Rg St:=Rg.seq (bL sz qV) fun _=>Rg.seq (nameR sz) fun t=>Rg.seq (eY sz) fun w=>Rg.ret (.delete t w)
def cZ(sz:Nat):Rg St:=fun ts r=>
 if sees eX ts=true then Af sz ts.tail r else if sees kP ts=true then M7 sz ts.tail r else if sees gI ts=true then zq sz ts.tail r
 else if sees gW ts=true then yU sz ts.tail r else if sees jh ts=true then ze sz ts.tail r
 else Rg.seq (bL sz kz) (fun _=>Ad sz) ts r
def ParseR(s:Bs)(r:Except (Nat×Nat) St):Prop:=
 match Lx.lex s with
 |.error e=>r=.error e
 |.ok ts=>∃q,cZ s.length ts q/\match q with
  |.error e=>r=.error e
  |.ok (a,u)=>if u=[]then r=(if 40<deepest a.exprs then .error (0,6)else .ok a)else r=.error (plc s.length u,4)
end Px
end
section
namespace Px
open Lx (Bs Tok)
def All{α:Type}(x:Rg α)(P:α->Prop):Prop:=∀ts a q,x ts (.ok (a,q))->P a
theorem seq_ok{α β:Type}{x:Rg α}{f:α->Rg β}{ts:List Tok}{r:iK β}(h:Rg.seq x f ts r):(∃e,x ts (.error e)/\r=.error e)\/∃a q,x ts (.ok (a,q))/\f a q r:=by
 obtain⟨r1,h1,h2⟩:=h
 match r1,h1,h2 with
 |.error e,h1,h2=>exact .inl ⟨e,h1,h2⟩
 |.ok (a,q),h1,h2=>exact .inr ⟨a,q,h1,h2⟩
theorem All.seq{α β:Type}{x:Rg α}{f:α->Rg β}{P:α->Prop}{Q:β->Prop}(hx:All x P)(hf:∀a,P a->All (f a) Q):All (Rg.seq x f) Q:=by
 intro ts b q h;rcases seq_ok h with⟨e,_,h2⟩|⟨a,q1,h1,h2⟩
 · cases h2
 exact hf a (hx _ _ _ h1) _ _ _ h2
theorem All.ret{α:Type}{a:α}{P:α->Prop}(h:P a):All (Rg.ret a) P:=by
 intro ts b q hb
 cases hb;exact h
theorem All.any{α:Type}(x:Rg α):All x fun _=>True:=fun _ _ _ _=>trivial
theorem All.reach{α:Type}{x:Nat->Rg α}{P:α->Prop}(hx:∀i,All (x i) P){ts:List Tok}{l:List α}{q:List Tok}(h:Reach x ts l q):∀a∈l,P a:=by
 induction h with
 |first h1=>intro a ha;simp at ha;subst ha;exact hx _ _ _ _ h1
 |step h1 hs h2 ih=>
  intro a ha;rcases List.mem_append.1 ha with ha|ha
  · exact ih a ha
  simp at ha;subst ha;exact hx _ _ _ _ h2
theorem All.sep{α:Type}{x:Nat->Rg α}{P:α->Prop}(hx:∀i,All (x i) P):All (Sep x) fun l=>∀a∈l,P a:=by
 intro ts l q h
 cases h with
 |stop h1 _=>exact All.reach hx h1
theorem fP(sz:Nat)(s:Bs):aR (bL sz s):=by
 intro ts a q h;rcases aK h with⟨h1,h2⟩|⟨h1,h2⟩
 · cases h2;have:=bg h1;omega
 cases h2
theorem oW(sz:Nat):aR (nameR sz):=by
 intro ts a q h;unfold nameR at h
 cases ts with
 |nil=>simp[name]at h
 |cons t r=>
  simp only[name]at h
  split at h
  · cases h
  split at h
  · cases h
  cases h;simp
theorem gF(sz:Nat):aR (Aq sz):=by
 intro ts a q h;have:=(h.2 _ _ rfl).2;have:=a.size_pos;omega
theorem aR.seq{α β:Type}{x:Rg α}{f:α->Rg β}(hx:aR x)(hf:∀a,aR (f a)):aR (Rg.seq x f):=by
 intro ts b q h;rcases seq_ok h with⟨e,_,h2⟩|⟨a,q1,h1,h2⟩
 · cases h2
 exact Nat.le_trans (hf a _ _ _ h2) (hx _ _ _ h1)
theorem aR.ret{α:Type}(a:α):aR (Rg.ret a):=by intro ts b q h;cases h;exact nlr _
theorem aR.sep{α:Type}{x:Nat->Rg α}(hx:∀i,aR (x i)):aR (Sep x):=by
 intro ts l q h
 cases h with
 |stop h1 _=>
  have:=h1.len hx
  have:1<=l.length:=by cases h1<;>simp
  omega
theorem gU(ts:List Tok):ts.tail.length<=ts.length:=by cases ts<;>simp
theorem yE(sz:Nat):aR (fE sz):=by
 intro ts a q h;unfold fE at h
 split at h
 · cases h;exact gU _
 split at h
 · cases h;exact gU _
 exact(fP sz _).seq (fun _=>aR.ret _) _ _ _ h
theorem zY(sz:Nat)(n:Bs)(k:Nat):aR (ja sz n k):=by
 intro ts a q h;unfold ja at h
 split at h
 · exact Nat.le_trans ((fP sz _).seq (fun _=>aR.ret _) _ _ _ h) (gU _)
 cases h;exact nlr _
theorem ru(sz i:Nat):aR (jq sz i):=by
 intro ts a q h;unfold jq at h;rcases seq_ok h with⟨e,_,h2⟩|⟨a,q1,h1,h2⟩
 · cases h2
 have:=oW sz _ _ _ h1
 split at h2
 · cases h2
 exact Nat.le_trans ((yE sz).seq (zY sz _) _ _ _ h2) this
theorem qU(sz:Nat):aR (zG sz):=(fP sz _).seq fun _=>(aR.sep fun _=>gF sz).seq fun _=>(fP sz _).seq fun _=>aR.ret _
theorem qP(sz:Nat):aR (zh sz):=(oW sz).seq fun _=>(fP sz _).seq fun _=>(gF sz).seq fun _=>aR.ret _
theorem o8(sz:Nat):aR (fZ sz):=by
 intro ts a q h;unfold fZ at h
 split at h
 · cases h;exact gU _
 exact(gF sz).seq (fun _=>aR.ret _) _ _ _ h
theorem mE(sz:Nat):aR (jl sz):=(gF sz).seq fun e=>by
 intro ts a q h;unfold iy at h
 split at h
 · cases h;exact gU _
 split at h
 · cases h;exact gU _
 cases h;exact nlr _
theorem az{α β α' β':Type}{x:Rg α}{f:α->Rg β}{X:Nat->Out α'}{F:Nat->α'->List Tok->Out β'}{g:α->α'}{h:β->β'}{ts:List Tok}{r:iK β}
   (hs:Rg.seq x f ts r) (h1:∀r1,x ts r1->∃n,X n=some (mapR g r1)) (h2:∀a q,x ts (.ok (a,q))->f a q r->∃n,F n (g a) q=some (mapR h r)) (hX:dh X) (hF:∀a q,dh fun n=>F n a q):∃n,obind (X n) (F n)=some (mapR h r):=by
 rcases seq_ok hs with⟨e,ha,rfl⟩|⟨a,q,ha,hb⟩
 · obtain⟨n,hn⟩:=h1 _ ha;exact⟨n,by rw[hn];rfl⟩
 obtain⟨n,hn⟩:=h1 _ ha;obtain⟨k,hk⟩:=h2 a q ha hb;refine⟨max n k,?_⟩;rw[show X (max n k)=_ from hX n _ _ (Nat.le_max_left _ _) hn];exact hF _ _ k _ _ (Nat.le_max_right _ _) hk
theorem zU{α:Type}(r:iK α):mapR id r=r:=by
 match r with
 |.error _=>rfl
 |.ok (_,_)=>rfl
theorem bI{s:Bs}{ts:List Tok}:∀r1,bL sz s ts r1->∃_:Nat,must sz s ts=some (mapR id r1):=fun _ h=>⟨0,by rw[zU];exact h⟩
theorem fu{ts:List Tok}:∀r1,nameR sz ts r1->∃_:Nat,name sz ts=some (mapR id r1):=fun _ h=>⟨0,by rw[zU];exact h⟩
theorem oL{ts:List Tok}:∀r1,Aq sz ts r1->∃n:Nat,ex sz n 1 [] ts=some (mapR E.nodes r1):=fun _ h=>h.1
theorem dF(sz:Nat):∀b ts,dh fun n=>item sz n b ts:=fun b ts=>aJ (bD sz 1 [] ts) fun _ _=>ag _
def nN{α:Type}(g:α->List Nd)(l:List α):List Nd×Nat:=(l.flatMap g,l.length)
theorem fF{α:Type}(g:α->List Nd)(l:List α)(a:α):nN g (l++[a])=((nN g l).1++g a,(nN g l).2+1):=by simp[nN]
theorem CQ(sz:Nat):uH (fun _=>Aq sz) (item sz) (nN E.nodes):=by
 intro l ts r h;obtain⟨n,hn⟩:=h.1;refine⟨n,?_⟩;unfold item;rw[hn]
 match r with
 |.error e=>rfl
 |.ok (e,q)=>simp only[mapR,obind,fF]
theorem gY(sz:Nat):∀b ts,dh fun n=>row sz n b ts:=fun b ts=>aJ (ag _) fun _ _=>aJ (aA (dF sz) _ _) fun _ _=>aJ (ag _) fun _ _=>ag _
theorem GV(sz:Nat):uH (fun _=>zG sz) (row sz) (nN GL):=by
 intro l ts r h;unfold row;refine az h bI (fun _ q _ h=> ?_) ?_ (fun _ _=> ?_);refine az h (fun _ h1=>jG (dF sz) (CQ sz) h1) (fun m q _ h=> ?_) ?_ (fun _ _=> ?_);refine az h bI (fun _ q _ h=> ?_) ?_ (fun _ _=> ?_);refine⟨0,?_⟩
 cases h
 simp only[mapR,fF]
 rfl
 all_goals repeat' (first|exact ag _|exact bD _ _ _ _|exact aA (dF _) _ _|refine aJ ?_ (fun _ _=> ?_)|refine aU ?_ ?_)
theorem fB(sz:Nat)(ts:List Tok):dh fun n=>eZ sz n ts:=aU (aJ (bD sz 1 [] _) fun _ _=>ag _) (ag _)
theorem lM{ts:List Tok}:∀r,eY sz ts r->∃n,eZ sz n ts=some (mapR (fun w=>(dP w,one? w)) r):=by
 intro r h;unfold eY at h;unfold eZ
 split at h
 · rename_i c;simp only[if_pos c];refine az h oL (fun e q _ h=> ?_) ?_ (fun _ _=> ?_)
   cases h
   exact⟨0,rfl⟩
   all_goals repeat' (first|exact ag _|exact bD _ _ _ _|exact aA (dF _) _ _|refine aJ ?_ (fun _ _=> ?_)|refine aU ?_ ?_)
 rename_i c;simp only[if_neg c]
 cases h
 exact⟨0,rfl⟩
theorem dW(sz:Nat):∀b ts,dh fun n=>zJ sz n b ts:=fun b ts=>aJ (ag _) fun _ _=>aJ (ag _) fun _ _=>aJ (bD sz 1 [] _) fun _ _=>ag _
theorem Ag(sz:Nat):uH (fun _=>zh sz) (zJ sz) (nN CG):=by
 intro l ts r h;unfold zJ;refine az h fu (fun n q _ h=> ?_) ?_ (fun _ _=> ?_);refine az h bI (fun _ q _ h=> ?_) ?_ (fun _ _=> ?_);refine az h oL (fun e q _ h=> ?_) ?_ (fun _ _=> ?_);refine⟨0,?_⟩
 cases h
 simp only[mapR,fF]
 rfl
 all_goals repeat' (first|exact ag _|exact bD _ _ _ _|refine aJ ?_ (fun _ _=> ?_)|refine aU ?_ ?_)
theorem fe(sz:Nat):∀b ts,dh fun n=>pick sz n b ts:=fun b ts=>aU (ag _) (dF sz b ts)
theorem Ez(sz:Nat):uH (fun _=>fZ sz) (pick sz) (nN itemN):=by
 intro l ts r h;unfold fZ at h;unfold pick
 split at h
 · rename_i c;simp only[if_pos c];refine⟨0,?_⟩
   cases h
   simp only[mapR,fF]
   rfl
 rename_i c;simp only[if_neg c];unfold item;refine az h oL (fun e q _ h=> ?_) ?_ (fun _ _=> ?_);refine⟨0,?_⟩
 cases h
 simp only[mapR,fF]
 rfl
 all_goals repeat' (first|exact ag _|exact bD _ _ _ _|refine aJ ?_ (fun _ _=> ?_)|refine aU ?_ ?_)
theorem jJ{s t:Bs}{ts:List Tok}(h:sees s ts=true)(hne:s≠t):sees t ts=false:=by
 obtain⟨x,r,rfl⟩:=qF h;simp only[sees,Bool.and_eq_true,beq_iff_eq]at h;simp only[sees,Bool.and_eq_false_iff,beq_eq_false_iff_ne];exact .inr (by rw[h.2];exact hne)
theorem dO(sz:Nat):∀b ts,dh fun n=>order sz n b ts:=fun b ts=>aJ (bD sz 1 [] _) fun _ _=>ag _
theorem yA{ts:List Tok}{r:iK St}(h:zq sz ts r):∃n,insert sz n ts=some (mapR St.nodes r):=by
 unfold insert;refine az h bI (fun _ q _ h=> ?_) ?_ (fun _ _=> ?_);refine az h fu (fun t q _ h=> ?_) ?_ (fun _ _=> ?_);refine az h bI (fun _ q _ h=> ?_) ?_ (fun _ _=> ?_);refine az h (fun _ h1=>jG (gY sz) (GV sz) h1) (fun m q _ h=> ?_) ?_ (fun _ _=> ?_)
 cases h
 exact⟨0,rfl⟩
 all_goals repeat' (first|exact ag _|exact bD _ _ _ _|exact fB _ _|exact aA (dF _) _ _|exact aA (gY _) _ _|exact aA (dW _) _ _|exact aA (fe _) _ _|exact aA (dO _) _ _|refine aJ ?_ (fun _ _=> ?_)|refine aU ?_ ?_)
theorem Al{ts:List Tok}{r:iK St}(h:ze sz ts r):∃n,update sz n ts=some (mapR St.nodes r):=by
 unfold update;refine az h fu (fun t q _ h=> ?_) ?_ (fun _ _=> ?_);refine az h bI (fun _ q _ h=> ?_) ?_ (fun _ _=> ?_);refine az h (fun _ h1=>jG (dW sz) (Ag sz) h1) (fun m q _ h=> ?_) ?_ (fun _ _=> ?_);refine az h lM (fun w q _ h=> ?_) ?_ (fun _ _=> ?_)
 cases h
 exact⟨0,rfl⟩
 all_goals repeat' (first|exact ag _|exact bD _ _ _ _|exact fB _ _|exact aA (dF _) _ _|exact aA (gY _) _ _|exact aA (dW _) _ _|exact aA (fe _) _ _|exact aA (dO _) _ _|refine aJ ?_ (fun _ _=> ?_)|refine aU ?_ ?_)
theorem zD{ts:List Tok}{r:iK St}(h:yU sz ts r):∃n,delete sz n ts=some (mapR St.nodes r):=by
 unfold delete;refine az h bI (fun _ q _ h=> ?_) ?_ (fun _ _=> ?_);refine az h fu (fun t q _ h=> ?_) ?_ (fun _ _=> ?_);refine az h lM (fun w q _ h=> ?_) ?_ (fun _ _=> ?_)
 cases h
 exact⟨0,rfl⟩
 all_goals repeat' (first|exact ag _|exact bD _ _ _ _|exact fB _ _|exact aA (dF _) _ _|exact aA (gY _) _ _|exact aA (dW _) _ _|exact aA (fe _) _ _|exact aA (dO _) _ _|refine aJ ?_ (fun _ _=> ?_)|refine aU ?_ ?_)
theorem Dw{ts:List Tok}{r:iK St}(h:M7 sz ts r):∃_:Nat,drop sz ts=some (mapR St.nodes r):=by
 unfold drop;refine az h bI (fun _ q _ h=> ?_) ?_ (fun _ _=> ?_);refine az h fu (fun t q _ h=> ?_) ?_ (fun _ _=> ?_)
 cases h
 exact⟨0,rfl⟩
 all_goals repeat' (first|exact ag _|exact bD _ _ _ _|exact fB _ _|exact aA (dF _) _ _|exact aA (gY _) _ _|exact aA (dW _) _ _|exact aA (fe _) _ _|exact aA (dO _) _ _|refine aJ ?_ (fun _ _=> ?_)|refine aU ?_ ?_)
end Px
end
section
namespace Px
open Lx (Bs Tok)
theorem oo(sz:Nat)(x:List Nd×Nat)(ts:List Tok):dh fun n=>orders sz n x ts:=aU (aJ (ag _) fun _ _=>aA (dO sz) _ _) (ag _)
theorem sO(sz:Nat)(x:List Nd×Nat):uH (fun _=>jl sz) (order sz) (fun l=>(x.1++(nN dL l).1,x.2+(nN dL l).2)):=by
 intro l ts r h;unfold order;refine az h oL (fun e q _ h=> ?_) (bD _ _ _ _) (fun _ _=>ag _);refine⟨0,?_⟩;unfold iy at h
 split at h
 · rename_i c;rw[if_neg (by rw[jJ c (by decide)];decide),if_pos c]
   cases h
   simp only[mapR,fF,laa,Nat.add_assoc]
   rfl
 rename_i c
 split at h
 · rename_i c2;rw[if_pos c2]
   cases h
   simp only[mapR,fF,laa,Nat.add_assoc]
   rfl
 rename_i c2;rw[if_neg c2,if_neg c]
 cases h
 simp only[mapR,fF,laa,Nat.add_assoc]
 rfl
theorem zS{x:List Nd×Nat}{ts:List Tok}:∀r,bY sz ts r->∃n,orders sz n x ts=some (mapR (fun l=>(x.1++(nN dL l).1,x.2+(nN dL l).2)) r):=by
 intro r h;unfold bY at h;unfold orders
 split at h
 · rename_i c;simp only[if_pos c];refine az h bI (fun _ q _ h=> ?_) (ag _) (fun _ _=>aA (dO sz) _ _);have:=jG (dO sz) (sO sz x) h;simpa[nN]using this
 rename_i c;simp only[if_neg c]
 cases h
 exact⟨0,by simp[mapR,nN]⟩
theorem yO{x:List Nd×Nat}{ts:List Tok}:∀r,yN sz ts r->∃_:Nat,limits sz x ts=some (mapR (fun l=>(x.1++limN l,x.2+one? l)) r):=by
 intro r h;unfold yN at h;unfold limits
 split at h
 · rename_i c;simp only[if_pos c];refine az (g:=id) h (fun r1 h1=>⟨0,by rw[zU];exact h1⟩) (fun _ q _ h=> ?_) (ag _) (fun _ _=>ag _)
   cases h
   exact⟨0,rfl⟩
 rename_i c;simp only[if_neg c]
 cases h
 exact⟨0,by simp[mapR,limN,one?]⟩
theorem zO{ts:List Tok}{r:iK St}(h:Ad sz ts r):∃n,choose sz n ts=some (mapR St.nodes r):=by
 unfold choose;refine az h (fun _ h1=>jG (fe sz) (Ez sz) h1) (fun i q _ h=> ?_) ?_ (fun _ _=> ?_);refine az h bI (fun _ q _ h=> ?_) ?_ (fun _ _=> ?_);refine az h fu (fun t q _ h=> ?_) ?_ (fun _ _=> ?_);refine az h lM (fun w q _ h=> ?_) ?_ (fun _ _=> ?_);refine az h zS (fun o q _ h=> ?_) ?_ (fun _ _=> ?_);refine az h yO (fun l q _ h=> ?_) ?_ (fun _ _=> ?_)
 · refine⟨0,?_⟩
   cases h
   simp only[mapR,nN,St.nodes,id,Option.some.injEq,Except.ok.injEq,Prod.mk.injEq,List.cons.injEq,Nd.mk.injEq,true_and,and_true];omega
 all_goals repeat' (first|exact ag _|exact fB _ _|exact oo _ _ _|exact aA (fe _) _ _|refine aJ ?_ (fun _ _=> ?_))
theorem uB{q:List Tok}{r:iK Nat}(h:fE sz q r):EP sz q=some (mapR (fun k:Nat=>(k:Int)) r)\/∃q1,r=.ok (1,q1)/\sees mK q1=true/\EP sz q=some (.error (plc sz q1,4)):=by
 unfold fE at h;unfold EP
 split at h
 · rename_i c;rw[if_pos c];subst h;by_cases ht:sees mK q.tail=true
   · right;exact⟨_,rfl,ht,by rw[if_pos ht]⟩
   left;rw[if_neg ht];rfl
 rename_i c;rw[if_neg c]
 left
 split at h
 · rename_i c2;rw[if_pos c2,h];rfl
 rename_i c2;rw[if_neg c2];rcases seq_ok h with⟨e,h1,rfl⟩|⟨a,q1,h1,h2⟩
 · rw[show must sz iP q=_ from h1];rfl
 rw[show must sz iP q=_ from h1]
 cases h2;rfl
theorem mg(sz:Nat){l:List (Bs×Nat)}{ts:List Tok}{r:iK (Bs×Nat)}(hl:l.length<=6)(h:jq sz l.length ts r):
   AV sz (l.map nG) ts=some (mapR (fun a=>(l++[a]).map nG) r)\/∃a q,r=.ok (a,q)/\sees mK q=true/\AV sz (l.map nG) ts=some (.error (plc sz q,4)):=by
 unfold jq at h;unfold AV;rcases seq_ok h with⟨e,h1,rfl⟩|⟨n,q,h1,h2⟩
 · left
   rw[show name sz ts=_ from h1];rfl
 rw[show name sz ts=_ from h1];simp only[obind,List.length_map]
 split at h2
 · rename_i c;subst h2
   left;rw[if_pos (by omega)];rfl
 rename_i c;rw[if_neg (by omega)];rcases seq_ok h2 with⟨e,h3,rfl⟩|⟨k,q1,h3,h4⟩
 · rcases uB h3 with h5|⟨_,h5,_⟩
   · left;rw[h5];rfl
   cases h5
 rcases uB h3 with h5|⟨q2,h5,h6,h7⟩
 · left
   rw[h5];simp only[mapR];unfold ja at h4
   split at h4
   · rename_i c2;rw[if_pos c2];rcases seq_ok h4 with⟨e,h8,rfl⟩|⟨_,q3,h8,h9⟩
     · rw[show must sz aZ q1.tail=_ from h8]
     rw[show must sz aZ q1.tail=_ from h8]
     cases h9
     simp[mapR,nG]
   rename_i c2;rw[if_neg c2];subst h4;simp[mapR,nG]
 right
 cases h5
 have hn:=jJ h6 (t:=jA) (by decide);unfold ja at h4;rw[if_neg (by simp[hn])]at h4;exact⟨_,_,h4,h6,by rw[h7]⟩
theorem yg(sz:Nat):∀(b:List Nd) ts,dh fun n=>(fun(_:Nat) l q=>AV sz l q) n b ts:=fun _ _=>ag _
theorem xK{ts:List Tok}{l:List (Bs×Nat)}{q:List Tok}(h:Reach (jq sz) ts l q):
   l.length<=6/\((∀r,(∃n,jf (fun _ l q=>AV sz l q) n (l.map nG) q=some r)->∃n,sep (fun _ l q=>AV sz l q) n [] ts=some r)\/(sees mK q=true/\∃n,sep (fun _ l q=>AV sz l q) n [] ts=some (.error (plc sz q,4)))):=by
 have six:∀{i:Nat} {ts:List Tok} {a:Bs×Nat} {q:List Tok},jq sz i ts (.ok (a,q))->i<6:=by
  intro i ts a q h;unfold jq at h;rcases seq_ok h with⟨e,h1,h2⟩|⟨n,q,h1,h2⟩
  · cases h2
  split at h2
  · cases h2
  omega
 induction h with
 |first h1=>
  rename_i a q;refine⟨by simp,?_⟩;rcases mg sz (l:=[]) (by simp) h1 with h2|⟨a',q',h3,h4,h5⟩
  · left
    rintro r ⟨n,hn⟩;refine⟨n+1,?_⟩;rw[dR];rw[show AV sz [] ts=_ from h2];exact hn
  right
  cases h3
  exact⟨h4,1,by rw[dR,show AV sz [] ts=_ from h5];rfl⟩
 |step h1 hs hx ih=>
  rename_i l q a q';obtain⟨i1,i2⟩:=ih;have:=six hx;refine⟨by simp;omega,?_⟩;rcases i2 with i2|⟨i2,_⟩
  · rcases mg sz i1 hx with h2|⟨a',q2,h3,h4,h5⟩
    · left
      rintro r ⟨n,hn⟩;refine i2 r ⟨n+1,?_⟩;unfold jf;rw[if_pos hs,dR,h2];exact hn
    right
    cases h3
    refine⟨h4,i2 _ ⟨1,?_⟩⟩;unfold jf;rw[if_pos hs,dR,h5];rfl
  exfalso
  rw[jJ i2 (by decide)]at hs
  cases hs
theorem zN{ts:List Tok}{r:iK St}(h:Af sz ts r):∃n,create sz n ts=some (mapR St.nodes r):=by
 unfold create;refine az h bI (fun _ q _ h=> ?_) (ag _) (fun _ _=> ?_);refine az h fu (fun t q _ h=> ?_) (ag _) (fun _ _=> ?_);refine az h bI (fun _ q _ h=> ?_) (ag _) (fun _ _=> ?_)
 · rcases seq_ok h with⟨e,h1,rfl⟩|⟨l,q1,h1,h2⟩
   · have key:∃n,sep (fun _ l q=>AV sz l q) n [] q=some (.error e):=by
      cases h1 with
      |err0 h3=>
       rcases mg sz (l:=[]) (by simp) h3 with h4|⟨_,_,h4,_⟩
       · exact⟨1,by rw[dR,show AV sz [] q=_ from h4];rfl⟩
       cases h4
      |err h3 hs h4=>
       rename_i l q2;obtain⟨i1,i2⟩:=xK h3;rcases i2 with i2|⟨i2,_⟩
       · rcases mg sz i1 h4 with h5|⟨_,_,h5,_⟩
         · refine i2 _ ⟨1,?_⟩;unfold jf;rw[if_pos hs,dR,h5];rfl
         cases h5
       exfalso
       rw[jJ i2 (by decide)]at hs
       cases hs
     obtain⟨n,hn⟩:=key;exact⟨n,by rw[hn];rfl⟩
   cases h1 with
   |stop h3 hs=>
    obtain⟨i1,i2⟩:=xK h3;rcases i2 with i2|⟨i2,n,hn⟩
    · obtain⟨n,hn⟩:=i2 (.ok (l.map nG,q1)) ⟨0,by unfold jf;rw[if_neg (by simp[hs])]⟩;refine⟨n,?_⟩;rw[hn];simp only[obind];rcases seq_ok h2 with⟨e,h4,rfl⟩|⟨_,q3,h4,h5⟩
      · rw[show must sz lC q1=_ from h4];rfl
      rw[show must sz lC q1=_ from h4]
      cases h5
      simp[mapR,St.nodes]
    refine⟨n,?_⟩;rw[hn];simp only[obind];rcases seq_ok h2 with⟨e,h4,rfl⟩|⟨_,q3,h4,h5⟩
    · rcases aK h4 with⟨h6,_⟩|⟨_,h6⟩
      · rw[jJ i2 (by decide)]at h6;cases h6
      cases h6;rfl
    rcases aK h4 with⟨h6,_⟩|⟨_,h6⟩
    · rw[jJ i2 (by decide)]at h6;cases h6
    cases h6
 all_goals repeat' (first|exact ag _|exact aA (yg sz) _ _|refine aJ ?_ (fun _ _=> ?_))
def pz(t:Tok):Prop:=t.kind=51->Lx.hasB Lx.keys t.text=false
theorem BB{s:Bs}{t:Tok}{r:List Tok}(hk:Lx.hasB Lx.keys s=true)(ht:pz t):(sees s (t::r)=true)↔(t.kind=50/\t.text=s):=by
 simp only[sees,Bool.and_eq_true,Bool.or_eq_true,decide_eq_true_eq,beq_iff_eq]
 constructor
 · rintro⟨h|h,h2⟩
   · exact⟨h,h2⟩
   have:=ht h;rw[h2,hk]at this
   cases this
 rintro⟨h1,h2⟩;exact⟨.inl h1,h2⟩
theorem Ev{ts:List Tok}{r:iK St}(ht:∀t∈ts,pz t)(h:cZ sz ts r):∃n,stmt sz n ts=some (mapR St.nodes r):=by
 unfold cZ at h
 cases ts with
 |nil=>
  simp only[sees,Bool.false_eq_true,if_false]at h;rcases seq_ok h with⟨e,h1,rfl⟩|⟨_,q3,h1,h5⟩
  · exact⟨0,by rcases aK h1 with⟨h6,_⟩|⟨_,h6⟩
               · cases h6
               cases h6;rfl⟩
  rcases aK h1 with⟨h6,_⟩|⟨_,h6⟩
  · cases h6
  cases h6
 |cons t q=>
  have hs:=ht t (by simp)
  have K:∀s,Lx.hasB Lx.keys s=true->((sees s (t::q)=true)↔(t.kind=50/\t.text=s)):=fun s hk=>BB hk hs
  simp only[K eX (by decide),K kP (by decide),K gI (by decide),K gW (by decide),K jh (by decide),List.tail_cons]at h;by_cases h50:t.kind=50
  · simp only[h50,true_and]at h;unfold stmt;simp only[h50,ne_eq,not_true_eq_false,if_false]
    split at h
    · rename_i c;simp only[if_pos c];exact zN h
    rename_i c;simp only[if_neg c]
    split at h
    · rename_i c;simp only[if_pos c];exact Dw h
    rename_i c;simp only[if_neg c]
    split at h
    · rename_i c;simp only[if_pos c];exact yA h
    rename_i c;simp only[if_neg c]
    split at h
    · rename_i c;simp only[if_pos c];exact zD h
    rename_i c;simp only[if_neg c]
    split at h
    · rename_i c;simp only[if_pos c];exact Al h
    rename_i c;simp only[if_neg c];rcases seq_ok h with⟨e,h1,rfl⟩|⟨_,q3,h1,h5⟩
    · rcases aK h1 with⟨_,h6⟩|⟨h6,h7⟩
      · cases h6
      cases h7
      refine⟨0,?_⟩
      rw[if_neg (fun e=>by
       have:=(K kz (by decide)).2 ⟨h50,e⟩
       rw[h6]at this;cases this)]
      rfl
    rcases aK h1 with⟨h6,h7⟩|⟨_,h6⟩
    · cases h7
      simp only[if_pos ((K kz (by decide)).1 h6).2];exact zO h5
    cases h6
  simp only[h50,false_and,if_false]at h;unfold stmt;simp only[h50,ne_eq,not_false_eq_true,if_true];rcases seq_ok h with⟨e,h1,rfl⟩|⟨_,q3,h1,h5⟩
  · rcases aK h1 with⟨_,h6⟩|⟨h6,h7⟩
    · cases h6
    cases h7;exact⟨0,rfl⟩
  rcases aK h1 with⟨h6,h7⟩|⟨_,h6⟩
  · exact absurd ((K kz (by decide)).1 h6).1 h50
  cases h6
end Px
end
section
namespace Px
open Lx (Bs Tok)
theorem fG(a b:List E):deepest (a++b)=max (deepest a) (deepest b):=by
 induction a with
 |nil=>simp[deepest]
 |cons e a ih=>simp[deepest,ih,Nat.max_assoc]
theorem fV.exprs:∀(l:List E),(∀e∈l,e.ok 2000)->fV (l.flatMap E.nodes) (deepest l)
 |[],_=>fV.nil
 |e::l,h=>by
  rw[List.flatMap_cons];exact(fV.tree (e.tree (h e (by simp)))).append (fV.exprs l (fun x hx=>h x (by simp[hx])))
theorem fV.flat{α:Type}(g:α->List Nd)(ex:α->List E)(h:∀a,(∀e∈ex a,e.ok 2000)->fV (g a) (deepest (ex a))):∀(l:List α),(∀e∈l.flatMap ex,e.ok 2000)->fV (l.flatMap g) (deepest (l.flatMap ex))
 |[],_=>fV.nil
 |a::l,hl=>by
  rw[List.flatMap_cons,List.flatMap_cons,fG]
  exact(h a (fun e he=>hl e (by simp[he]))).append (fV.flat g ex h l (fun e he=>hl e (by
   rw[List.flatMap_cons];exact List.mem_append.2 (.inr he))))
theorem fV.eZ(w:Option E)(h:∀e∈w.toList,e.ok 2000):fV (dP w) (deepest w.toList):=by
 cases w with
 |none=>exact fV.nil
 |some e=>
  have:=fV.cons (x:=⟨11,[],0,1⟩) (by decide) (fV.tree (e.tree (h e (by simp))));simpa[deepest,dP,aP]using this
theorem kR{α β:Type}(f:α->β)(l:List α):l.flatMap (fun x=>[f x])=l.map f:=by
 induction l with
 |nil=>rfl
 |cons a l ih=>rw[List.flatMap_cons,ih];rfl
theorem x8{α β:Type}(l:List α):l.flatMap (fun _=>([]:List β))=[]:=by
 induction l with
 |nil=>rfl
 |cons a l ih=>rw[List.flatMap_cons,ih];rfl
theorem Cm(i:List (Option E)):i.filterMap id=i.flatMap Option.toList:=by
 induction i with
 |nil=>rfl
 |cons a i ih=>cases a<;>simp[ih]
theorem St.SA(s:St)(h:∀e∈s.exprs,e.ok 2000):fV s.nodes (deepest s.exprs):=by
 cases s with
 |create t c=>
  refine fV.cons (by decide:eD (1:Int)=false) ?_;have:=fV.flat (fun x=>[nG x]) (fun _=>[]) (fun a _=>fV.plain _ rfl) c (by rw[x8];intro e he;cases he);rw[kR,x8]at this;exact this
 |drop t=>exact fV.plain _ rfl
 |insert t r=>
  refine fV.cons (by decide:eD (4:Int)=false) ?_;have:=fV.flat GL id (fun a ha=>fV.cons (by decide:eD (5:Int)=false) (fV.exprs a ha)) r (by simpa[St.exprs]using h);simpa[St.exprs]using this
 |delete t w=>exact fV.cons (by decide:eD (6:Int)=false) (fV.eZ w h)
 |update t s w=>
  refine fV.cons (by decide:eD (7:Int)=false) ?_
  have h1:=fV.flat CG (fun x=>[x.2]) (fun a ha=>by
   have:=fV.cons (x:=⟨8,a.1,0,1⟩) rfl (fV.tree (a.2.tree (ha a.2 (by simp))))
   simpa[deepest,CG]using this) s (fun e he=>h e (by
    rw[kR]at he;exact List.mem_append.2 (.inl he)))
  have h2:=fV.eZ w (fun e he=>h e (by simp only[St.exprs];exact List.mem_append.2 (.inr he)));have:=h1.append h2;rw[<-fG]at this;rw[kR]at this;exact this
 |select i t w o l=>
  refine fV.cons (by decide:eD (9:Int)=false) ?_;simp only[St.exprs]at h⊢;rw[Cm]at h⊢
  have h1:=fV.flat itemN Option.toList (fun a ha=>by
   cases a with
   |none=>exact fV.plain _ rfl
   |some e=>have:=fV.tree (e.tree (ha e (by simp)));simpa[deepest,itemN]using this) i (fun e he=>h e (by simp only[List.mem_append];exact .inl (.inl he)))
  have h2:=fV.eZ w (fun e he=>h e (by simp only[List.mem_append];exact .inl (.inr he)))
  have h3:=fV.flat dL (fun x=>[x.1]) (fun a ha=>by
   have:=fV.cons (x:=⟨12,[],if a.2=true then 1 else 0,1⟩) rfl (fV.tree (a.1.tree (ha a.1 (by simp))))
   simpa[deepest,dL]using this) o (fun e he=>h e (by
    rw[kR]at he;exact List.mem_append.2 (.inr he)))
  rw[kR]at h3
  have h4:fV (limN l) 0:=by
   cases l with
   |none=>exact fV.nil
   |some n=>exact fV.plain _ rfl
  have:=((h1.append h2).append h3).append h4;rw[<-fG,<-fG,Nat.max_zero]at this;exact this
theorem vL(sz:Nat):All (Aq sz) fun e=>e.ok 2000:=fun ts e q h=>(h.2 _ _ rfl).1
theorem pV(sz:Nat):All (eY sz) fun w=>∀e∈w.toList,e.ok 2000:=by
 intro ts w q h;unfold eY at h
 split at h
 · exact(vL sz).seq (fun e he=>All.ret (P:=fun w=>∀x∈Option.toList w,E.ok 2000 x) (by simpa using he)) _ _ _ h
 cases h;simp
theorem Kr(sz:Nat):All (cZ sz) fun s:St=>∀e∈s.exprs,E.ok 2000 e:=by
 intro ts s q h;unfold cZ at h
 split at h
 · refine All.seq (All.any _) (fun _ _=>All.seq (All.any _) fun t _=>All.seq (All.any _) fun _ _=>All.seq (All.any _) fun l _=>All.seq (All.any _) fun _ _=>All.ret (P:=fun s:St=>∀e∈s.exprs,E.ok 2000 e) ?_) _ _ _ h;simp[St.exprs]
 split at h
 · refine All.seq (All.any _) (fun _ _=>All.seq (All.any _) fun t _=>All.ret (P:=fun s:St=>∀e∈s.exprs,E.ok 2000 e) ?_) _ _ _ h;simp[St.exprs]
 split at h
 · have hrow:All (zG sz) fun l=>∀e∈l,e.ok 2000:=All.seq (All.any _) fun _ _=>All.seq (All.sep fun _=>vL sz) fun l hl=>All.seq (All.any _) fun _ _=>All.ret hl
   refine All.seq (All.any _) (fun _ _=>All.seq (All.any _) fun t _=>All.seq (All.any _) fun _ _=>All.seq (All.sep fun _=>hrow) fun l hl=>All.ret (P:=fun s:St=>∀e∈s.exprs,E.ok 2000 e) ?_) _ _ _ h;simp only[St.exprs,List.mem_flatten];rintro e ⟨r,h1,h2⟩;exact hl r h1 e h2
 split at h
 · refine All.seq (All.any _) (fun _ _=>All.seq (All.any _) fun t _=>All.seq (pV sz) fun w hw=>All.ret (P:=fun s:St=>∀e∈s.exprs,E.ok 2000 e) ?_) _ _ _ h;exact hw
 split at h
 · have hset:All (zh sz) fun x=>x.2.ok 2000:=All.seq (All.any _) fun n _=>All.seq (All.any _) fun _ _=>All.seq (vL sz) fun e he=>All.ret (P:=fun x:Bs×E=>x.2.ok 2000) he
   refine All.seq (All.any _) (fun t _=>All.seq (All.any _) fun _ _=>All.seq (All.sep fun _=>hset) fun l hl=>All.seq (pV sz) fun w hw=>All.ret (P:=fun s:St=>∀e∈s.exprs,E.ok 2000 e) ?_) _ _ _ h;simp only[St.exprs,List.mem_append,List.mem_map];rintro e (⟨x,h1,rfl⟩|h1)
   · exact hl x h1
   exact hw e h1
 have Ht:All (fZ sz) fun x=>∀e∈x.toList,e.ok 2000:=by
  intro ts w q h;unfold fZ at h
  split at h
  · cases h;simp
  exact(vL sz).seq (fun e he=>All.ret (P:=fun w=>∀x∈Option.toList w,E.ok 2000 x) (by simpa using he)) _ _ _ h
 have NT:All (jl sz) fun x=>x.1.ok 2000:=(vL sz).seq fun e he=>by
  intro ts x q h;unfold iy at h
  split at h
  · cases h;exact he
  split at h
  · cases h;exact he
  cases h;exact he
 have Ms:All (bY sz) fun l=>∀x∈l,x.1.ok 2000:=by
  intro ts l q h;unfold bY at h
  split at h
  · exact All.seq (All.any _) (fun _ _=>All.sep fun _=>NT) _ _ _ h
  cases h;simp
 refine All.seq (All.any _) (fun _ _=>All.seq (All.sep fun _=>Ht) fun i hi=>All.seq (All.any _) fun _ _=>All.seq (All.any _) fun t _=>All.seq (pV sz) fun w hw=>All.seq Ms fun o ho=>All.seq (All.any _) fun l _=>All.ret (P:=fun s:St=>∀e∈s.exprs,E.ok 2000 e) ?_) _ _ _ h;simp only[St.exprs,List.mem_append,List.mem_map,Cm,List.mem_flatMap];rintro e ((⟨x,h1,h2⟩|h1)|⟨x,h1,rfl⟩)
 · exact hi x h1 e h2
 · exact hw e h1
 exact ho x h1
def Qx{α β:Type}(f:α->β):Except (Nat×Nat) α->Except (Nat×Nat) β
 |.error e=> .error e
 |.ok a=> .ok (f a)
theorem Ja{l:Bs}{t:Bs}(h:Lx.oneT l=.ok (k,t,n))(p:Nat):pz ⟨k,t,p⟩:=by
 intro hk;simp only at hk;subst hk
 have two:∀x:Bs,Lx.hasB Lx.DD x=true->Lx.hasB Lx.keys x=false:=by
  intro x hx;simp only[Lx.DD,Lx.hasB,Bool.or_eq_true,beq_iff_eq,Bool.false_eq_true,or_false]at hx;rcases hx with rfl|rfl|rfl|rfl<;>decide
 have one:∀x:Bs,Lx.hasB Lx.ones x=true->Lx.hasB Lx.keys x=false:=by
  intro x hx;simp only[Lx.ones,Lx.hasB,Bool.or_eq_true,beq_iff_eq,Bool.false_eq_true,or_false]at hx;rcases hx with rfl|rfl|rfl|rfl|rfl|rfl|rfl|rfl|rfl|rfl|rfl|rfl<;>decide
 unfold Lx.oneT at h
 split at h
 · simp at h
 split at h
 · split at h<;>simp at h
 split at h
 · split at h
   · simp at h
   split at h<;>simp at h
 split at h
 · split at h
   · simp at h
   split at h
   · simp at h
   simp only[Except.ok.injEq,Prod.mk.injEq]at h;have:=h.1
   split at this<;>omega
 split at h
 · rename_i h3;simp only[Except.ok.injEq,Prod.mk.injEq]at h;obtain⟨_,rfl,_⟩:=h;exact two _ h3.2
 split at h
 · rename_i h3;simp only[Except.ok.injEq,Prod.mk.injEq]at h;obtain⟨_,rfl,_⟩:=h;exact one _ h3
 simp at h
theorem II:∀(m:Nat) (l:Bs) (pos:Nat) (ts:List Tok),l.length<=m->Lx.lexM 0 pos l=.ok ts->∀t∈ts,pz t:=by
 intro m
 induction m with
 |zero=>
  intro l pos ts hl h;obtain rfl:=List.length_eq_zero_iff.1 (Nat.le_zero.1 hl);simp only[Lx.lexM,Except.ok.injEq]at h;subst h;simp
 |succ m ih=>
  intro l pos ts hl h
  cases l with
  |nil=>
   simp only[Lx.lexM,Except.ok.injEq]at h;subst h;simp
  |cons b r=>
   rw[Lx.jF]at h
   split at h
   · simp at h
   rename_i k t n h1;have hn:=Lx.iQ h1;simp only[List.length_cons]at hn hl
   split at h
   · rename_i us h2;simp only[Except.ok.injEq]at h;subst h;intro x hx;rcases List.mem_cons.1 hx with rfl|hx
     · exact Ja h1 pos
     exact ih _ _ _ (by simp;omega) h2 x hx
   simp at h
theorem ES{l:Bs}{ts:List Tok}(h:Lx.lex l=.ok ts):∀t∈ts,pz t:=by
 unfold Lx.lex at h
 split at h
 · simp at h
 exact II _ _ _ _ (nlr _) h
theorem BJ{s:Bs}{r:Except (Nat×Nat) St}(h:ParseR s r):Parse s (Qx St.nodes r):=by
 unfold ParseR at h;unfold Parse
 cases hl:Lx.lex s with
 |error e=>rw[hl]at h;simp only at h⊢;rw[h];rfl
 |ok ts=>
  rw[hl]at h;simp only at h⊢;obtain⟨q,h1,h2⟩:=h;obtain⟨n,hn⟩:=Ev (ES hl) h1;refine⟨n,?_⟩;unfold whole;rw[hn]
  match q,h1,h2 with
  |.error e,h1,h2=>
   simp only at h2;rw[h2];exact⟨_,rfl,rfl⟩
  |.ok (a,u),h1,h2=>
   simp only at h2;simp only[mapR,obind];by_cases hu:u=[]
   · rw[if_pos hu]at h2;rw[if_pos hu];refine⟨_,rfl,deepest a.exprs,?_,?_⟩
     · exact(a.SA (Kr _ _ _ _ h1)).deep
     rw[h2];split<;>rfl
   rw[if_neg hu]at h2;rw[if_neg hu,h2];exact⟨_,rfl,rfl⟩
end Px
end
section
namespace Px
open Lx (Bs Tok)
structure PT where
 out:Bs
 kind:Nat
 val:Bs
 pre:Bool
def nT(s:Bs):PT:=⟨s,50,s,false⟩
def KM(s:Bs):PT:=⟨s,51,s,false⟩
def Sc:PT:=⟨[45],51,[45],true⟩
def MP(s:Bs):PT:=⟨mJ s,18,s,false⟩
def SF(s:Bs):PT:=⟨Q5 39 s,17,s,false⟩
def QP(n:Nat):PT:=⟨decF 20 n,16,decF 20 n,false⟩
def apart(a b:PT):Bool:=if a.out=[40]\/b.out=[41]\/b.out=[44]then false else if a.pre=true then decide (b.out.head? =some 45)else true
def Ends:Bs->Prop
 |[]=>True
 |c::_=>c=32\/c=41\/c=44
structure PT.Ok(t:PT):Prop where
 ne:∃c r,t.out=c::r/\Lx.isSp c=false/\(c.toNat=45->t.out=[45])
 reads:∀rest,(Ends rest\/t.out=[40]\/t.pre=true)->Lx.oneT (t.out++rest)=.ok (t.kind,t.val,t.out.length)
 pre:t.pre=true->t.out=[45]
 small:t.out.length<=100000
end Px
end
section
namespace Px
open Lx (Bs Tok)
def Same(ts:List Tok)(l:List PT):Prop:=ts.map (fun t=>(t.kind,t.text))=l.map fun t=>(t.kind,t.val)
def E.lvl:E->Nat
 |.num z=>if z<0 then 8 else 9
 |.un k _=>if k=20 then 3 else if k=19 then 8 else 4
 |.bin k _ _=>(rU k).2
 |_=>9
def GI(lvl least:Nat)(l:List PT):List PT:=if lvl<least then KM [40]::(l++[KM [41]])else l
def SC(k:Nat):PT:=if k<25 then nT (rU k).1 else KM (rU k).1
def leftOf(k:Nat):Nat:=if(rU k).2=4 then 5 else(rU k).2
def E.pt:E->List PT
 |.null=>[nT aZ]
 |.bool b=>[nT (if b=true then fK else dH)]
 |.num z=>if z<0 then[Sc,QP z.natAbs]else[QP z.natAbs]
 |.str s=>[SF s]
 |.nm s=>[MP s]
 |.un k e=>if k=20 then nT jA::GI e.lvl 3 e.pt else if k=19 then Sc::GI e.lvl 8 e.pt
   else if k=21 then GI e.lvl 5 e.pt++[nT Hg,nT aZ]else GI e.lvl 5 e.pt++[nT Hg,nT jA,nT aZ]
 |.bin k a b=>GI a.lvl (leftOf k) a.pt++SC k::GI b.lvl ((rU k).2+1) b.pt
def E.good:E->Prop
 |.str s=>Lx.bM s=true
 |.nm s=>isName s=true
 |.un _ e=>e.good
 |.bin _ a b=>a.good/\b.good
 |_=>True
def Stops(m:Nat)(rest:List Tok):Prop:=(∀l,m<=l->oper l rest=0)/\(m<=4->sees Hg rest=false)
def P5(L:Nat):Prop:=L=1\/L=2\/L=5\/L=6\/L=7
def Loop(sz:Nat)(e:E):Prop:=P5 e.lvl->∀ts rest r,Same ts e.pt->Stops (e.lvl+1) rest->Ex sz (e.lvl+10) e.nodes rest r->Ex sz e.lvl [] (ts++rest) r
end Px
end
section
namespace Px
open Lx (Bs Tok)
def sepT:List (List PT)->List PT
 |[]=>[]
 |[a]=>a
 |a::b::r=>a++KM [44]::sepT (b::r)
def Ql(n:Nat):Bs:=if n%4=1 then ll else if n%4=2 then mK else iP
def Rl(c:Bs×Nat):List PT:=MP c.1::nT (Ql c.2)::(if 4<c.2 then[nT jA,nT aZ]else[])
def RD(r:List E):List PT:=KM [40]::(sepT (r.map E.pt)++[KM [41]])
def QE(s:Bs×E):List PT:=MP s.1::KM [61]::s.2.pt
def itemT:Option E->List PT
 |none=>[KM [42]]
 |some e=>e.pt
def OC(o:E×Bool):List PT:=o.1.pt++(if o.2=true then[nT Ce]else[])
def DJ:Option E->List PT
 |none=>[]
 |some e=>nT uV::e.pt
def Rj:Option Nat->List PT
 |none=>[]
 |some n=>[nT jk,QP n]
def K7:List (E×Bool)->List PT
 |[]=>[]
 |o::r=>nT pO::nT OQ::sepT ((o::r).map OC)
def St.pt:St->List PT
 |.create t c=>nT eX::nT kS::MP t::KM [40]::(sepT (c.map Rl)++[KM [41]])
 |.drop t=>[nT kP,nT kS,MP t]
 |.insert t r=>nT gI::nT ET::MP t::nT rZ::sepT (r.map RD)
 |.delete t w=>nT gW::nT qV::MP t::DJ w
 |.update t s w=>nT jh::MP t::nT LD::(sepT (s.map QE)++DJ w)
 |.select i t w o l=>nT kz::(sepT (i.map itemT)++nT qV::MP t::(DJ w++(K7 o++Rj l)))
structure St.Fit(s:St):Prop where
 exprs:∀e∈s.exprs,e.ok 2000
 parts:match s with
  |.create t c=>isName t=true/\1<=c.length/\c.length<=6/\∀x∈c,isName x.1=true/\1<=x.2/\x.2<=7/\x.2≠4
  |.drop t=>isName t=true
  |.insert t r=>isName t=true/\r≠[]/\∀x∈r,x≠[]
  |.delete t w=>isName t=true
  |.update t s w=>isName t=true/\s≠[]/\∀x∈s,isName x.1=true
  |.select i t w o l=>isName t=true/\i≠[]/\∀n,l=some n->n<=1000000000
section
variable {α:Type}{x:Nat->Rg α}{pt:α->List PT}{P:List Tok->Prop}{N:Nat}
end
theorem Ea(sz:Nat)(ts:List Tok):dh fun n=>stmt sz n ts:=by
 cases ts with
 |nil=>exact ag _
 |cons t r=>
  unfold stmt;refine aU (ag _) (aU ?_ (aU (ag _) (aU ?_ (aU ?_ (aU ?_ (aU ?_ (ag _)))))))
  all_goals
   first|unfold create|unfold insert|unfold delete|unfold update|unfold choose
   repeat' (first|exact ag _|exact fB _ _|exact oo _ _ _|exact aA (yg sz) _ _|exact aA (gY _) _ _|exact aA (dW _) _ _|exact aA (fe _) _ _|refine aJ ?_ (fun _ _=> ?_))
theorem qN(sz:Nat)(ts:List Tok):dh fun n=>whole sz n ts:=aJ (Ea sz ts) fun _ _=>ag _
theorem Parse.one{s:Bs}{r r':Except (Nat×Nat) (List Nd)}(h:Parse s r)(h':Parse s r'):r=r':=by
 unfold Parse at h h'
 cases hl:Lx.lex s with
 |error e=>rw[hl]at h h';simp only at h h';rw[h,h']
 |ok ts=>
  rw[hl]at h h';simp only at h h';obtain⟨n,q,h1,h2⟩:=h;obtain⟨n',q',h1',h2'⟩:=h';have e1:=qN s.length ts n (max n n') _ (Nat.le_max_left _ _) h1;have e2:=qN s.length ts n' (max n n') _ (Nat.le_max_right _ _) h1';simp only at e1 e2;rw[e1]at e2
  cases e2
  match q,h2,h2' with
  |.error e,h2,h2'=>simp only at h2 h2';rw[h2,h2']
  |.ok (a,_),h2,h2'=>
   obtain⟨d,d1,d2⟩:=h2;obtain⟨d',d1',d2'⟩:=h2';rw[d1]at d1'
   cases d1'
   rw[d2,d2']
end Px
end
def opsRow:List (Nat×Lx.Bs×Nat)->List Value
 |[]=>[]
 |(l,s,k)::r=>[.int .i64 (k:Int),.string ⟨s.toArray⟩,.int .i64 (l:Int)]++opsRow r
structure jr(w:World):Prop where
 env:Env w
 ops:∃t fr,w.heap[7]? =some (.cells (opsRow Px.bR).toArray t fr)
 rng:∃te pe,w.cell? ⟨9,0,none⟩=some (.iface te pe)
theorem jr.grown(h:jr w)(hg:w.grownBy w' (some B))(hB:12<=B):jr w':=by
 have hr:=h.env.room
 have hb:∀k,k<12->w'.heap[k]? =w.heap[k]?:=fun k hk=>hg.block k (by omega) (by simp;omega)
 refine⟨h.env.grown hg hB,?_,?_⟩
 · rw[hb _ (by simp)];exact h.ops
 rw[World.cell?_of_block (w:=w) (hb _ (by simp))];exact h.rng
theorem jr.below(h:jr w)(hb:Below w.heap.size w w'):jr w':=h.grown (B:=w.heap.size) (Below.grownBy hb) h.env.room
structure Sy(w:World):Prop where
 env:NW w
 ops:∃t fr,w.heap[7]? =some (.cells (opsRow Px.bR).toArray t fr)
structure Cs(w:World)(B:Nat)(lv:Value)(ts:List Lx.Tok)(sz k:Nat)(dp:Bool):Prop where
 blk:af w B #[lv,.int .i64 (k:Int),.int .i64 (sz:Int),.bool dp] 79
 own:∃b,w.ownsRow b 146 3 lv ts.length (toksV ts)
 ne:lv.ownBlock≠some B
 toks:∀t∈ts,Lx.Bg t/\Px.pz t/\t.pos<=2000/\t.text.length<=2000
 len:ts.length<=2000
 size:sz<=2000
 le:k<=ts.length
 env:jr w
 low:12<=B
theorem Cs.kept{ts:List Lx.Tok}{k':Nat}{dp':Bool}(h:Cs w B lv ts sz k dp)(hg:w.grownBy w' (some B))(hb:af w' B #[lv,.int .i64 (k':Int),.int .i64 (sz:Int),.bool dp'] 79)(hk:k'<=ts.length):Cs w' B lv ts sz k' dp':=by
 obtain⟨b,ho⟩:=h.own;refine⟨hb,⟨b,ho.kept hg ?_⟩,h.ne,h.toks,h.len,h.size,hk,h.env.grown hg h.low,h.low⟩
 cases hv:lv.ownBlock with
 |none=>simp
 |some g=>right;intro e;exact h.ne (by rw[hv,e])
theorem Cs.below{ts:List Lx.Tok}(h:Cs w B lv ts sz k dp)(hb:Below w.heap.size w w'):Cs w' B lv ts sz k dp:=by
 obtain⟨b,ho⟩:=h.own;exact⟨h.blk.below hb h.blk.lt,⟨b,dG ho hb⟩,h.ne,h.toks,h.len,h.size,h.le,h.env.below hb,h.low⟩
theorem Cs.setAt{ts:List Lx.Tok}(h:Cs w B lv ts sz k dp)(j:Nat)(hj:j<=ts.length):Cs (w.setCell ⟨B,1,none⟩ (.int .i64 (j:Int))) B lv ts sz j dp:=
 h.kept (nK w B 1 _) (h.blk.set 1 _) hj
theorem Cs.Mf{ts:List Lx.Tok}(h:Cs w B lv ts sz k dp):Cs (w.setCell ⟨B,3,none⟩ (.bool true)) B lv ts sz k true:=
 h.kept (nK w B 3 _) (h.blk.set 3 _) h.le
theorem Cs.cells{ts:List Lx.Tok}(h:Cs w B lv ts sz k dp):
   w.cell? ⟨B,0,none⟩=some lv/\w.cell? ⟨B,1,none⟩=some (.int .i64 (k:Int))/\w.cell? ⟨B,2,none⟩=some (.int .i64 (sz:Int))/\w.cell? ⟨B,3,none⟩=some (.bool dp):=
 ⟨h.blk.cell 0,h.blk.cell 1,h.blk.cell 2,h.blk.cell 3⟩
def Cx(w:World)(B:Nat)(lv:Value)(ts:List Lx.Tok)(sz:Nat)(q:List Lx.Tok)(dp:Bool):Prop:=∃k,q=ts.drop k/\Cs w B lv ts sz k dp
theorem Cx.below{ts:List Lx.Tok}{q:List Lx.Tok}(h:Cx w B lv ts sz q dp)(hb:Below w.heap.size w w'):Cx w' B lv ts sz q dp:=by
 obtain⟨k,h1,h2⟩:=h;exact⟨k,h1,h2.below hb⟩
def pk(sz:Nat):List Lx.Tok->Lx.Tok
 |[]=>⟨0,[],sz⟩
 |t::_=>t
theorem La(ts:List Lx.Tok)(sz k:Nat):pk sz (ts.drop k)=vH ts sz k:=by
 unfold vH;by_cases hk:k<ts.length
 · rw[List.drop_eq_getElem_cons hk];simp[pk,hk]
 rw[List.drop_eq_nil_of_le (by omega)];simp[pk,hk]
theorem Jh(sz:Nat)(q:List Lx.Tok):Px.plc sz q=(pk sz q).pos:=by cases q<;>rfl
theorem MK(s:Lx.Bs)(sz:Nat)(q:List Lx.Tok):Px.sees s q=((decide ((pk sz q).kind=50)||decide ((pk sz q).kind=51))&&(pk sz q).text==s):=by cases q<;>rfl
def kJ(p c:Nat):Ending:=.panicked [{v:=.iface 74 (.agg #[.int .i64 (p:Int),.int .i64 (c:Int)]),recovered:=false}]
theorem Cs.tok{ts:List Lx.Tok}(h:Cs w B lv ts sz k dp):∃ao cap,lv=.slice ao ts.length cap/\
   ∀k,(hk:k<ts.length)->∃g,ao=some ⟨g,0,none⟩/\g<w.heap.size/\w.cell? ⟨g,k*3,none⟩=some (.int .i64 (ts[k].kind:Int))/\w.cell? ⟨g,k*3+1,none⟩=some (.string ⟨ts[k].text.toArray⟩)/\w.cell? ⟨g,k*3+2,none⟩=some (.int .i64 (ts[k].pos:Int)):=by
 obtain⟨b,ho⟩:=h.own;have ho2:=ho.2;rcases ho2 with⟨rfl,hn⟩|⟨g,cap,cur,rfl,hb,hg,h1,h2,h3,h4⟩
 · exact⟨none,0,by rw[hn],fun k hk=>by omega⟩
 refine⟨some ⟨g,0,none⟩,cap,rfl,fun k hk=>⟨g,rfl,?_⟩⟩;have hc:=ho.cells (g:=g) rfl;obtain⟨q0,q1,q2⟩:=xZ ts k hk;have a0:=hc _ _ q0;have a1:=hc _ _ q1;have a2:=hc _ _ q2;simp only[Addr.add_lit,Nat.zero_add]at a0 a1 a2;exact⟨(geA.1 hg).1,a0,a1,a2⟩
theorem FV(w:World)(B:Nat)(lv:Value)(ts:List Lx.Tok)(sz k:Nat)(dp:Bool)(h:Cs w B lv ts sz k dp):
   Calls Tryz.prog 63 #[.pointer (some ⟨B,0,none⟩)] w fun x w'=>x=.returned (gT (vH ts sz k))/\Below w.heap.size w w':=by
 obtain⟨c0,c1,c2,c3⟩:=h.cells;obtain⟨ao,cap,rfl,hk⟩:=h.tok;have hle:=h.le;have hlen:=h.len;have hB:=h.blk.lt;by_cases hlt:k<ts.length
 · obtain⟨g,rfl,hg,k0,k1,k2⟩:=hk k hlt
   have e1:vH ts sz k=ts[k]:=by simp[vH,hlt]
   rw[e1];generalize ts[k]=t at*;clear hk e1 h;go_enter Tryz.func63,Tryz.ntmps63;go_wp2
   go_region
   all_goals go_wp2
   all_goals go_region
   all_goals go_wp2
   refine bodyPost_ret (v:=gT t) (by simp[results,Tryz.results63,go_sem,gT]) rfl ⟨rfl,by go_grown⟩
 have e1:vH ts sz k=⟨0,[],sz⟩:=by simp[vH,hlt]
 rw[e1];clear hk e1 h;go_enter Tryz.func63,Tryz.ntmps63;go_wp2
 go_region
 all_goals go_wp2
 refine bodyPost_ret (v:=gT ⟨0,[],sz⟩) (by simp[results,Tryz.results63,go_sem,gT]) rfl ⟨rfl,by go_grown⟩
theorem bJ(w:World)(B:Nat)(lv:Value)(ts:List Lx.Tok)(sz:Nat)(q:List Lx.Tok)(dp:Bool)(h:Cx w B lv ts sz q dp):
   Calls Tryz.prog 63 #[.pointer (some ⟨B,0,none⟩)] w fun x w'=>x=.returned (gT (pk sz q))/\Below w.heap.size w w':=by
 obtain⟨k,rfl,h⟩:=h;rw[La];exact FV w B lv ts sz k dp h
theorem Pt(a b c:Value)(w:World):(Instr.field 146 (.agg #[a,b,c]) 0).run Tryz.prog w=.ok a w:=by kernel_rfl
theorem Qv(a b c:Value)(w:World):(Instr.field 146 (.agg #[a,b,c]) 1).run Tryz.prog w=.ok b w:=by kernel_rfl
theorem NA(a b c:Value)(w:World):(Instr.field 146 (.agg #[a,b,c]) 2).run Tryz.prog w=.ok c w:=by kernel_rfl
theorem gy(w:World)(v:Value)(p c:Nat):
   Calls Tryz.prog 62 #[v,.int .i64 (p:Int),.int .i64 (c:Int)] w fun e w'=>e=kJ p c/\w'=w:=by
 go_enter Tryz.func62,Tryz.ntmps62;go_wp2;exact⟨rfl,rfl,rfl⟩
theorem ny(w:World)(v:Value):Calls Tryz.prog 29 #[v,.bool true] w fun e w'=>e=.returned (.tuple #[])/\w'=w:=by
 go_enter Tryz.func29,Tryz.ntmps29;go_wp2_with fail
 go_end0
 exact⟨rfl,rfl⟩
theorem GD(w:World)(B:Nat)(lv:Value)(ts:List Lx.Tok)(sz:Nat)(q:List Lx.Tok)(dp:Bool)(h:Cx w B lv ts sz q dp)(tk:Nat)(tt:Lx.Bs)(tp:Nat)(ht:pk sz q=⟨tk,tt,tp⟩):
   Calls Tryz.prog 29 #[.pointer (some ⟨B,0,none⟩),.bool false] w fun e w'=>e=kJ tp 4/\Below w.heap.size w w':=by
 have HT:=hd ht;clear ht;have hf2:=NA;go_enter Tryz.func29,Tryz.ntmps29;go_wp2_with fail;refine(bJ w B lv ts sz q dp h).mono ?_;rintro x w1 ⟨rfl,hb⟩;rw[HT.out];unfold gT;simp only;go_wp2_with fail;refine(gy w1 _ tp 4).mono ?_;rintro x w2 ⟨rfl,rfl⟩;exact⟨rfl,rfl,hb⟩
theorem qg(w:World)(B:Nat)(lv:Value)(ts:List Lx.Tok)(sz:Nat)(q:List Lx.Tok)(dp:Bool)(h:Cx w B lv ts sz q dp):
   Calls Tryz.prog 29 #[.pointer (some ⟨B,0,none⟩),.bool false] w fun e w'=>e=kJ (Px.plc sz q) 4/\Below w.heap.size w w':=by
 rw[Jh];rcases ht:pk sz q with⟨tk,tt,tp⟩;exact GD w B lv ts sz q dp h tk tt tp ht
def qD(t:Lx.Tok):Lx.Bs:=if t.kind=50\/t.kind=51 then t.text else[]
theorem DT(w:World)(B:Nat)(lv:Value)(ts:List Lx.Tok)(sz:Nat)(q:List Lx.Tok)(dp:Bool)(h:Cx w B lv ts sz q dp)(tk:Nat)(tt:Lx.Bs)(tp:Nat)(ht:pk sz q=⟨tk,tt,tp⟩):
   Calls Tryz.prog 116 #[.pointer (some ⟨B,0,none⟩)] w fun x w'=>x=.returned (.string ⟨(qD ⟨tk,tt,tp⟩).toArray⟩)/\Below w.heap.size w w':=by
 have HT:=hd ht;clear ht;unfold qD;go_enter Tryz.func116,Tryz.ntmps116;go_wp2_with fail;refine(bJ w B lv ts sz q dp h).mono ?_;rintro x w1 ⟨rfl,hb⟩;rw[HT.out];unfold gT;simp only;have hs:=hb.size;by_cases h50:tk=50
 · subst h50;go_wp2;go_ret;exact⟨rfl,by go_grown⟩
 have h1:((tk:Int)==50)=false:=by rw[beq_eq_false_iff_ne];omega
 by_cases h51:tk=51
 · subst h51;go_wp2;go_ret;exact⟨rfl,by go_grown⟩
 have h2:((tk:Int)==51)=false:=by rw[beq_eq_false_iff_ne];omega
 go_wp2;go_ret;exact⟨by simp[h50,h51],by go_grown⟩
theorem jd(w:World)(B:Nat)(lv:Value)(ts:List Lx.Tok)(sz:Nat)(q:List Lx.Tok)(dp:Bool)(h:Cx w B lv ts sz q dp):
   Calls Tryz.prog 116 #[.pointer (some ⟨B,0,none⟩)] w fun x w'=>x=.returned (.string ⟨(qD (pk sz q)).toArray⟩)/\Below w.heap.size w w':=by
 rcases ht:pk sz q with⟨tk,tt,tp⟩;exact DT w B lv ts sz q dp h tk tt tp ht
theorem AY{s:Lx.Bs}(hs:s≠[])(sz:Nat)(q:List Lx.Tok):(qD (pk sz q)=s)↔Px.sees s q=true:=by
 rw[MK s sz q];rcases pk sz q with⟨tk,tt,tp⟩;unfold qD;simp only[Bool.and_eq_true,Bool.or_eq_true,decide_eq_true_eq,beq_iff_eq];by_cases h:tk=50\/tk=51
 · rw[if_pos h];exact⟨fun e=>⟨h,e⟩,fun e=>e.2⟩
 rw[if_neg h];exact⟨fun e=>absurd e.symm hs,fun e=>absurd e.1 h⟩
theorem Cx.next{ts:List Lx.Tok}{q:List Lx.Tok}(h:Cx w B lv ts sz q dp)(hq:q≠[]):∃k:Nat,k<=2000/\w.cell? ⟨B,1,none⟩=some (.int .i64 (k:Int))/\w.frozen? ⟨B,1,none⟩=false/\
   Cx (w.setCell ⟨B,1,none⟩ (.int .i64 ((k:Int)+1))) B lv ts sz q.tail dp:=by
 obtain⟨k,rfl,h⟩:=h
 have hk:k<ts.length:=by
  apply Decidable.byContradiction;intro hn;exact hq (List.drop_eq_nil_of_le (by omega))
 have:=h.len;refine⟨k,by omega,h.cells.2.1,h.blk.free 1,k+1,by rw[List.tail_drop],?_⟩;have:=h.setAt (k+1) (by omega)
 rwa [show(((k+1:Nat):Nat):Int)=(k:Int)+1 by omega]at this
theorem Cx.lt{ts:List Lx.Tok}{q:List Lx.Tok}(h:Cx w B lv ts sz q dp):B<w.heap.size:=by
 obtain⟨k,_,h⟩:=h;exact h.blk.lt
theorem mR(s:ByteArray)(w:World)(B:Nat)(lv:Value)(ts:List Lx.Tok)(sz:Nat)(q:List Lx.Tok)(dp:Bool)(h:Cx w B lv ts sz q dp)(hs:Px.sees s.data.toList q=true)(hne:s.data.toList≠[]):
   Calls Tryz.prog 54 #[.pointer (some ⟨B,0,none⟩),.string s] w fun x w'=>x=.returned (.bool true)/\Cx w' B lv ts sz q.tail dp/\w.grownBy w' (some B):=by
 have hq:q≠[]:=by rintro rfl;cases hs
 have hf:(⟨(qD (pk sz q)).toArray⟩:ByteArray)=s:=by
  rw[(AY hne sz q).2 hs]
 go_enter Tryz.func54,Tryz.ntmps54;go_wp2_with fail;refine(jd w B lv ts sz q dp h).mono ?_;rintro x w1 ⟨rfl,hb⟩;rw[hf];clear hf hs hne;obtain⟨k,hk,c1,f1,hn⟩:=(h.below hb).next hq;have HN:=hd hn;have HB:=hd hb;clear hb hn h;go_wp2;go_ret;exact⟨rfl,HN.out,ay (Below.grownBy HB.out) (nK w1 B 1 _)⟩
theorem cB(s:ByteArray)(w:World)(B:Nat)(lv:Value)(ts:List Lx.Tok)(sz:Nat)(q:List Lx.Tok)(dp:Bool)(h:Cx w B lv ts sz q dp)(hs:Px.sees s.data.toList q=false)(hne:s.data.toList≠[]):
   Calls Tryz.prog 54 #[.pointer (some ⟨B,0,none⟩),.string s] w fun x w'=>x=.returned (.bool false)/\Below w.heap.size w w':=by
 have hf:((⟨(qD (pk sz q)).toArray⟩:ByteArray).toList==s.toList)=false:=by
  rw[beq_eq_false_iff_ne,Lib.toList_data,Lib.toList_data];intro e;rw[(AY hne sz q).1 e]at hs
  cases hs
 go_enter Tryz.func54,Tryz.ntmps54;go_wp2_with fail;refine(jd w B lv ts sz q dp h).mono ?_;rintro x w1 ⟨rfl,hb⟩;generalize (⟨(qD (pk sz q)).toArray⟩:ByteArray)=f at*;clear hs hne h;go_wp2;go_ret;exact⟨rfl,hb⟩
theorem zW(s:ByteArray)(w:World)(B g:Nat)(lv:Value)(ts:List Lx.Tok)(sz:Nat)(q:List Lx.Tok)(dp:Bool)(h:Cx w B lv ts sz q dp)(hs:Px.sees s.data.toList q=true)(hne:s.data.toList≠[])(hv:w.cell? ⟨g,0,none⟩=some (.string s)):
   Calls Tryz.prog 56 #[.pointer (some ⟨B,0,none⟩),.slice (some ⟨g,0,none⟩) 1 1] w fun x w'=>x=.returned (.tuple #[])/\Cx w' B lv ts sz q.tail dp/\w.grownBy w' (some B):=by
 have HS:=hd hs;have HN:=hd hne;clear hs hne;go_enter Tryz.func56,Tryz.ntmps56;go_wp2_with fail;refine wp_loop_rounds 2 ?_;rw[rounds_succ];go_wp2_with fail;refine(mR s w B lv ts sz q dp h HS.out HN.out).mono ?_;rintro x w1 ⟨rfl,hx,hg⟩;go_wp2_with fail;refine(ny w1 _).mono ?_;rintro x w2 ⟨rfl,rfl⟩;go_wp2_with fail;rw[rounds_succ];go_wp2_with fail
 go_end0
 exact⟨rfl,hx,hg⟩
theorem CF(s:ByteArray)(w:World)(B g:Nat)(lv:Value)(ts:List Lx.Tok)(sz:Nat)(q:List Lx.Tok)(dp:Bool)(h:Cx w B lv ts sz q dp)(hs:Px.sees s.data.toList q=false)(hne:s.data.toList≠[])(hv:w.cell? ⟨g,0,none⟩=some (.string s)):
   Calls Tryz.prog 56 #[.pointer (some ⟨B,0,none⟩),.slice (some ⟨g,0,none⟩) 1 1] w fun x w'=>x=kJ (Px.plc sz q) 4/\Below w.heap.size w w':=by
 have HS:=hd hs;have HN:=hd hne;clear hs hne;go_enter Tryz.func56,Tryz.ntmps56;go_wp2_with fail;refine wp_loop_rounds 1 ?_;rw[rounds_succ];go_wp2_with fail;refine(cB s w B lv ts sz q dp h HS.out HN.out).mono ?_;rintro x w1 ⟨rfl,hb⟩;go_wp2_with fail;refine(qg w1 B lv ts sz q dp (h.below hb)).mono ?_;rintro x w2 ⟨rfl,hb2⟩;exact⟨rfl,rfl,hb.trans (hb2.mono hb.size)⟩
theorem bG{row:Option Nat}(h:w.grownBy w1 row){M:Nat}(hM:w.heap.size<=M)(i:Nat)(v:Value):w.grownBy (w1.setCell ⟨M,i,none⟩ v) row:=
 ⟨h.os,h.tape,h.output,by simpa[World.setCell]using h.size,fun k hk hne=>by rw[Below.heap_setCell _ _ _ _ (by show k≠M;omega)];exact h.block k hk hne⟩
theorem Cx.step{ts:List Lx.Tok}{q:List Lx.Tok}{dp':Bool}(h:Cx w B lv ts sz q dp)(hg:w.grownBy w' (some B))(hq:q≠[])(k:Nat)(hc:w.cell? ⟨B,1,none⟩=some (.int .i64 (k:Int)))(hb:af w' B #[lv,.int .i64 ((k:Int)+1),.int .i64 (sz:Int),.bool dp'] 79):Cx w' B lv ts sz q.tail dp':=by
 obtain⟨j,rfl,h⟩:=h
 have e:(j:Int)=k:=by
  have:=h.cells.2.1;rw[this]at hc;simpa using hc
 have hk:j<ts.length:=by
  apply Decidable.byContradiction;intro hn;exact hq (List.drop_eq_nil_of_le (by omega))
 refine⟨j+1,by rw[List.tail_drop],h.kept (k':=j+1) hg ?_ (by omega)⟩;rw[show((j+1:Nat):Int)=(k:Int)+1 by omega];exact hb
theorem Cx.blk{ts:List Lx.Tok}{q:List Lx.Tok}(h:Cx w B lv ts sz q dp):∃k:Nat,k<=2000/\af w B #[lv,.int .i64 (k:Int),.int .i64 (sz:Int),.bool dp] 79:=by
 obtain⟨k,_,h⟩:=h;exact⟨k,Nat.le_trans h.le h.len,h.blk⟩
theorem nE(w:World)(B:Nat)(lv:Value)(ts:List Lx.Tok)(sz:Nat)(tk:Nat)(tt:Lx.Bs)(tp:Nat)(q:List Lx.Tok)(dp:Bool)(h:Cx w B lv ts sz (⟨tk,tt,tp⟩::q) dp)(kd:Nat)(hk:tk=kd):
   Calls Tryz.prog 120 #[.pointer (some ⟨B,0,none⟩),.int .i64 (kd:Int)] w fun x w'=>x=.returned (gT ⟨tk,tt,tp⟩)/\Cx w' B lv ts sz q dp/\w.grownBy w' (some B):=by
 subst hk;obtain⟨k,hk2,hblk⟩:=h.blk;have HX:=hd h;have hlt:=h.lt;clear h;go_enter Tryz.func120,Tryz.ntmps120;go_wp2_with fail;refine(bJ _ B lv ts sz _ dp (HX.out.below ((Below.refl _ _).alloc (nlr _) _))).mono ?_;rintro x w1 ⟨rfl,hb⟩;have hs:=hb.size;have hb0:Below w.heap.size w w1:=((Below.refl _ _).alloc (nlr _) _).trans (hb.mono (by simp));have K4:=(af.new w #[.int .i64 0,.string ⟨#[]⟩,.int .i64 0] 146).below hb (by simp);simp only[World.size_alloc]at hs;unfold gT pk;simp only;go_wp2_with fail;refine(ny _ _).mono ?_;rintro x w2 ⟨rfl,hw⟩
 have hb2:Below w.heap.size w w2:=by subst hw;exact hb0.alloc (by omega) _
 have KB:=hblk.below hb2 hlt
 have KN:af w2 w1.heap.size #[.int .i64 (tk:Int),.string ⟨tt.toArray⟩,.int .i64 (tp:Int)] 146:=by subst hw;exact af.new _ _ _
 have K4':af w2 w.heap.size #[.int .i64 0,.string ⟨#[]⟩,.int .i64 0] 146:=by subst hw;exact K4.alloc _
 clear hw K4 hb hb0;have c1:w2.cell? ⟨B,1,none⟩=some (.int .i64 (k:Int)):=KB.cell 1;have f1:=KB.free 1;have n0:w2.cell? ⟨w1.heap.size,0,none⟩=some (.int .i64 (tk:Int)):=KN.cell 0;have n1:w2.cell? ⟨w1.heap.size,1,none⟩=some (.string ⟨tt.toArray⟩):=KN.cell 1;have n2:w2.cell? ⟨w1.heap.size,2,none⟩=some (.int .i64 (tp:Int)):=KN.cell 2;have m0:w2.cell? ⟨w.heap.size,0,none⟩=some (.int .i64 0):=K4'.cell 0;have m1:w2.cell? ⟨w.heap.size,1,none⟩=some (.string ⟨#[]⟩):=K4'.cell 1;have m2:w2.cell? ⟨w.heap.size,2,none⟩=some (.int .i64 0):=K4'.cell 2;have g0:=K4'.free 0;have g1:=K4'.free 1;have g2:=K4'.free 2
 have d1:¬B=w1.heap.size:=by omega
 have d2:¬w1.heap.size=B:=by omega
 have d3:¬B=w.heap.size:=by omega
 have d4:¬w.heap.size=B:=by omega
 have d5:¬w1.heap.size=w.heap.size:=by omega
 have d6:¬w.heap.size=w1.heap.size:=by omega
 have HB2:=hd hb2;have HKB:=hd KB;have HK4:=hd K4';clear KN K4' hb2 KB;go_wp2;have KF:=(((HK4.out.far ⟨B,1,none⟩ (.int .i64 ((k:Int)+1)) d3).set 0 (.int .i64 (tk:Int))).set 1 (.string ⟨tt.toArray⟩)).set 2 (.int .i64 (tp:Int));have e0:=KF.cell 0;have e1:=KF.cell 1;have e2:=KF.cell 2;simp at e0 e1 e2;refine bodyPost_ret (v:=gT ⟨tk,tt,tp⟩) (by simp[results,Tryz.results120,go_sem,gT,e0,e1,e2]) rfl ⟨rfl,?_,?_⟩
 · refine Cx.step (q:=⟨tk,tt,tp⟩::q) HX.out (bG (bG (bG (ay (Below.grownBy HB2.out) (nK w2 B 1 _)) (nlr _) 0 _) (nlr _) 1 _) (nlr _) 2 _) (by simp) k (hblk.cell 1) ?_;exact(((HKB.out.set 1 (.int .i64 ((k:Int)+1))).far ⟨w.heap.size,0,none⟩ _ d4).far ⟨w.heap.size,1,none⟩ _ d4).far ⟨w.heap.size,2,none⟩ _ d4
 exact bG (bG (bG (ay (Below.grownBy HB2.out) (nK w2 B 1 _)) (nlr _) 0 _) (nlr _) 1 _) (nlr _) 2 _
theorem yo(w:World)(B:Nat)(lv:Value)(ts:List Lx.Tok)(sz:Nat)(q:List Lx.Tok)(dp:Bool)(h:Cx w B lv ts sz q dp)(tk:Nat)(tt:Lx.Bs)(tp:Nat)(ht:pk sz q=⟨tk,tt,tp⟩)(kd:Nat)(hk:tk≠kd):
   Calls Tryz.prog 120 #[.pointer (some ⟨B,0,none⟩),.int .i64 (kd:Int)] w fun x w'=>x=kJ (Px.plc sz q) 4/\Below w.heap.size w w':=by
 have HX:=hd h;have HT:=hd ht
 have h0:((tk:Int)==(kd:Int))=false:=by rw[beq_eq_false_iff_ne];omega
 clear h ht;go_enter Tryz.func120,Tryz.ntmps120;go_wp2_with fail;refine(bJ _ B lv ts sz _ dp (HX.out.below ((Below.refl _ _).alloc (nlr _) _))).mono ?_;rintro x w1 ⟨rfl,hb⟩;have hs:=hb.size;have hb0:Below w.heap.size w w1:=((Below.refl _ _).alloc (nlr _) _).trans (hb.mono (by simp));have HB0:=hd hb0;clear hb hb0;simp only[World.size_alloc]at hs;rw[HT.out];unfold gT;simp only;go_wp2_with fail;refine(qg _ B lv ts sz q dp (HX.out.below (HB0.out.alloc (by omega) _))).mono ?_;rintro x w2 ⟨rfl,hb2⟩;exact⟨rfl,rfl,(HB0.out.alloc (by omega) _).trans (hb2.mono (by simp;omega))⟩
section
open Go.RowKit Go.Shelf Go.Lib
theorem Ct{x:List UInt8}(h:s.data.toList=x):s=⟨x.toArray⟩:=by
 cases s with
 |mk d=>cases d with
  |mk l=>simp at h;subst h;rfl
theorem mU{P:Program}{nm:String}{m:Nat}{e:TypeId}(ss:List (List UInt8))(hg:P.globalNamed nm=some g)(hty:(P.globals[g]?).map (·.type)=some t)
   (ht:P.underlying t=some (.array m e)) (he:P.underlying e=some .string) (hce:P.cellsOf e=1) (hct:P.cellsOf t=m)
   (h:VarReads P w nm (.agg (ss.map fun x=> .lit (.string x)))):∃t' fr,w.heap[g]? =some (.cells (ed ss) t' fr):=by
 obtain⟨g',t',cs,fuel,p,hg',hty',hvar,hd⟩:=h;obtain rfl:=Option.some.inj (hg.symm.trans hg');obtain rfl:=Option.some.inj (hty.symm.trans hty')
 have hcs:cs=ed ss:=by
  cases fuel with
  |zero=>simp[DataW.trod]at hd
  |succ fuel=>
   simp only[DataW.trod,ht,hce,hct,Nat.mul_one]at hd
   split at hd
   · rename_i hl;obtain⟨xs,hm,hx⟩:=Option.map_eq_some_iff.1 hd
     have hxs:xs.map (·.1)=ss.map fun x=>(DataW.lit (.string x):DataW Unit):=by
      have:=congrArg Prod.fst hx;simpa using this
     have hxl:xs.length=m:=by simpa using mapM_length hm
     have hzl:ss.length=m:=by
      have:=congrArg List.length hxs;simp at this;omega
     apply Array.ext';apply List.ext_getElem?;intro i;by_cases hi:i<m
     · obtain⟨b,hb,hf⟩:=mapM_at hm i i (by simp[hi]);obtain⟨s,hc,rfl,_⟩:=DataW.trod_string he hf
       have h1:cs.toList[i]? =some (.string s):=by
        have:=congrArg (·[0]?) hc;simpa[List.getElem?_take,List.getElem?_drop]using this
       have h2:(xs.map (·.1))[i]? =some (DataW.lit (.string s.data.toList):DataW Unit):=by simp[hb]
       rw[hxs]at h2;simp only[List.getElem?_map,Option.map_eq_some_iff,DataW.lit.injEq,Lit.string.injEq]at h2;obtain⟨x,hx',hxx⟩:=h2;rw[h1,Ct hxx.symm];simp[ed,hx']
     rw[List.getElem?_eq_none (by omega),List.getElem?_eq_none (by simp[ed];omega)]
   cases hd
 subst hcs;simp only[World.var?,hg,Option.bind_some]at hvar
 split at hvar
 · rename_i c t2 fr hh
   cases hvar
   exact⟨t2,fr,hh⟩
 cases hvar
def Df(x:Nat×Lx.Bs×Nat):DataW Unit:=.agg [.lit (.int .i64 (x.2.2:Int)),.lit (.string x.2.1),.lit (.int .i64 (x.1:Int))]
theorem mV:∀l:List (Nat×Lx.Bs×Nat),(opsRow l).length=l.length*3
 |[]=>rfl
 |(a,s,k)::r=>by simp[opsRow,mV r];omega
theorem xV:∀(l:List (Nat×Lx.Bs×Nat)) (i:Nat) (h:i<l.length),(opsRow l)[i*3]? =some (.int .i64 (l[i].2.2:Int))/\(opsRow l)[i*3+1]? =some (.string ⟨l[i].2.1.toArray⟩)/\(opsRow l)[i*3+2]? =some (.int .i64 (l[i].1:Int))
 |(a,s,k)::r,0,_=>⟨rfl,rfl,rfl⟩
 |(a,s,k)::r,i+1,h=>by
  have ih:=xV r i (by simpa using h)
  have e:∀j,(opsRow ((a,s,k)::r))[j+3]? =(opsRow r)[j]?:=by
   intro j;show([Value.int .i64 (k:Int),.string ⟨s.toArray⟩,.int .i64 (a:Int)]++opsRow r)[j+3]? =_;rw[List.getElem?_append_right (by simp)];simp
  rw[show(i+1)*3=i*3+3 from by omega,show i*3+3+1=(i*3+1)+3 from by omega,show i*3+3+2=(i*3+2)+3 from by omega,e,e,e];simpa using ih
theorem zK{P:Program}{nm:String}{m:Nat}{e:TypeId}{f0 f1 f2:Field}(ss:List (Nat×Lx.Bs×Nat))(hg:P.globalNamed nm=some g)(hty:(P.globals[g]?).map (·.type)=some t)
   (ht:P.underlying t=some (.array m e)) (he:P.underlying e=some (.struct #[f0,f1,f2])) (hce:P.cellsOf e=3) (hct:P.cellsOf t=m*3) (hm:ss.length=m)
   (u0:P.underlying f0.type=some (.int .i64)) (u1:P.underlying f1.type=some .string) (u2:P.underlying f2.type=some (.int .i64)) (c0:P.cellsOf f0.type=1) (c1:P.cellsOf f1.type=1) (c2:P.cellsOf f2.type=1)
   (o0:f0.offset=0) (o1:f1.offset=1) (o2:f2.offset=2)
   (h:VarReads P w nm (.agg (ss.map Df))):∃t' fr,w.heap[g]? =some (.cells (opsRow ss).toArray t' fr):=by
 obtain⟨g',t',cs,fuel,p,hg',hty',hvar,hd⟩:=h;obtain rfl:=Option.some.inj (hg.symm.trans hg');obtain rfl:=Option.some.inj (hty.symm.trans hty')
 have hlen:cs.toList.length=m*3:=by
  cases fuel with
  |zero=>simp[DataW.trod]at hd
  |succ fuel=>
   simp only[DataW.trod,ht]at hd
   split at hd
   · rename_i hl;rw[hl,hct]
   cases hd
 have key:∀i,(hi:i<m)->cs.toList[i*3]? =some (.int .i64 ((ss[i]'(by omega)).2.2:Int))/\cs.toList[i*3+1]? =some (.string ⟨(ss[i]'(by omega)).2.1.toArray⟩)/\cs.toList[i*3+2]? =some (.int .i64 ((ss[i]'(by omega)).1:Int)):=by
  intro i hi;obtain⟨fuel',d,q,hdi,hel⟩:=array_elem ht hd i hi
  have hi':i<ss.length:=by omega
  simp only[List.getElem?_map,List.getElem?_eq_getElem hi',Option.map_some,Option.some.injEq]at hdi;subst hdi;rw[hce]at hel;obtain⟨y0,y1,y2,n,hx,hl,h0,h1,h2⟩:=Go.Deep.trod_struct3 he hel;rw[o0,c0]at h0;rw[o1,c1]at h1;rw[o2,c2]at h2;obtain⟨z0,a0,b0,_⟩:=DataW.trod_int u0 h0;obtain⟨z1,a1,b1,_⟩:=DataW.trod_string u1 h1;obtain⟨z2,a2,b2,_⟩:=DataW.trod_int u2 h2;subst b0;subst b1;subst b2;simp only[Df,Prod.mk.injEq,DataW.agg.injEq,List.cons.injEq,DataW.lit.injEq,Lit.int.injEq,Lit.string.injEq,true_and,and_true]at hx;obtain⟨⟨e0,e1,e2⟩,_⟩:=hx;have g0:=congrArg (·[0]?) a0;have g1:=congrArg (·[0]?) a1;have g2:=congrArg (·[0]?) a2;simp only[List.getElem?_take,List.getElem?_drop]at g0 g1 g2;simp at g0 g1 g2;refine⟨?_,?_,?_⟩
  · rw[e0];simpa using g0
  · rw[Ct (s:=z1) e1.symm]at g1;simpa using g1
  rw[e2];simpa using g2
 have hcs:cs=(opsRow ss).toArray:=by
  apply Array.ext';apply List.ext_getElem?;intro j;by_cases hj:j<m*3
  · have hi:j/3<m:=by omega
    obtain⟨k0,k1,k2⟩:=key (j/3) hi;obtain⟨r0,r1,r2⟩:=xV ss (j/3) (by omega)
    have h3:j=j/3*3\/j=j/3*3+1\/j=j/3*3+2:=by omega
    rcases h3 with e|e|e
    · rw[e,k0];exact r0.symm
    · rw[e,k1];exact r1.symm
    rw[e,k2];exact r2.symm
  rw[List.getElem?_eq_none (by omega),List.getElem?_eq_none (by simp[mV];omega)]
 subst hcs;simp only[World.var?,hg,Option.bind_some]at hvar
 split at hvar
 · rename_i c t2 fr hh
   cases hvar
   exact⟨t2,fr,hh⟩
 cases hvar
theorem Ac{P:Program}{nm name:String}{is:Array (String×TypeId)}{d:DataW Unit}(hg:P.globalNamed nm=some g)(hty:(P.globals[g]?).map (·.type)=some t)
   (ht:P.underlying t=some (.interface is)) (h:VarReads P w nm (.iface name d)):∃te pe,w.cell? ⟨g,0,none⟩=some (.iface te pe):=by
 obtain⟨g',t',cs,fuel,p,hg',hty',hvar,hd⟩:=h;obtain rfl:=Option.some.inj (hg.symm.trans hg');obtain rfl:=Option.some.inj (hty.symm.trans hty');rw[World.var?_cell hg hvar 0,<-Array.getElem?_toList];generalize cs.toList=l at hd⊢
 cases fuel with
 |zero=>simp[DataW.trod]at hd
 |succ fuel=>
  match l,hd with
  |[],hd=>simp[DataW.trod,ht]at hd
  |[v],hd=>
   cases v with
   |iface u x=>exact⟨u,x,rfl⟩
   |_=>simp[DataW.trod,ht]at hd
  |a::b::r,hd=>simp[DataW.trod,ht]at hd
end
theorem Kl(s:ByteArray)(k:Nat)(h:k<=s.size):k+(bu s k).2<=s.size:=by
 unfold bu
 split
 · rename_i hk
   split
   · simp;omega
   have hle:=Lx.gL (s.data.toList.drop k);rw[List.length_drop,show s.data.toList.length=s.size from by simp]at hle;simp;omega
 simp;omega
theorem uT(w:World)(B:Nat)(s:ByteArray)(k st:Nat)(h:Rd w B s k st):
   Calls Tryz.prog 234 #[.pointer (some ⟨B,0,none⟩)] w fun e w'=>e=.returned (.int .i32 (bu s k).1)/\Rd w' B s (k+(bu s k).2) st/\w.grownBy w' (some B):=by
 have hpl:=Kl s k h.le;have hsm:=h.small;obtain⟨c,n,hpk⟩:∃c n,bu s k=(c,n):=⟨_,_,rfl⟩;rw[hpk]at hpl⊢;have HPK:Hid _:=hpk;clear hpk;simp only at hpl⊢;go_enter Tryz.func234,Tryz.ntmps234;go_wp2_with fail;refine(nW w B s k st h).mono ?_;rintro e w1 ⟨rfl,hb1⟩;rw[HPK.out];have h1:=h.below hb1;obtain⟨⟨b0,b1,b2⟩,b3,b4,b5⟩:=h1.blk.three;go_wp2;go_ret;refine⟨rfl,?_,?_⟩
 · exact h1.set1 (k+n) hpl
 exact ay (Below.grownBy hb1) (nK w1 B 1 _)
theorem ym(s:ByteArray)(i:Nat)(h:i<s.size)(hb:128<=s[i].toNat):i+(Utf8.decode s i).2<=s.size/\1<=(Utf8.decode s i).2/\∀j,j<(Utf8.decode s i).2->128<=(s.get! (i+j)).toNat:=by
 by_cases hc:Lx.aF (s.data.toList.drop i)=0
 · rw[(oh s i h hc).1];refine⟨by simp;omega,by simp,?_⟩;intro j hj
   have:j=0:=by simp at hj;exact hj
   subst this;rw[Nat.add_zero,bZ s i h];exact hb
 have hle:=Lx.gL (s.data.toList.drop i);rw[List.length_drop,show s.data.toList.length=s.size from by simp]at hle;have hg:=jL s i h hc;have hcls:=qb s i h;rw[bZ s i h]at hcls;rw[hg.1];refine⟨by omega,by omega,?_⟩;intro j hj;rcases hg.2.2 with⟨q,_,q2⟩|⟨q,_⟩
 · omega
 have hn:Lx.aF (s.data.toList.drop i)=2\/Lx.aF (s.data.toList.drop i)=3\/Lx.aF (s.data.toList.drop i)=4:=by
  have:∀n b0 b1 b2 b3,jM n b0 b1 b2 b3<=4:=by
   intro n b0 b1 b2 b3;unfold jM
   repeat' split
   all_goals omega
  have:=this (s.size-i) s[i].toNat (s.get! (i+1)).toNat (s.get! (i+2)).toNat (s.get! (i+3)).toNat;rw[<-hcls]at this;omega
 have lo:∀b,128<=Lx.jC b:=by
  intro b;unfold Lx.jC
  repeat' split
  all_goals omega
 have hj0:j=0->128<=(s.get! (i+j)).toNat:=by rintro rfl;rw[Nat.add_zero,bZ s i h];exact hb
 rcases hn with e|e|e
 · rw[e]at hcls hj;obtain⟨_,q1,_⟩:=Ff _ _ _ _ _ hcls.symm
   have:j=0\/j=1:=by omega
   rcases this with rfl|rfl
   · exact hj0 rfl
   exact q1.2.1
 · rw[e]at hcls hj;obtain⟨_,q1,q2,_⟩:=yf _ _ _ _ _ hcls.symm;have:=lo s[i].toNat
   have:j=0\/j=1\/j=2:=by omega
   rcases this with rfl|rfl|rfl
   · exact hj0 rfl
   · omega
   exact q2.2.1
 rw[e]at hcls hj;obtain⟨_,q1,q2,q3,_⟩:=BV _ _ _ _ _ hcls.symm;have:=lo s[i].toNat
 have:j=0\/j=1\/j=2\/j=3:=by omega
 rcases this with rfl|rfl|rfl|rfl
 · exact hj0 rfl
 · omega
 · exact q2.2.1
 exact q3.2.1
structure Fits(p:Int->Bool)(q:UInt8->Bool):Prop where
 low:∀b:UInt8,b.toNat<128->p (b.toNat:Int)=q b
 high:(∀r:Int,128<=r->p r=false)/\(∀b:UInt8,128<=b.toNat->q b=false)\/(∀r:Int,128<=r->p r=true)/\(∀b:UInt8,128<=b.toNat->q b=true)
theorem EG(q:UInt8->Bool)(s:ByteArray):∀(n i:Nat),i+n<=s.size->(∀j,j<n->q (s.get! (i+j))=true)->Lx.cnt q (s.data.toList.drop i)=n+Lx.cnt q (s.data.toList.drop (i+n))
 |0,i,_,_=>by simp
 |n+1,i,h,hq=>by
  rw[zA q s i (by omega),if_pos (by have:=hq 0 (by omega);rwa [Nat.add_zero,bZ s i (by omega)]at this)];rw[EG q s n (i+1) (by omega) (fun j hj=>by have:=hq (j+1) (by omega);rwa [show i+(j+1)=i+1+j from by omega]at this)];rw[show i+1+n=i+(n+1)from by omega];omega
theorem Fits.yes{p:Int->Bool}{q:UInt8->Bool}(hf:Fits p q)(s:ByteArray)(i:Nat)(h:i<s.size)(hp:p ((Utf8.decode s i).1:Int)=true):
   Lx.cnt q (s.data.toList.drop i)=(Utf8.decode s i).2+Lx.cnt q (s.data.toList.drop (i+(Utf8.decode s i).2))/\i+(Utf8.decode s i).2<=s.size/\1<=(Utf8.decode s i).2:=by
 by_cases hb:s[i].toNat<128
 · rw[decode_ascii s i h hb]at hp⊢;simp only at hp⊢;rw[hf.low _ hb]at hp;refine⟨?_,by omega,by omega⟩;rw[zA q s i h,if_pos hp];omega
 have hh:=ym s i h (by omega);have hr:=(decode_high s i h (by omega)).1;refine⟨?_,hh.1,hh.2.1⟩;rcases hf.high with⟨h1,_⟩|⟨_,h2⟩
 · rw[h1 _ (by omega)]at hp;cases hp
 exact EG q s _ i hh.1 (fun j hj=>h2 _ (hh.2.2 j hj))
theorem Fits.no{p:Int->Bool}{q:UInt8->Bool}(hf:Fits p q)(s:ByteArray)(i:Nat)(h:i<s.size)(hp:p ((Utf8.decode s i).1:Int)=false):Lx.cnt q (s.data.toList.drop i)=0:=by
 rw[zA q s i h,if_neg];intro hq;by_cases hb:s[i].toNat<128
 · rw[decode_ascii s i h hb]at hp;rw[hf.low _ hb,hq]at hp
   cases hp
 have hr:=(decode_high s i h (by omega)).1;rcases hf.high with⟨_,h2⟩|⟨h1,_⟩
 · rw[h2 _ (by omega)]at hq;cases hq
 rw[h1 _ (by omega)]at hp;cases hp
theorem Fb:Fits OP Lx.isSp:=by
 refine⟨fun b hb=> ?_,.inl ⟨fun r hr=> ?_,fun b hb=> ?_⟩⟩
 · unfold OP Lx.isSp;rw[Bool.eq_iff_iff];simp;omega
 · unfold OP;simp;omega
 unfold Lx.isSp;simp;omega
theorem wV:Fits xe Lx.fD:=by
 refine⟨fun b hb=> ?_,.inr ⟨fun r hr=> ?_,fun b hb=> ?_⟩⟩
 · unfold xe Lx.fD;rw[Bool.eq_iff_iff];simp;omega
 · unfold xe;simp;omega
 unfold Lx.fD;simp;omega
theorem BG:Fits vQ Lx.aI:=by
 refine⟨fun b hb=> ?_,.inl ⟨fun r hr=> ?_,fun b hb=> ?_⟩⟩
 · unfold vQ Lx.aI;rw[Bool.eq_iff_iff];simp;omega
 · unfold vQ;simp;omega
 unfold Lx.aI;simp;omega
theorem zL:Fits KO Lx.dA:=by
 refine⟨fun b hb=> ?_,.inl ⟨fun r hr=> ?_,fun b hb=> ?_⟩⟩
 · unfold KO Lx.dA Lx.aI Lx.isLet;rw[Bool.eq_iff_iff];simp;omega
 · unfold KO;simp;omega
 unfold Lx.dA Lx.aI Lx.isLet;simp;omega
theorem Rd.iter(h:Rd w B s k st)(t:ByteArray)(p:Nat):Rd (w.drew.iter t p) B s k st:=
 h.drew.below ((Below.refl _ _).alloc (nlr _) _)
theorem bW(w:World)(t:ByteArray)(p B:Nat):w.grownBy (w.drew.iter t p) (some B):=
 ay (grownBy_drew (grownBy_refl w _)) (Below.grownBy ((Below.refl _ _).alloc (nlr _) _))
theorem rM(w:World)(B:Nat)(s:ByteArray)(k st:Nat)(h:Rd w B s k st):
   Calls Tryz.prog 110 #[.pointer (some ⟨B,0,none⟩),.func (.func 173) #[] #[]] w fun e w'=>∃u:ByteArray,e=.returned (.string u)/\u.data.toList=(s.data.toList.drop k).take (Lx.cnt Lx.aI (s.data.toList.drop k))/\Rd w' B s (k+Lx.cnt Lx.aI (s.data.toList.drop k)) st/\w.grownBy w' (some B):=by
 obtain⟨⟨b0,b1,b2⟩,b3,b4,b5⟩:=h.blk.three;have hle:=h.le;have hsm:=h.small;obtain⟨t,ht⟩:∃t,t=s.extract k s.size:=⟨_,rfl⟩
 have hT:t.data.toList=s.data.toList.drop k:=by rw[ht];exact Lib.extract_to_end s k
 have hts:t.size+k=s.size:=by rw[ht];simp;omega
 rw[<-hT];have HT:=hd hT;have HTT:=hd ht;clear ht hT
 have hI1:∀p,(w.drew.iter t p).cell? ⟨B,1,none⟩=some (.int .i64 (k:Int)):=fun p=>(h.iter t p).blk.cell 1
 have hI2:∀p,(w.drew.iter t p).frozen? ⟨B,1,none⟩=false:=fun p=>(h.iter t p).blk.free 1
 go_enter Tryz.func110,Tryz.ntmps110;go_wp2
 go_region
 all_goals go_wp2
 rw[<-HTT.out];go_loopw [6] (fun v wr=>∃pos:Nat,v=.int .i64 (t.size:Int)/\wr=w.drew.iter t pos/\pos<=t.size/\Hid (Lx.cnt Lx.aI t.data.toList=pos+Lx.cnt Lx.aI (t.data.toList.drop pos))) (fun _ wr=>t.size-wr.iterPos w.heap.size)
 case atStart=>exact⟨0,by rw[show s.size-k=t.size from by omega],rfl,by omega,by show _=_;simp⟩
 case round=>
  obtain⟨pos,rfl,rfl,hpos,HK⟩:=hrel;by_cases hlt:pos<t.size
  · have hnx:∀ty,(Instr.next (.pointer (some ⟨w.heap.size,0,none⟩)) true ty).run Tryz.prog (w.drew.iter t pos)=.ok (.tuple #[.bool true,.int .i64 pos,.int .i32 (Utf8.decode t pos).1]) (w.drew.iter t (pos+(Utf8.decode t pos).2)):=fun ty=>run_next_any (P:=Tryz.prog) w.drew t pos ty hlt
    cases hp:vQ ((Utf8.decode t pos).1:Int)
    · have HN:=hd (BG.no t pos hlt hp);generalize (Utf8.decode t pos)=d at*;obtain⟨c,n⟩:=d;go_wp2_with(go_at_call 173;refine(je _ _).mono ?_;rintro e w' ⟨rfl,rfl⟩);go_ret
      have hc:Lx.cnt Lx.aI t.data.toList=pos:=by rw[HK.out,HN.out];rfl
      rw[hc];refine⟨_,rfl,?_,(h.iter t (pos+n)).set1 (k+pos) (by omega),ay (bW w t (pos+n) B) (nK _ B 1 _)⟩;rw[Lib.extract_data];simp
    have HY:=hd (BG.yes t pos hlt hp);generalize (Utf8.decode t pos)=d at*;obtain⟨c,n⟩:=d;go_wp2_with(go_at_call 173;refine(je _ _).mono ?_;rintro e w' ⟨rfl,rfl⟩);go_roundw
    case rel=>
     obtain⟨y1,y2,y3⟩:=HY.out
     try simp only at y1 y2 y3
     exact⟨pos+n,rfl,rfl,y2,by have h1:=HK.out;show _=_;omega⟩
    case measure=>
     obtain⟨y1,y2,y3⟩:=HY.out
     try simp only at y1 y2 y3
     show t.size-(w.drew.iter t (pos+n)).iterPos w.drew.heap.size<t.size-(w.drew.iter t pos).iterPos w.drew.heap.size;rw[World.iterPos_iter,World.iterPos_iter];omega
  have hnx:∀ty,(Instr.next (.pointer (some ⟨w.heap.size,0,none⟩)) true ty).run Tryz.prog (w.drew.iter t pos)=.ok (.tuple #[.bool false]) (w.drew.iter t pos):=fun ty=>run_next_end (P:=Tryz.prog) w.drew t pos ty hlt
  go_wp2;go_ret
  have hc:Lx.cnt Lx.aI t.data.toList=t.size:=by rw[HK.out,oq Lx.aI t pos (by omega)];omega
  rw[hc];refine⟨_,rfl,?_,(h.iter t pos).set1 (k+t.size) (by omega),ay (bW w t pos B) (nK _ B 1 _)⟩;rw[List.take_of_length_le (by simp)]
theorem rQ(w:World)(B:Nat)(s:ByteArray)(k st:Nat)(h:Rd w B s k st):
   Calls Tryz.prog 110 #[.pointer (some ⟨B,0,none⟩),.func (.func 111) #[] #[]] w fun e w'=>∃u:ByteArray,e=.returned (.string u)/\u.data.toList=(s.data.toList.drop k).take (Lx.cnt Lx.isSp (s.data.toList.drop k))/\Rd w' B s (k+Lx.cnt Lx.isSp (s.data.toList.drop k)) st/\w.grownBy w' (some B):=by
 obtain⟨⟨b0,b1,b2⟩,b3,b4,b5⟩:=h.blk.three;have hle:=h.le;have hsm:=h.small;obtain⟨t,ht⟩:∃t,t=s.extract k s.size:=⟨_,rfl⟩
 have hT:t.data.toList=s.data.toList.drop k:=by rw[ht];exact Lib.extract_to_end s k
 have hts:t.size+k=s.size:=by rw[ht];simp;omega
 rw[<-hT];have HT:=hd hT;have HTT:=hd ht;clear ht hT
 have hI1:∀p,(w.drew.iter t p).cell? ⟨B,1,none⟩=some (.int .i64 (k:Int)):=fun p=>(h.iter t p).blk.cell 1
 have hI2:∀p,(w.drew.iter t p).frozen? ⟨B,1,none⟩=false:=fun p=>(h.iter t p).blk.free 1
 go_enter Tryz.func110,Tryz.ntmps110;go_wp2
 go_region
 all_goals go_wp2
 rw[<-HTT.out];go_loopw [6] (fun v wr=>∃pos:Nat,v=.int .i64 (t.size:Int)/\wr=w.drew.iter t pos/\pos<=t.size/\Hid (Lx.cnt Lx.isSp t.data.toList=pos+Lx.cnt Lx.isSp (t.data.toList.drop pos))) (fun _ wr=>t.size-wr.iterPos w.heap.size)
 case atStart=>exact⟨0,by rw[show s.size-k=t.size from by omega],rfl,by omega,by show _=_;simp⟩
 case round=>
  obtain⟨pos,rfl,rfl,hpos,HK⟩:=hrel;by_cases hlt:pos<t.size
  · have hnx:∀ty,(Instr.next (.pointer (some ⟨w.heap.size,0,none⟩)) true ty).run Tryz.prog (w.drew.iter t pos)=.ok (.tuple #[.bool true,.int .i64 pos,.int .i32 (Utf8.decode t pos).1]) (w.drew.iter t (pos+(Utf8.decode t pos).2)):=fun ty=>run_next_any (P:=Tryz.prog) w.drew t pos ty hlt
    cases hp:OP ((Utf8.decode t pos).1:Int)
    · have HN:=hd (Fb.no t pos hlt hp);generalize (Utf8.decode t pos)=d at*;obtain⟨c,n⟩:=d;go_wp2_with(go_at_call 111;refine(qI _ _).mono ?_;rintro e w' ⟨rfl,rfl⟩);go_ret
      have hc:Lx.cnt Lx.isSp t.data.toList=pos:=by rw[HK.out,HN.out];rfl
      rw[hc];refine⟨_,rfl,?_,(h.iter t (pos+n)).set1 (k+pos) (by omega),ay (bW w t (pos+n) B) (nK _ B 1 _)⟩;rw[Lib.extract_data];simp
    have HY:=hd (Fb.yes t pos hlt hp);generalize (Utf8.decode t pos)=d at*;obtain⟨c,n⟩:=d;go_wp2_with(go_at_call 111;refine(qI _ _).mono ?_;rintro e w' ⟨rfl,rfl⟩);go_roundw
    case rel=>
     obtain⟨y1,y2,y3⟩:=HY.out
     try simp only at y1 y2 y3
     exact⟨pos+n,rfl,rfl,y2,by have h1:=HK.out;show _=_;omega⟩
    case measure=>
     obtain⟨y1,y2,y3⟩:=HY.out
     try simp only at y1 y2 y3
     show t.size-(w.drew.iter t (pos+n)).iterPos w.drew.heap.size<t.size-(w.drew.iter t pos).iterPos w.drew.heap.size;rw[World.iterPos_iter,World.iterPos_iter];omega
  have hnx:∀ty,(Instr.next (.pointer (some ⟨w.heap.size,0,none⟩)) true ty).run Tryz.prog (w.drew.iter t pos)=.ok (.tuple #[.bool false]) (w.drew.iter t pos):=fun ty=>run_next_end (P:=Tryz.prog) w.drew t pos ty hlt
  go_wp2;go_ret
  have hc:Lx.cnt Lx.isSp t.data.toList=t.size:=by rw[HK.out,oq Lx.isSp t pos (by omega)];omega
  rw[hc];refine⟨_,rfl,?_,(h.iter t pos).set1 (k+t.size) (by omega),ay (bW w t pos B) (nK _ B 1 _)⟩;rw[List.take_of_length_le (by simp)]
theorem u7(w:World)(B:Nat)(s:ByteArray)(k st:Nat)(h:Rd w B s k st):
   Calls Tryz.prog 110 #[.pointer (some ⟨B,0,none⟩),.func (.func 113) #[] #[]] w fun e w'=>∃u:ByteArray,e=.returned (.string u)/\u.data.toList=(s.data.toList.drop k).take (Lx.cnt Lx.fD (s.data.toList.drop k))/\Rd w' B s (k+Lx.cnt Lx.fD (s.data.toList.drop k)) st/\w.grownBy w' (some B):=by
 obtain⟨⟨b0,b1,b2⟩,b3,b4,b5⟩:=h.blk.three;have hle:=h.le;have hsm:=h.small;obtain⟨t,ht⟩:∃t,t=s.extract k s.size:=⟨_,rfl⟩
 have hT:t.data.toList=s.data.toList.drop k:=by rw[ht];exact Lib.extract_to_end s k
 have hts:t.size+k=s.size:=by rw[ht];simp;omega
 rw[<-hT];have HT:=hd hT;have HTT:=hd ht;clear ht hT
 have hI1:∀p,(w.drew.iter t p).cell? ⟨B,1,none⟩=some (.int .i64 (k:Int)):=fun p=>(h.iter t p).blk.cell 1
 have hI2:∀p,(w.drew.iter t p).frozen? ⟨B,1,none⟩=false:=fun p=>(h.iter t p).blk.free 1
 go_enter Tryz.func110,Tryz.ntmps110;go_wp2
 go_region
 all_goals go_wp2
 rw[<-HTT.out];go_loopw [6] (fun v wr=>∃pos:Nat,v=.int .i64 (t.size:Int)/\wr=w.drew.iter t pos/\pos<=t.size/\Hid (Lx.cnt Lx.fD t.data.toList=pos+Lx.cnt Lx.fD (t.data.toList.drop pos))) (fun _ wr=>t.size-wr.iterPos w.heap.size)
 case atStart=>exact⟨0,by rw[show s.size-k=t.size from by omega],rfl,by omega,by show _=_;simp⟩
 case round=>
  obtain⟨pos,rfl,rfl,hpos,HK⟩:=hrel;by_cases hlt:pos<t.size
  · have hnx:∀ty,(Instr.next (.pointer (some ⟨w.heap.size,0,none⟩)) true ty).run Tryz.prog (w.drew.iter t pos)=.ok (.tuple #[.bool true,.int .i64 pos,.int .i32 (Utf8.decode t pos).1]) (w.drew.iter t (pos+(Utf8.decode t pos).2)):=fun ty=>run_next_any (P:=Tryz.prog) w.drew t pos ty hlt
    cases hp:xe ((Utf8.decode t pos).1:Int)
    · have HN:=hd (wV.no t pos hlt hp);generalize (Utf8.decode t pos)=d at*;obtain⟨c,n⟩:=d;go_wp2_with(go_at_call 113;refine(sF _ _).mono ?_;rintro e w' ⟨rfl,rfl⟩);go_ret
      have hc:Lx.cnt Lx.fD t.data.toList=pos:=by rw[HK.out,HN.out];rfl
      rw[hc];refine⟨_,rfl,?_,(h.iter t (pos+n)).set1 (k+pos) (by omega),ay (bW w t (pos+n) B) (nK _ B 1 _)⟩;rw[Lib.extract_data];simp
    have HY:=hd (wV.yes t pos hlt hp);generalize (Utf8.decode t pos)=d at*;obtain⟨c,n⟩:=d;go_wp2_with(go_at_call 113;refine(sF _ _).mono ?_;rintro e w' ⟨rfl,rfl⟩);go_roundw
    case rel=>
     obtain⟨y1,y2,y3⟩:=HY.out
     try simp only at y1 y2 y3
     exact⟨pos+n,rfl,rfl,y2,by have h1:=HK.out;show _=_;omega⟩
    case measure=>
     obtain⟨y1,y2,y3⟩:=HY.out
     try simp only at y1 y2 y3
     show t.size-(w.drew.iter t (pos+n)).iterPos w.drew.heap.size<t.size-(w.drew.iter t pos).iterPos w.drew.heap.size;rw[World.iterPos_iter,World.iterPos_iter];omega
  have hnx:∀ty,(Instr.next (.pointer (some ⟨w.heap.size,0,none⟩)) true ty).run Tryz.prog (w.drew.iter t pos)=.ok (.tuple #[.bool false]) (w.drew.iter t pos):=fun ty=>run_next_end (P:=Tryz.prog) w.drew t pos ty hlt
  go_wp2;go_ret
  have hc:Lx.cnt Lx.fD t.data.toList=t.size:=by rw[HK.out,oq Lx.fD t pos (by omega)];omega
  rw[hc];refine⟨_,rfl,?_,(h.iter t pos).set1 (k+t.size) (by omega),ay (bW w t pos B) (nK _ B 1 _)⟩;rw[List.take_of_length_le (by simp)]
theorem tV(w:World)(B:Nat)(s:ByteArray)(k st:Nat)(h:Rd w B s k st):
   Calls Tryz.prog 110 #[.pointer (some ⟨B,0,none⟩),.func (.func 175) #[] #[]] w fun e w'=>∃u:ByteArray,e=.returned (.string u)/\u.data.toList=(s.data.toList.drop k).take (Lx.cnt Lx.dA (s.data.toList.drop k))/\Rd w' B s (k+Lx.cnt Lx.dA (s.data.toList.drop k)) st/\w.grownBy w' (some B):=by
 obtain⟨⟨b0,b1,b2⟩,b3,b4,b5⟩:=h.blk.three;have hle:=h.le;have hsm:=h.small;obtain⟨t,ht⟩:∃t,t=s.extract k s.size:=⟨_,rfl⟩
 have hT:t.data.toList=s.data.toList.drop k:=by rw[ht];exact Lib.extract_to_end s k
 have hts:t.size+k=s.size:=by rw[ht];simp;omega
 rw[<-hT];have HT:=hd hT;have HTT:=hd ht;clear ht hT
 have hI1:∀p,(w.drew.iter t p).cell? ⟨B,1,none⟩=some (.int .i64 (k:Int)):=fun p=>(h.iter t p).blk.cell 1
 have hI2:∀p,(w.drew.iter t p).frozen? ⟨B,1,none⟩=false:=fun p=>(h.iter t p).blk.free 1
 go_enter Tryz.func110,Tryz.ntmps110;go_wp2
 go_region
 all_goals go_wp2
 rw[<-HTT.out];go_loopw [6] (fun v wr=>∃pos:Nat,v=.int .i64 (t.size:Int)/\wr=w.drew.iter t pos/\pos<=t.size/\Hid (Lx.cnt Lx.dA t.data.toList=pos+Lx.cnt Lx.dA (t.data.toList.drop pos))) (fun _ wr=>t.size-wr.iterPos w.heap.size)
 case atStart=>exact⟨0,by rw[show s.size-k=t.size from by omega],rfl,by omega,by show _=_;simp⟩
 case round=>
  obtain⟨pos,rfl,rfl,hpos,HK⟩:=hrel;by_cases hlt:pos<t.size
  · have hnx:∀ty,(Instr.next (.pointer (some ⟨w.heap.size,0,none⟩)) true ty).run Tryz.prog (w.drew.iter t pos)=.ok (.tuple #[.bool true,.int .i64 pos,.int .i32 (Utf8.decode t pos).1]) (w.drew.iter t (pos+(Utf8.decode t pos).2)):=fun ty=>run_next_any (P:=Tryz.prog) w.drew t pos ty hlt
    cases hp:KO ((Utf8.decode t pos).1:Int)
    · have HN:=hd (zL.no t pos hlt hp);generalize (Utf8.decode t pos)=d at*;obtain⟨c,n⟩:=d;go_wp2_with(go_at_call 175;refine(iF _ _).mono ?_;rintro e w' ⟨rfl,rfl⟩);go_ret
      have hc:Lx.cnt Lx.dA t.data.toList=pos:=by rw[HK.out,HN.out];rfl
      rw[hc];refine⟨_,rfl,?_,(h.iter t (pos+n)).set1 (k+pos) (by omega),ay (bW w t (pos+n) B) (nK _ B 1 _)⟩;rw[Lib.extract_data];simp
    have HY:=hd (zL.yes t pos hlt hp);generalize (Utf8.decode t pos)=d at*;obtain⟨c,n⟩:=d;go_wp2_with(go_at_call 175;refine(iF _ _).mono ?_;rintro e w' ⟨rfl,rfl⟩);go_roundw
    case rel=>
     obtain⟨y1,y2,y3⟩:=HY.out
     try simp only at y1 y2 y3
     exact⟨pos+n,rfl,rfl,y2,by have h1:=HK.out;show _=_;omega⟩
    case measure=>
     obtain⟨y1,y2,y3⟩:=HY.out
     try simp only at y1 y2 y3
     show t.size-(w.drew.iter t (pos+n)).iterPos w.drew.heap.size<t.size-(w.drew.iter t pos).iterPos w.drew.heap.size;rw[World.iterPos_iter,World.iterPos_iter];omega
  have hnx:∀ty,(Instr.next (.pointer (some ⟨w.heap.size,0,none⟩)) true ty).run Tryz.prog (w.drew.iter t pos)=.ok (.tuple #[.bool false]) (w.drew.iter t pos):=fun ty=>run_next_end (P:=Tryz.prog) w.drew t pos ty hlt
  go_wp2;go_ret
  have hc:Lx.cnt Lx.dA t.data.toList=t.size:=by rw[HK.out,oq Lx.dA t pos (by omega)];omega
  rw[hc];refine⟨_,rfl,?_,(h.iter t pos).set1 (k+t.size) (by omega),ay (bW w t pos B) (nK _ B 1 _)⟩;rw[List.take_of_length_le (by simp)]
section
open Go.RowKit Go.Shelf Go.Lib
theorem LX:U8Types Tryz.prog Tryz.lays197_ren:=⟨by kernel_rfl,by kernel_rfl,by kernel_rfl,by kernel_rfl⟩
theorem LM:U8Extra Tryz.prog Tryz.lays197_ren:=⟨by kernel_rfl,by kernel_rfl,by kernel_rfl,by kernel_rfl,by kernel_rfl,by kernel_rfl,by kernel_rfl⟩
theorem Ga:(Rows.laid_unicode_utf8_acceptRanges:DataW Unit)=acceptData:=by kernel_rfl
theorem Jy:Rows.laid_unicode_utf8_first=firstData:=Pinned.utf8First_eq
theorem keys_eq:(Rows.laid_clause_reader_keywords:DataW Unit)=.agg (Lx.keys.map fun x=> .lit (.string x)):=by kernel_rfl
theorem Kv:(Rows.laid_clause_reader_signs:DataW Unit)=.agg (jP.map fun x=> .lit (.string x)):=by kernel_rfl
theorem OI:(Rows.laid_clause_syntax_operators:DataW Unit)=.agg (Px.bR.map Df):=by kernel_rfl
theorem wO{W:World}(h:W.ShapedOpen Tryz.prog):12<=W.heap.size:=by
 have hz:(((begin Tryz.prog (fun _ _=>0) default).world.heap[12-1]?).bind Obj.row?).isSome=true:=by kernel_rfl
 obtain⟨⟨zero,t⟩,he⟩:=Option.isSome_iff_exists.1 hz;obtain⟨cs,hc,_⟩:=h.1 (12-1) zero t (of_decide_eq_true (by kernel_rfl)) he;obtain⟨hlt,_⟩:=geA.1 hc;exact hlt
theorem wF{W:World}(ha:VarReads Tryz.prog W "unicode/utf8.acceptRanges" Rows.laid_unicode_utf8_acceptRanges)(hk:VarReads Tryz.prog W "clause/reader.keywords" Rows.laid_clause_reader_keywords)
   (hs:VarReads Tryz.prog W "clause/reader.signs" Rows.laid_clause_reader_signs) (hf:VarReads Tryz.prog W "unicode/utf8.first" Rows.laid_unicode_utf8_first)
   (ho:VarReads Tryz.prog W "clause/syntax.operators" Rows.laid_clause_syntax_operators) (hr:VarReads Tryz.prog W "strconv.ErrRange" Rows.laid_strconv_ErrRange) (hsh:W.ShapedOpen Tryz.prog):jr W where
 env:={
   tabs:=utf8Tabs_of_readsT LX LM (Jy▸hf) (Ga▸ha)
   kws:=mU (t:=383) (e:=9) (m:=27) Lx.keys (by kernel_rfl) (by kernel_rfl) (by kernel_rfl) (by kernel_rfl) (by kernel_rfl) (by kernel_rfl) (keys_eq▸hk)
   sgs:=mU (t:=338) (e:=9) (m:=16) jP (by kernel_rfl) (by kernel_rfl) (by kernel_rfl) (by kernel_rfl) (by kernel_rfl) (by kernel_rfl) (Kv▸hs)
   room:=wO hsh}
 ops:=zK (t:=409) (e:=408) (m:=14) Px.bR (by kernel_rfl) (by kernel_rfl) (by kernel_rfl) Tryz.underlying408 (by kernel_rfl) (by kernel_rfl) rfl (by kernel_rfl) (by kernel_rfl) (by kernel_rfl) (by kernel_rfl) (by kernel_rfl) (by kernel_rfl) rfl rfl rfl (OI▸ho)
 rng:=Ac (t:=209) (by kernel_rfl) (by kernel_rfl) Tryz.underlying209 hr
end
section
namespace Px
open Lx (Bs Tok)
def pkN:List Nd->Int
 |[]=>0
 |x::_=>x.kind
def rA(x:Nd):Option E:=
 if x.kind=14 then if iL x 0=true then some .null else none
 else if x.kind=15 then if x.text=[]/\x.kids=0/\(x.num=0\/x.num=1)then some (.bool (decide (x.num=1)))else none
 else if x.kind=16 then if x.text=[]/\x.kids=0 then some (.num x.num)else none
 else if x.kind=17 then if Lx.bM x.text=true/\x.num=0/\x.kids=0 then some (.str x.text)else none
 else if x.kind=18 then if isName x.text=true/\x.num=0/\x.kids=0 then some (.nm x.text)else none
 else none
def rE:Nat->List Nd->Option (E×List Nd)
 |0,_=>none
 |_+1,[]=>none
 |f+1,x::r=>
  if x.kind=19\/x.kind=20\/x.kind=21\/x.kind=22 then
    if iL x 1=true/\¬(x.kind=19/\pkN r=16)then(rE f r).map fun y=>(.un x.kind.toNat y.1,y.2)else none
  else if 23<=x.kind/\x.kind<=36 then
    if iL x 2=true then(rE f r).bind fun y=>(rE f y.2).map fun z=>(.bin x.kind.toNat y.1 z.1,z.2)else none
  else(rA x).map fun e=>(e,r)
def rN{α:Type}(x:List Nd->Option (α×List Nd)):Nat->List Nd->Option (List α×List Nd)
 |0,l=>some ([],l)
 |k+1,l=>(x l).bind fun y=>(rN x k y.2).map fun z=>(y.1::z.1,z.2)
def rW{α:Type}(is:Int->Bool)(x:List Nd->Option (α×List Nd)):Nat->List Nd->Option (List α×Nat×List Nd)
 |0,l=>some ([],0,l)
 |k+1,l=>if is (pkN l)=true then(x l).bind fun y=>(rW is x k y.2).map fun z=>(y.1::z.1,z.2)else some ([],k+1,l)
def Nu:List Nd->Option ((Bs×Nat)×List Nd)
 |[]=>none
 |x::r=>if x.kind=2/\isName x.text=true/\x.kids=0/\1<=(if 4<x.num then x.num-4 else x.num)/\(if 4<x.num then x.num-4 else x.num)<=3 then some ((x.text,x.num.toNat),r)else none
def MC:List Nd->Option (List E×List Nd)
 |[]=>none
 |x::r=>if x.kind=5/\x.text=[]/\x.num=0/\1<=x.kids then rN (rE 40) x.kids.toNat r else none
def Mr:List Nd->Option ((Bs×E)×List Nd)
 |[]=>none
 |x::r=>if x.kind=8/\isName x.text=true/\x.num=0/\x.kids=1 then(rE 40 r).map fun y=>((x.text,y.1),y.2)else none
def CB:List Nd->Option (Option E×List Nd)
 |[]=>none
 |x::r=>if x.kind=10 then if iL x 0=true then some (none,r)else none else(rE 40 (x::r)).map fun y=>(some y.1,y.2)
def yI:List Nd->Option ((E×Bool)×List Nd)
 |[]=>none
 |x::r=>if x.text=[]/\x.kids=1/\(x.num=0\/x.num=1)then(rE 40 r).map fun y=>((y.1,decide (x.num=1)),y.2)else none
def qE(left:Nat)(l:List Nd):Option (Option E×Nat×List Nd):=
 if left≠0/\pkN l=11 then
   match l with
   |[]=>none
   |x::r=>if iL x 1=true then(rE 40 r).map fun y=>(some y.1,left-1,y.2)else none
 else some (none,left,l)
def LY(left:Nat)(l:List Nd):Option (Option Nat×Nat×List Nd):=
 if left≠0/\pkN l=13 then
   match l with
   |[]=>none
   |x::r=>if x.text=[]/\x.kids=0/\0<=x.num/\x.num<=1000000000 then some (some x.num.toNat,left-1,r)else none
 else some (none,left,l)
def kW(k:Int):Bool:=decide (k=11\/k=12\/k=13)
def NZ:List Nd->Option (St×List Nd)
 |[]=>none
 |x::r=>
  if x.num=0/\isName x.text=true then
    if x.kind=1 then if 1<=x.kids/\x.kids<=6 then(rN Nu x.kids.toNat r).map fun y=>(.create x.text y.1,y.2)else none
    else if x.kind=3 then if x.kids=0 then some (.drop x.text,r)else none
    else if x.kind=4 then if 1<=x.kids then(rN MC x.kids.toNat r).map fun y=>(.insert x.text y.1,y.2)else none
    else if x.kind=6 then if x.kids<0 then none else(qE x.kids.toNat r).bind fun y=>if y.2.1=0 then some (.delete x.text y.1,y.2.2)else none
    else if x.kind=7 then if x.kids<0 then none else(rW (fun k=>decide (k=8)) Mr x.kids.toNat r).bind fun y=>(qE y.2.1 y.2.2).bind fun z=>if z.2.1=0/\y.1≠[]then some (.update x.text y.1 z.1,z.2.2)else none
    else if x.kind=9 then if x.kids<0 then none else(rW (fun k=> !kW k) CB x.kids.toNat r).bind fun y=>(qE y.2.1 y.2.2).bind fun z=>(rW (fun k=>decide (k=12)) yI z.2.1 z.2.2).bind fun o=>
     (LY o.2.1 o.2.2).bind fun u=>if u.2.1=0/\y.1≠[]then some (.select y.1 x.text z.1 o.1 u.1,u.2.2)else none
    else none
  else none
def rS(l:List Nd):Option St:=(NZ l).bind fun y=>if y.2=[]then some y.1 else none
theorem dm(k:Int)(n:Int):iL ⟨k,[],0,n⟩ n=true:=by simp[iL]
theorem lH(e:E):∀(f:Nat) (r:List Nd),e.ok 2000->e.good->e.depth<=f->rE f (e.nodes++r)=some (e,r):=by
 induction e with
 |null=>
  intro f r _ _ hd
  match f,hd with
  |f+1,_=>simp[E.nodes,leaf,rE,rA,iL]
 |bool b=>
  intro f r _ _ hd
  match f,hd with
  |f+1,_=>cases b<;>simp[E.nodes,leaf,rE,rA]
 |num z=>
  intro f r _ _ hd
  match f,hd with
  |f+1,_=>simp[E.nodes,leaf,rE,rA]
 |str s=>
  intro f r _ hg hd
  match f,hd with
  |f+1,_=>
   have:Lx.bM s=true:=hg;simp[E.nodes,leaf,rE,rA,this]
 |nm s=>
  intro f r _ hg hd
  match f,hd with
  |f+1,_=>
   have:isName s=true:=hg;simp[E.nodes,leaf,rE,rA,this]
 |un k e ih=>
  intro f r ho hg hd
  match f,hd with
  |f+1,hd=>
   obtain⟨h1,h2,h3,h4⟩:=ho;have hi:=ih f r h4 hg (by simp only[E.depth]at hd;omega);simp only[E.nodes,aP,List.cons_append];unfold rE
   have hk:(k:Int)=19\/(k:Int)=20\/(k:Int)=21\/(k:Int)=22:=by omega
   have hp:¬((k:Int)=19/\pkN (e.nodes++r)=16):=by
    rintro⟨e1,e2⟩;have hn:=h3 (by omega)
    cases e with
    |num z=>simp[E.isNum]at hn
    |un k' e'=>simp only[E.nodes,aP,List.cons_append,pkN]at e2;have:=h4.1;have:=h4.2.1;omega
    |bin k' a b=>simp only[E.nodes,bO,List.cons_append,pkN]at e2;have:=h4.1;have:=h4.2.1;omega
    |_=>simp[E.nodes,leaf,pkN]at e2
   simp only[if_pos hk];rw[if_pos (by(repeat' apply And.intro)<;>first|trivial|rfl|assumption|exact dm _ _|omega|(split<;>omega)|(split<;>simp)),hi];simp
 |bin k a b iha ihb=>
  intro f r ho hg hd
  match f,hd with
  |f+1,hd=>
   obtain⟨h1,h2,h3,h4⟩:=ho;simp only[E.depth]at hd;have hi:=iha f (b.nodes++r) h3 hg.1 (by omega);have hj:=ihb f r h4 hg.2 (by omega);simp only[E.nodes,bO,List.cons_append,laa];unfold rE
   have hk:¬((k:Int)=19\/(k:Int)=20\/(k:Int)=21\/(k:Int)=22):=by omega
   simp only[if_neg hk];rw[if_pos (by omega),if_pos (dm _ _),hi];simp only[Option.bind_some];rw[hj];simp
theorem nV{α:Type}{x:List Nd->Option (α×List Nd)}{nd:α->List Nd}:∀(l:List α) (r:List Nd),(∀a∈l,∀r,x (nd a++r)=some (a,r))->rN x l.length (l.flatMap nd++r)=some (l,r)
 |[],r,_=>rfl
 |a::l,r,h=>by
  simp only[List.length_cons,List.flatMap_cons,laa,rN];rw[h a (by simp)];simp only[Option.bind_some];rw[nV l r (fun b hb=>h b (by simp[hb]))]
  rfl
theorem oQ{α:Type}{is:Int->Bool}{x:List Nd->Option (α×List Nd)}{nd:α->List Nd}:∀(l:List α) (k:Nat) (r:List Nd),(∀a∈l,∀r,is (pkN (nd a++r))=true/\x (nd a++r)=some (a,r))->(k≠0->is (pkN r)=false)->rW is x (l.length+k) (l.flatMap nd++r)=some (l,k,r)
 |[],k,r,_,hr=>by
  match k,hr with
  |0,_=>rfl
  |k+1,hr=>
   rw[show([]:List α).length+(k+1)=k+1 from by simp];simp only[List.flatMap_nil,List.nil_append,rW];rw[if_neg (by rw[hr (by omega)];decide)]
 |a::l,k,r,h,hr=>by
  obtain⟨h1,h2⟩:=h a (by simp) (l.flatMap nd++r);rw[show(a::l).length+k=(l.length+k)+1 from by simp;omega];simp only[List.flatMap_cons,laa,rW];rw[if_pos h1,h2];simp only[Option.bind_some];rw[oQ l k r (fun b hb=>h b (by simp[hb])) hr]
  rfl
theorem xE:∀l:List (Bs×Nat),l.flatMap (fun x=>[nG x])=l.map nG
 |[]=>rfl
 |a::l=>by simp only[List.flatMap_cons,List.map_cons,List.singleton_append];rw[xE l]
theorem Bh{l:List E}{e:E}(h:e∈l):e.depth<=deepest l:=by
 induction l with
 |nil=>cases h
 |cons a l ih=>
  simp only[deepest];rcases List.mem_cons.1 h with rfl|h
  · omega
  have:=ih h;omega
theorem E.head(e:E)(n:Nat)(ho:e.ok n)(r:List Nd):14<=pkN (e.nodes++r)/\pkN (e.nodes++r)<=36:=by
 cases e with
 |un k e=>simp only[E.nodes,aP,List.cons_append,pkN];have:=ho.1;have:=ho.2.1;omega
 |bin k a b=>simp only[E.nodes,bO,List.cons_append,pkN];have:=ho.1;have:=ho.2.1;omega
 |_=>simp[E.nodes,leaf,pkN]
theorem ku(w:Option E)(k:Nat)(r:List Nd)(h:∀e∈w.toList,e.ok 2000/\e.good/\e.depth<=40)(hr:k≠0->pkN r≠11):qE (one? w+k) (dP w++r)=some (w,k,r):=by
 cases w with
 |none=>
  simp only[one?,dP,Nat.zero_add,List.nil_append,qE];rw[if_neg (by rintro⟨h1,h2⟩;exact hr h1 h2)]
 |some e=>
  obtain⟨h1,h2,h3⟩:=h e (by simp);simp only[one?,dP,aP,List.cons_append,qE,pkN];rw[if_pos (by(repeat' apply And.intro)<;>first|trivial|rfl|assumption|exact dm _ _|omega|(split<;>omega)|(split<;>simp)),if_pos (dm _ _),lH e 40 r h1 h2 h3];simp
theorem DR(l:Option Nat)(h:∀n,l=some n->n<=1000000000):LY (one? l) (limN l)=some (l,0,[]):=by
 cases l with
 |none=>simp[one?,limN,LY]
 |some n=>
  have:=h n rfl;simp only[one?,limN,LY,pkN];rw[if_pos (by(repeat' apply And.intro)<;>first|trivial|rfl|assumption|exact dm _ _|omega|(split<;>omega)|(split<;>simp)),if_pos (by(repeat' apply And.intro)<;>first|trivial|rfl|assumption|exact dm _ _|omega|(split<;>omega)|(split<;>simp))];simp
theorem BC(s:St)(hf:s.Fit)(hg:∀e∈s.exprs,e.good)(hd:deepest s.exprs<=40):rS s.nodes=some s:=by
 have hall:∀e∈s.exprs,e.ok 2000/\e.good/\e.depth<=40:=fun e he=>⟨hf.exprs e he,hg e he,by have:=Bh he;omega⟩
 have hp:=hf.parts;unfold rS
 cases s with
 |create t c=>
  obtain⟨h1,h2,h3,h4⟩:=hp
  have hn:rN Nu c.length (c.flatMap (fun x=>[nG x])++[])=some (c,[]):=nV c [] (fun a ha r=>by
   obtain⟨q1,q2,q3,q4⟩:=h4 a ha;simp only[nG,List.cons_append,List.nil_append,Nu];rw[if_pos (by(repeat' apply And.intro)<;>first|trivial|rfl|assumption|exact dm _ _|omega|(split<;>omega)|(split<;>simp))]
   simp)
  have hm:c.flatMap (fun x=>[nG x])++[]=c.map nG:=by rw[List.append_nil];exact xE c
  rw[hm]at hn;simp only[St.nodes,NZ];rw[if_pos (by(repeat' apply And.intro)<;>first|trivial|rfl|assumption|exact dm _ _|omega|(split<;>omega)|(split<;>simp))];simp only[if_true];rw[if_pos (by(repeat' apply And.intro)<;>first|trivial|rfl|assumption|exact dm _ _|omega|(split<;>omega)|(split<;>simp))];simp[hn]
 |drop t=>
  have h1:isName t=true:=hp;simp[St.nodes,NZ,h1]
 |insert t rs=>
  obtain⟨h1,h2,h3⟩:=hp
  have hrow:∀a∈rs,∀r,MC (GL a++r)=some (a,r):=by
   intro a ha r;have hne:=h3 a ha;have hl:1<=a.length:=List.length_pos_iff.2 hne;simp only[GL,List.cons_append,MC];rw[if_pos (by(repeat' apply And.intro)<;>first|trivial|rfl|assumption|exact dm _ _|omega|(split<;>omega)|(split<;>simp))];simp only[Int.toNat_natCast];refine nV a r (fun e he r=> ?_);obtain⟨q1,q2,q3⟩:=hall e (by simp only[St.exprs,List.mem_flatten];exact⟨a,ha,he⟩);exact lH e 40 r q1 q2 q3
  have hl:1<=rs.length:=List.length_pos_iff.2 h2;have hn:=nV (x:=MC) (nd:=GL) rs [] hrow;rw[List.append_nil]at hn;simp only[St.nodes,NZ];rw[if_pos (by(repeat' apply And.intro)<;>first|trivial|rfl|assumption|exact dm _ _|omega|(split<;>omega)|(split<;>simp))];simp only[show¬((4:Int)=1) by decide,show¬((4:Int)=3) by decide,if_false,if_true];rw[if_pos (by omega)];simp[hn]
 |delete t w=>
  have h1:isName t=true:=hp;have hw:=ku w 0 [] (fun e he=>hall e (by simpa[St.exprs]using he)) (by simp);rw[Nat.add_zero,List.append_nil]at hw;simp only[St.nodes,NZ];rw[if_pos (by(repeat' apply And.intro)<;>first|trivial|rfl|assumption|exact dm _ _|omega|(split<;>omega)|(split<;>simp))];simp only[show¬((6:Int)=1) by decide,show¬((6:Int)=3) by decide,show¬((6:Int)=4) by decide,if_false,if_true];rw[if_neg (by omega)];simp[hw]
 |update t ss w=>
  obtain⟨h1,h2,h3⟩:=hp
  have hs:∀a∈ss,∀r,decide (pkN (CG a++r)=8)=true/\Mr (CG a++r)=some (a,r):=by
   intro a ha r;obtain⟨q1,q2,q3⟩:=hall a.2 (by simp only[St.exprs,List.mem_append,List.mem_map];exact .inl ⟨a,ha,rfl⟩);have h3':=h3 a ha;simp only[CG,List.cons_append,pkN,Mr];rw[if_pos (by(repeat' apply And.intro)<;>first|trivial|rfl|assumption|exact dm _ _|omega|(split<;>omega)|(split<;>simp)),lH a.2 40 r q1 q2 q3];simp
  have hw:=ku w 0 [] (fun e he=>hall e (by simp only[St.exprs,List.mem_append];exact .inr he)) (by simp);rw[Nat.add_zero,List.append_nil]at hw
  have hr:=oQ (is:=fun k=>decide (k=8)) (x:=Mr) (nd:=CG) ss (one? w) (dP w) hs (fun _=>by
   cases w with
   |none=>simp[dP,pkN]
   |some e=>simp[dP,aP,pkN])
  simp only[St.nodes,NZ];rw[if_pos (by(repeat' apply And.intro)<;>first|trivial|rfl|assumption|exact dm _ _|omega|(split<;>omega)|(split<;>simp))];simp only[show¬((7:Int)=1) by decide,show¬((7:Int)=3) by decide,show¬((7:Int)=4) by decide,show¬((7:Int)=6) by decide,if_false,if_true];rw[if_neg (by omega)];rw[show((ss.length:Int)+(one? w:Int)).toNat=ss.length+one? w from by omega,hr];simp[hw,h2]
 |select is t w os lim=>
  obtain⟨h1,h2,h3⟩:=hp
  have hi:∀a∈is,∀r,(!kW (pkN (itemN a++r)))=true/\CB (itemN a++r)=some (a,r):=by
   intro a ha r
   cases a with
   |none=>simp[itemN,pkN,kW,CB,iL]
   |some e=>
    obtain⟨q1,q2,q3⟩:=hall e (by simp only[St.exprs,List.mem_append,List.mem_filterMap,id];exact .inl (.inl ⟨some e,ha,rfl⟩));have hh:=e.head 2000 q1 r;have hx:=lH e 40 r q1 q2 q3;simp only[itemN];refine⟨by simp[kW];omega,?_⟩
    match hn:e.nodes++r,hh,hx with
    |[],hh,hx=>simp[pkN]at hh
    |x::r',hh,hx=>
     simp only[pkN]at hh;simp only[CB];rw[if_neg (by omega),hx]
     rfl
  have ho:∀a∈os,∀r,decide (pkN (dL a++r)=12)=true/\yI (dL a++r)=some (a,r):=by
   intro a ha r;obtain⟨q1,q2,q3⟩:=hall a.1 (by simp only[St.exprs,List.mem_append,List.mem_map];exact .inr ⟨a,ha,rfl⟩);simp only[dL,List.cons_append,pkN,yI];refine⟨by simp,?_⟩;rw[if_pos (by(repeat' apply And.intro)<;>first|trivial|rfl|assumption|exact dm _ _|omega|(split<;>omega)|(split<;>simp)),lH a.1 40 r q1 q2 q3];obtain⟨e,b⟩:=a
   cases b<;>simp
  have hl:=DR lim h3
  have hlim:pkN (limN lim)=0\/pkN (limN lim)=13:=by cases lim<;>simp[limN,pkN]
  have hor:=oQ (is:=fun k=>decide (k=12)) (x:=yI) (nd:=dL) os (one? lim) (limN lim) ho (fun _=>by rcases hlim with h|h<;>rw[h]<;>decide)
  have hpo:∀l,pkN (os.flatMap dL++limN lim)=l->l=0\/l=12\/l=13:=by
   intro l e
   cases os with
   |nil=>simp only[List.flatMap_nil,List.nil_append]at e;rw[<-e];rcases hlim with h|h<;>omega
   |cons a r=>simp only[List.flatMap_cons,dL,List.cons_append,pkN]at e;omega
  have hw:=ku w (os.length+one? lim) (os.flatMap dL++limN lim) (fun e he=>hall e (by simp only[St.exprs,List.mem_append];exact .inl (.inr he))) (fun _ e=>by rcases hpo _ e with h|h|h<;>omega)
  have hit:=oQ (is:=fun k=> !kW k) (x:=CB) (nd:=itemN) is (one? w+(os.length+one? lim)) (dP w++(os.flatMap dL++limN lim)) hi (fun hne=>by
   cases w with
   |some e=>simp[dP,aP,pkN,kW]
   |none=>
    simp only[dP,List.nil_append]
    cases os with
    |cons a r=>simp[dL,pkN,kW]
    |nil=>
     cases lim with
     |some n=>simp[limN,pkN,kW]
     |none=>simp[one?]at hne)
  simp only[St.nodes,NZ];rw[if_pos (by(repeat' apply And.intro)<;>first|trivial|rfl|assumption|exact dm _ _|omega|(split<;>omega)|(split<;>simp))];simp only[show¬((9:Int)=1) by decide,show¬((9:Int)=3) by decide,show¬((9:Int)=4) by decide,show¬((9:Int)=6) by decide,show¬((9:Int)=7) by decide,if_false,if_true];rw[if_neg (by omega)];rw[show((is.length:Int)+(one? w:Int)+(os.length:Int)+(one? lim:Int)).toNat=is.length+(one? w+(os.length+one? lim))from by omega];rw[show is.flatMap itemN++dP w++os.flatMap dL++limN lim=is.flatMap itemN++(dP w++(os.flatMap dL++limN lim))from by simp[laa],hit];simp only[Option.bind_some];rw[hw];simp only[Option.bind_some];rw[hor];simp only[Option.bind_some];rw[hl];simp[h2]
end Px
end
section
open Lx (Bs)
theorem uO:∀(f n:Nat),n<10^(f+1)->Px.decF (f+1) n=Lib.decDigits n
 |0,n,h=>by
  have h1:n<10:=by simpa using h
  rw[Px.decF,Lib.decDigits,if_pos h1,dif_pos h1]
 |f+1,n,h=>by
  rw[Px.decF,Lib.decDigits];by_cases h1:n<10
  · rw[if_pos h1,dif_pos h1]
  rw[if_neg h1,dif_neg h1,uO f (n/10) (by rw[Nat.pow_succ]at h;omega)]
theorem Kz(n:Nat)(h:n<=9223372036854775808):Lib.itoa (n:Int)=Px.decF 20 n:=by
 rw[Lib.itoa_nonneg,uO 19 n (by omega)]
theorem Iz(n:Nat)(h0:1<=n)(h:n<=9223372036854775808):Lib.itoa (-(n:Int))=45::Px.decF 20 n:=by
 rw[Lib.itoa_neg n h0,uO 19 n (by omega)]
end
namespace Lx
theorem qQ:∀l:Bs,(∀b∈l,0<b.toNat/\b.toNat<128)->bM l=true
 |[],_=>rfl
 |b::r,h=>by
  have hb:=h b (by simp)
  have hc:aF (b::r)=1:=by unfold aF;simp only;rw[if_pos hb.2]
  rw[kL,hc,if_neg (by omega)];exact qQ r (fun x hx=>h x (by simp[hx]))
structure qh(t:Tok):Prop where
 str:t.kind=17->bM t.text=true
 name:t.kind=18->bM t.text=true/\t.text≠[]
theorem Np(b:UInt8)(h:dA b=true):0<(zC b).toNat/\(zC b).toNat<128:=by
 simp only[dA,aI,isLet,Bool.or_eq_true,decide_eq_true_eq]at h;unfold zC
 split
 · rename_i h1
   have:(b+32).toNat=b.toNat+32:=by
    rw[UInt8.toNat_add];show(b.toNat+32)%256=_;omega
   omega
 omega
theorem KH{l:Bs}{t:Bs}(h:oneT l=.ok (k,t,n))(p:Nat):qh ⟨k,t,p⟩:=by
 unfold oneT at h
 split at h
 · simp at h
 rename_i b r
 split at h
 · rename_i hlet
   split at h
   · simp only[Except.ok.injEq,Prod.mk.injEq]at h;obtain⟨rfl,rfl,rfl⟩:=h;exact⟨fun e=>by simp at e,fun e=>by simp at e⟩
   simp only[Except.ok.injEq,Prod.mk.injEq]at h;obtain⟨rfl,rfl,rfl⟩:=h;refine⟨fun e=>by simp at e,fun _=>⟨?_,?_⟩⟩
   · apply qQ;intro x hx;obtain⟨y,hy,rfl⟩:=List.mem_map.1 hx;exact Np y (zx dA (b::r) y hy)
   have hw:dA b=true:=by unfold dA;rw[hlet];simp
   have:=pJ (r:=r) hw;intro e;have e2:=congrArg List.length e;simp only[List.length_map,List.length_take,List.length_nil,List.length_cons]at e2;omega
 split at h
 · split at h
   · simp at h
   split at h
   · simp at h
   simp only[Except.ok.injEq,Prod.mk.injEq]at h;obtain⟨rfl,rfl,rfl⟩:=h;exact⟨fun e=>by simp at e,fun e=>by simp at e⟩
 split at h
 · split at h
   · simp at h
   split at h
   · simp at h
   rename_i hv;simp only[Except.ok.injEq,Prod.mk.injEq]at h;obtain⟨rfl,rfl,rfl⟩:=h;rename_i t' n' _
   have hv1:bM t'=true:=by
    cases hh:bM t' with
    |true=>rfl
    |false=>exact absurd (.inl hh) hv
   refine⟨fun _=>hv1,fun e=>⟨hv1,fun e2=> ?_⟩⟩;by_cases h34:b.toNat=34
   · exact hv (.inr ⟨h34,e2⟩)
   simp only at e;rw[if_neg h34]at e;simp at e
 split at h
 · simp only[Except.ok.injEq,Prod.mk.injEq]at h;obtain⟨rfl,rfl,rfl⟩:=h;exact⟨fun e=>by simp at e,fun e=>by simp at e⟩
 split at h
 · simp only[Except.ok.injEq,Prod.mk.injEq]at h;obtain⟨rfl,rfl,rfl⟩:=h;exact⟨fun e=>by simp at e,fun e=>by simp at e⟩
 simp at h
theorem JB:∀(m:Nat) (l:Bs) (pos:Nat) (ts:List Tok),l.length<=m->lexM 0 pos l=.ok ts->∀t∈ts,qh t:=by
 intro m
 induction m with
 |zero=>
  intro l pos ts hl h;obtain rfl:=List.length_eq_zero_iff.1 (Nat.le_zero.1 hl);simp only[lexM,Except.ok.injEq]at h;subst h
  exact fun t ht=>by cases ht
 |succ m ih=>
  intro l pos ts hl h
  cases l with
  |nil=>
   simp only[lexM,Except.ok.injEq]at h;subst h
   exact fun t ht=>by cases ht
  |cons b r=>
   rw[jF]at h
   split at h
   · simp at h
   rename_i k t n h1;have hn:=iQ h1
   split at h
   · rename_i us h2;simp only[Except.ok.injEq]at h;subst h;intro x hx;rcases List.mem_cons.1 hx with rfl|hx
     · exact KH h1 pos
     refine ih _ _ _ ?_ h2 x hx;simp only[List.length_drop,List.length_cons]at hl hn⊢;omega
   simp at h
theorem LH{l:Bs}{ts:List Tok}(h:lex l=.ok ts):∀t∈ts,qh t:=by
 unfold lex at h
 split at h
 · simp at h
 exact JB _ _ _ _ (nlr _) h
end Lx
section
namespace Px
open Lx (Bs Tok qh)
def Nk(x:Nd):Prop:=(x.kind=17->Lx.bM x.text=true)/\(x.kind=18->isName x.text=true)
def mi(ts:List Tok):Prop:=∀t∈ts,qh t
def mr(l:List Nd):Prop:=∀x∈l,Nk x
theorem mi.tail{ts:List Tok}(h:mi ts):mi ts.tail:=fun t ht=>h t (List.mem_of_mem_tail ht)
theorem mr.aP{k:Int}{l:List Nd}(h:mr l)(hk:k≠18):mr (aP k l):=by
 intro x hx;rcases List.mem_cons.1 hx with rfl|hx
 · exact⟨fun _=>rfl,fun e=>absurd e hk⟩
 exact h x hx
theorem mr.bO{k:Int}{a b:List Nd}(ha:mr a)(hb:mr b)(hk:k≠18):mr (bO k a b):=by
 intro x hx;rcases List.mem_cons.1 hx with rfl|hx
 · exact⟨fun _=>rfl,fun e=>absurd e hk⟩
 rcases List.mem_append.1 hx with hx|hx
 · exact ha x hx
 exact hb x hx
theorem mr.num(z:Int):mr (leaf 16 [] z):=by
 intro x hx;simp[leaf]at hx;subst hx;exact⟨fun e=>by simp at e,fun e=>by simp at e⟩
theorem E8(lv:Nat)(s:Bs):∀l:List (Nat×Bs×Nat),(∀o∈l,o.2.2≠18)->opIn l lv s≠18
 |[],_=>by simp[opIn]
 |o::r,h=>by
  unfold opIn
  split
  · exact h o (by simp)
  exact E8 lv s r (fun x hx=>h x (by simp[hx]))
theorem Fu(l:Nat)(ts:List Tok):((oper l ts:Nat):Int)≠18:=by
 have:oper l ts≠18:=by
  unfold oper
  split
  · simp
  split
  · exact E8 l _ bR (by decide)
  simp
 omega
theorem FP{ts q:List Tok}{b:List Nd}(h:atom sz ts=some (.ok (b,q)))(hv:mi ts):mr b/\mi q:=by
 match ts,h,hv with
 |[],h,_=>simp[atom]at h
 |t::r,h,hv=>
  have ht:=hv t (by simp)
  have hr:mi r:=fun x hx=>hv x (by simp[hx])
  unfold atom at h;simp only at h
  repeat' split at h
  all_goals first
   |(cases h;done)
   |(cases h
     refine⟨?_,hr⟩;intro x hx;simp[leaf]at hx;subst hx;refine⟨fun e=> ?_,fun e=> ?_⟩
     all_goals first
      |(simp at e;done)
      |exact ht.str (by assumption)
      |skip
     all_goals
      have h18:=ht.name (by assumption);unfold isName;rw[h18.1]
      have h30:t.text.length<=30:=by omega
      cases hh:t.text with
      |nil=>exact absurd hh h18.2
      |cons c r'=>rw[hh]at h30;simp at h30⊢;exact h30)
theorem Ll:∀n m a ts b q,ex sz n m a ts=some (.ok (b,q))->mi ts->mr a->mr b/\mi q:=by
 intro n
 induction n with
 |zero=>intro m a ts b q h;cases h
 |succ n ih=>
  intro m a ts b q h hv ha
  have nil:mr []:=fun x hx=>by cases hx
  unfold ex at h
  split at h
  · split at h
    · cases h;exact⟨ha,hv⟩
    rcases sU h with⟨e,_,h2⟩|⟨b1,q1,h1,h2⟩
    · cases h2
    have i1:=ih _ _ _ _ _ h1 hv.tail nil;exact ih _ _ _ _ _ h2 i1.2 (ha.bO i1.1 (Fu _ _))
  split at h
  · split at h
    · rcases sU h with⟨e,_,h2⟩|⟨b1,q1,h1,h2⟩
      · cases h2
      cases h2
      have i1:=ih _ _ _ _ _ h1 hv.tail nil;exact⟨i1.1.aP (by decide),i1.2⟩
    exact ih _ _ _ _ _ h hv nil
  split at h
  · rcases sU h with⟨e,_,h2⟩|⟨b1,q1,h1,h2⟩
    · cases h2
    have i1:=ih _ _ _ _ _ h1 hv nil;unfold gK at h2
    split at h2
    · split at h2
      · rcases sU h2 with⟨e,_,h3⟩|⟨b2,q2,h3,h4⟩
        · cases h3
        cases h4
        rcases aK h3 with⟨c6,h6⟩|⟨_,h6⟩
        · cases h6
          exact⟨i1.1.aP (by decide),i1.2.tail.tail.tail⟩
        cases h6
      rcases sU h2 with⟨e,_,h3⟩|⟨b2,q2,h3,h4⟩
      · cases h3
      cases h4
      rcases aK h3 with⟨c6,h6⟩|⟨_,h6⟩
      · cases h6
        exact⟨i1.1.aP (by decide),i1.2.tail.tail⟩
      cases h6
    split at h2
    · cases h2;exact i1
    rcases sU h2 with⟨e,_,h3⟩|⟨b2,q2,h3,h4⟩
    · cases h3
    cases h4
    have i2:=ih _ _ _ _ _ h3 i1.2.tail nil;exact⟨i1.1.bO i2.1 (Fu _ _),i2.2⟩
  split at h
  · split at h
    · split at h
      · cases h
        exact⟨mr.num _,hv.tail.tail⟩
      rcases sU h with⟨e,_,h2⟩|⟨b1,q1,h1,h2⟩
      · cases h2
      have i1:=ih _ _ _ _ _ h1 hv.tail nil;unfold negate at h2
      split at h2
      · cases h2
        exact⟨i1.1.aP (by decide),i1.2⟩
      split at h2
      · cases h2
        exact⟨i1.1.aP (by decide),i1.2⟩
      split at h2
      · cases h2
      cases h2
      exact⟨mr.num _,i1.2⟩
    exact ih _ _ _ _ _ h hv nil
  split at h
  · split at h
    · rcases sU h with⟨e,_,h2⟩|⟨b1,q1,h1,h2⟩
      · cases h2
      have i1:=ih _ _ _ _ _ h1 hv.tail nil;rcases sU h2 with⟨e,_,h3⟩|⟨b2,q2,h3,h4⟩
      · cases h3
      cases h4
      rcases aK h3 with⟨c7,h7⟩|⟨_,h7⟩
      · cases h7
        exact⟨i1.1,i1.2.tail⟩
      cases h7
    exact FP h hv
  rcases sU h with⟨e,_,h2⟩|⟨b1,q1,h1,h2⟩
  · cases h2
  have i1:=ih _ _ _ _ _ h1 hv nil;exact ih _ _ _ _ _ h2 i1.2 i1.1
theorem E.rY:∀e:E,mr e.nodes->e.good
 |.null,_=>trivial
 |.bool _,_=>trivial
 |.num _,_=>trivial
 |.str s,h=>(h ⟨17,s,0,0⟩ (by simp[E.nodes,leaf])).1 rfl
 |.nm s,h=>(h ⟨18,s,0,0⟩ (by simp[E.nodes,leaf])).2 rfl
 |.un k e,h=>E.rY e (fun x hx=>h x (by simp[E.nodes,aP,hx]))
 |.bin k a b,h=>⟨E.rY a (fun x hx=>h x (by simp[E.nodes,bO,hx])),E.rY b (fun x hx=>h x (by simp[E.nodes,bO,hx]))⟩
theorem I7{ts q:List Tok}{e:E}(h:Aq sz ts (.ok (e,q)))(hv:mi ts):e.good/\mi q/\e.ok 2000:=by
 obtain⟨⟨n,hn⟩,h2⟩:=h;have:=Ll n 1 [] ts e.nodes q hn hv (fun x hx=>by cases hx);exact⟨E.rY e this.1,this.2,(h2 e q rfl).1⟩
theorem DY{ts q:List Tok}{s:Bs}(h:nameR sz ts (.ok (s,q)))(hv:mi ts):isName s=true/\mi q:=by
 unfold nameR name at h
 split at h
 · cases h
 rename_i t r
 split at h
 · cases h
 rename_i hk
 split at h
 · cases h
 rename_i hl
 cases h
 have h18:=(hv t (by simp)).name (by simpa using hk);refine⟨?_,fun x hx=>hv x (by simp[hx])⟩;unfold isName;rw[h18.1]
 cases hh:t.text with
 |nil=>exact absurd hh h18.2
 |cons c r'=>rw[hh]at hl;simp at hl⊢;omega
end Px
end
section
namespace Px
open Lx (Bs Tok qh)
variable {α β:Type}
def aS(x:Rg α)(P:α->Prop):Prop:=∀ts a q,x ts (.ok (a,q))->mi ts->P a/\mi q
theorem aS.seq{x:Rg α}{f:α->Rg β}{P:α->Prop}{Q:β->Prop}(hx:aS x P)(hf:∀a,P a->aS (f a) Q):aS (Rg.seq x f) Q:=by
 rintro ts b q ⟨r1,h1,h2⟩ hv
 match r1,h1,h2 with
 |.error e,h1,h2=>cases h2
 |.ok (a,q1),h1,h2=>
  obtain⟨p1,p2⟩:=hx ts a q1 h1 hv;exact hf a p1 q1 b q h2 p2
theorem aS.ret{a:α}{P:α->Prop}(h:P a):aS (Rg.ret a) P:=by
 intro ts b q h1 hv
 cases h1
 exact⟨h,hv⟩
theorem aS.must(sz:Nat)(s:Bs):aS (bL sz s) fun _=>True:=by
 intro ts a q h hv;rcases aK h with⟨_,h2⟩|⟨_,h2⟩
 · cases h2;exact⟨trivial,hv.tail⟩
 cases h2
theorem aS.name(sz:Nat):aS (nameR sz) fun s=>isName s=true:=fun ts a q h hv=>DY h hv
theorem aS.ex(sz:Nat):aS (Aq sz) fun e=>e.good/\e.ok 2000:=fun ts a q h hv=>by
 have:=I7 h hv;exact⟨⟨this.1,this.2.2⟩,this.2.1⟩
theorem mX{x:Nat->Rg α}{P:α->Prop}(hx:∀i,aS (x i) P){ts:List Tok}{l:List α}{q:List Tok}(h:Reach x ts l q)(hv:mi ts):(l≠[]/\∀a∈l,P a)/\mi q:=by
 induction h with
 |first h1=>
  have:=hx 0 _ _ _ h1 hv;exact⟨⟨by simp,fun a ha=>by simp at ha;subst ha;exact this.1⟩,this.2⟩
 |step h1 h2 h3 ih=>
  have:=hx _ _ _ _ h3 ih.2.tail;refine⟨⟨by simp,fun a ha=> ?_⟩,this.2⟩;rcases List.mem_append.1 ha with ha|ha
  · exact ih.1.2 a ha
  simp at ha;subst ha;exact this.1
theorem aS.sep{x:Nat->Rg α}{P:α->Prop}(hx:∀i,aS (x i) P):aS (Sep x) fun l=>l≠[]/\∀a∈l,P a:=by
 intro ts l q h hv
 cases h with
 |stop h1 h2=>exact mX hx h1 hv
def Mv(o:Option E):Prop:=∀e∈o.toList,e.good/\e.ok 2000
theorem aS.where(sz:Nat):aS (eY sz) Mv:=by
 intro ts a q h hv;unfold eY at h
 split at h
 · exact(aS.seq (aS.ex sz) (fun e he=>aS.ret (P:=Mv) (by intro e' h';simp at h';subst h';exact he))) _ _ _ h hv.tail
 cases h
 exact⟨fun e he=>(by simp at he),hv⟩
theorem aS.mono{x:Rg α}{P Q:α->Prop}(hx:aS x P)(h:∀a,P a->Q a):aS x Q:=fun ts a q h1 hv=>⟨h a (hx ts a q h1 hv).1,(hx ts a q h1 hv).2⟩
theorem aS.kind(sz:Nat):aS (fE sz) fun k=>1<=k/\k<=3:=by
 intro ts a q h hv;unfold fE at h
 split at h
 · cases h;exact⟨by omega,hv.tail⟩
 split at h
 · cases h;exact⟨by omega,hv.tail⟩
 exact(aS.seq (aS.must sz _) (fun _ _=>aS.ret (P:=fun k=>1<=k/\k<=3) (by omega))) _ _ _ h hv
def dN(x:Bs×Nat):Prop:=isName x.1=true/\1<=x.2/\x.2<=7/\x.2≠4
theorem aS.null(sz:Nat)(n:Bs)(k:Nat)(hn:isName n=true)(hk:1<=k/\k<=3):aS (ja sz n k) dN:=by
 intro ts a q h hv;unfold ja at h
 split at h
 · exact(aS.seq (aS.must sz _) (fun _ _=>aS.ret (P:=dN) ⟨hn,by simp only;omega,by simp only;omega,by simp only;omega⟩)) _ _ _ h hv.tail
 cases h
 exact⟨⟨hn,by simp only;omega,by simp only;omega,by simp only;omega⟩,hv⟩
theorem aS.AV(sz i:Nat):aS (jq sz i) fun x=>dN x/\i<6:=by
 intro ts a q h hv;unfold jq at h;refine(aS.seq (Q:=fun x=>dN x/\i<6) (f:=fun n q r=>if 6<=i then r=.error (plc sz ts,4)else Rg.seq (fE sz) (ja sz n) q r) (aS.name sz) (fun n hn=> ?_)) _ _ _ h hv;intro ts2 b q2 h2 hv2
 split at h2
 · cases h2
 rename_i hi;have:=(aS.seq (aS.kind sz) (fun k hk=>aS.null sz n k hn hk)) _ _ _ h2 hv2;exact⟨⟨this.1,by omega⟩,this.2⟩
def Eh(s:St):Prop:=s.Fit/\∀e∈s.exprs,e.good
theorem aS.NJ(sz:Nat):aS (Sep (jq sz)) fun l=>(l≠[]/\∀a∈l,dN a)/\l.length<=6:=by
 intro ts l q h hv
 cases h with
 |stop h1 h2=>
  have:=mX (P:=dN) (fun i=>(aS.AV sz i).mono fun a ha=>ha.1) h1 hv;refine⟨⟨this.1,?_⟩,this.2⟩
  have key:∀{l:List (Bs×Nat)} {q:List Tok},Reach (jq sz) ts l q->l.length<=6:=by
   intro l q h
   induction h with
   |first _=>simp
   |step h1 h2 h3 ih=>
    rename_i l' q' a' q'';have hv':=(mX (P:=dN) (fun i=>(aS.AV sz i).mono fun a ha=>ha.1) h1 hv).2;have:=(aS.AV sz _ _ _ _ h3 hv'.tail).1.2;simp only[List.length_append,List.length_singleton];omega
  exact key h1
theorem JI(sz:Nat):aS (cZ sz) Eh:=by
 intro ts s q h hv;unfold cZ at h
 split at h
 · exact(aS.seq (aS.must sz _) fun _ _=>aS.seq (aS.name sz) fun t ht=>aS.seq (aS.must sz _) fun _ _=>aS.seq (aS.NJ sz) fun l hl=>aS.seq (aS.must sz _) fun _ _=>aS.ret (a:=St.create t l) (P:=Eh)
     ⟨⟨fun e he=>(by simp[St.exprs]at he),ht,List.length_pos_iff.2 hl.1.1,hl.2,hl.1.2⟩,fun e he=>(by simp[St.exprs]at he)⟩) _ _ _ h hv.tail
 split at h
 · exact(aS.seq (aS.must sz _) fun _ _=>aS.seq (aS.name sz) fun t ht=>aS.ret (a:=St.drop t) (P:=Eh) ⟨⟨fun e he=>(by simp[St.exprs]at he),ht⟩,fun e he=>(by simp[St.exprs]at he)⟩) _ _ _ h hv.tail
 split at h
 · have hrow:aS (zG sz) fun l=>l≠[]/\∀e∈l,e.good/\e.ok 2000:=aS.seq (aS.must sz _) fun _ _=>aS.seq (aS.sep fun _=>aS.ex sz) fun l hl=>aS.seq (aS.must sz _) fun _ _=>aS.ret hl
   refine(aS.seq (aS.must sz _) fun _ _=>aS.seq (aS.name sz) fun t ht=>aS.seq (aS.must sz _) fun _ _=>aS.seq (aS.sep fun _=>hrow) fun l hl=>aS.ret (a:=St.insert t l) (P:=Eh) ⟨⟨?_,ht,hl.1,fun x hx=>(hl.2 x hx).1⟩,?_⟩) _ _ _ h hv.tail
   · intro e he;obtain⟨r,hr,her⟩:=List.mem_flatten.1 he;exact((hl.2 r hr).2 e her).2
   intro e he;obtain⟨r,hr,her⟩:=List.mem_flatten.1 he;exact((hl.2 r hr).2 e her).1
 split at h
 · exact(aS.seq (aS.must sz _) fun _ _=>aS.seq (aS.name sz) fun t ht=>aS.seq (aS.where sz) fun w hw=>aS.ret (a:=St.delete t w) (P:=Eh) ⟨⟨fun e he=>(hw e he).2,ht⟩,fun e he=>(hw e he).1⟩) _ _ _ h hv.tail
 split at h
 · have hset:aS (zh sz) fun x=>isName x.1=true/\x.2.good/\x.2.ok 2000:=aS.seq (aS.name sz) fun n hn=>aS.seq (aS.must sz _) fun _ _=>aS.seq (aS.ex sz) fun e he=>aS.ret ⟨hn,he⟩
   refine(aS.seq (aS.name sz) fun t ht=>aS.seq (aS.must sz _) fun _ _=>aS.seq (aS.sep fun _=>hset) fun l hl=>aS.seq (aS.where sz) fun w hw=>aS.ret (a:=St.update t l w) (P:=Eh) ⟨⟨?_,ht,hl.1,fun x hx=>(hl.2 x hx).1⟩,?_⟩) _ _ _ h hv.tail
   · intro e he;rcases List.mem_append.1 he with he|he
     · obtain⟨x,hx,rfl⟩:=List.mem_map.1 he;exact(hl.2 x hx).2.2
     exact(hw e he).2
   intro e he;rcases List.mem_append.1 he with he|he
   · obtain⟨x,hx,rfl⟩:=List.mem_map.1 he;exact(hl.2 x hx).2.1
   exact(hw e he).1
 have Ht:aS (fZ sz) Mv:=by
  intro ts a q h hv;unfold fZ at h
  split at h
  · cases h
    exact⟨fun e he=>(by simp at he),hv.tail⟩
  exact(aS.seq (aS.ex sz) (fun e he=>aS.ret (P:=Mv) (by intro e' h';simp at h';subst h';exact he))) _ _ _ h hv
 have hdesc:∀e:E,(e.good/\e.ok 2000)->aS (iy e) fun x=>x.1.good/\x.1.ok 2000:=by
  intro e he ts a q h hv;unfold iy at h
  split at h
  · cases h;exact⟨he,hv.tail⟩
  split at h
  · cases h;exact⟨he,hv.tail⟩
  cases h;exact⟨he,hv⟩
 have Qp:aS (bY sz) fun l=>∀x∈l,x.1.good/\x.1.ok 2000:=by
  intro ts a q h hv;unfold bY at h
  split at h
  · exact((aS.seq (aS.must sz _) fun _ _=>(aS.sep fun _=>aS.seq (aS.ex sz) hdesc).mono fun l hl=>hl.2)) _ _ _ h hv.tail
  cases h
  exact⟨fun x hx=>(by cases hx),hv⟩
 have hlim:aS (yN sz) fun l=>∀n,l=some n->n<=1000000000:=by
  intro ts a q h hv;unfold yN at h
  split at h
  · refine(aS.seq (P:=fun n=>n<=1000000000) (Q:=fun l=>∀n,l=some n->n<=1000000000) (x:=fun ts r=>limit sz ts=some r) ?_ fun n hn=>aS.ret (by intro m hm;cases hm;exact hn)) _ _ _ h hv.tail;intro ts2 n q2 h2 hv2;unfold limit at h2
    split at h2
    · cases h2
    split at h2
    · cases h2
    split at h2
    · cases h2
    rename_i hx
    cases h2
    exact⟨by omega,fun x hx=>hv2 x (by simp[hx])⟩
  cases h
  exact⟨fun n hn=>(by cases hn),hv⟩
 refine(aS.seq (aS.must sz _) fun _ _=>aS.seq (aS.sep fun _=>Ht) fun i hi=>aS.seq (aS.must sz _) fun _ _=>aS.seq (aS.name sz) fun t ht=>aS.seq (aS.where sz) fun w hw=>aS.seq Qp fun o ho=>aS.seq hlim fun l hl=>aS.ret (a:=St.select i t w o l) (P:=Eh) ⟨⟨?_,ht,hi.1,hl⟩,?_⟩) _ _ _ h hv
 · intro e he;simp only[St.exprs,List.mem_append,List.mem_filterMap,id,List.mem_map]at he;rcases he with(⟨x,hx,rfl⟩|he)|⟨x,hx,rfl⟩
   · exact(hi.2 (some e) hx e (by simp)).2
   · exact(hw e he).2
   exact(ho x hx).2
 intro e he;simp only[St.exprs,List.mem_append,List.mem_filterMap,id,List.mem_map]at he;rcases he with(⟨x,hx,rfl⟩|he)|⟨x,hx,rfl⟩
 · exact(hi.2 (some e) hx e (by simp)).1
 · exact(hw e he).1
 exact(ho x hx).1
theorem GQ{s:Bs}{st:St}(h:ParseR s (.ok st)):st.Fit/\(∀e∈st.exprs,e.good)/\deepest st.exprs<=40:=by
 unfold ParseR at h
 cases hl:Lx.lex s with
 |error e=>rw[hl]at h;cases h
 |ok ts=>
  rw[hl]at h;obtain⟨q,h1,h2⟩:=h
  match q,h1,h2 with
  |.error e,h1,h2=>cases h2
  |.ok (a,u),h1,h2=>
   have hs:=(JI s.length ts a u h1 (Lx.LH hl)).1;simp only at h2
   split at h2
   · split at h2
     · cases h2
     rename_i hd
     cases h2
     exact⟨hs.1,hs.2,by omega⟩
   cases h2
end Px
end
section
namespace Px
open Lx (Bs Tok)
def e2(k:Nat)(a b:Int):E:=.bin 33 (.bin k (.num a) (.num b)) (.num b)
def e3(a b:Int):E:=.bin 32 (.bin 34 (.bin 35 (.num a) (.num b)) (.num b)) (.bin 36 (.num a) (.num b))
end Px
end
section
namespace Px
open Lx (Bs Tok)
def iW(z:Int):Bs:=if z<0 then 45::decF 20 z.natAbs else decF 20 z.natAbs
theorem xO:∀f n,(decF f n).length<=f
 |0,n=>by simp[decF]
 |f+1,n=>by
  rw[decF]
  split
  · simp
  have:=xO f (n/10);simp;omega
def t1(k:Nat)(a b:Int):Bs:=iW a++(32::((rU k).1++(32::iW b)))
def t2(a b:Int):Bs:=40::(iW a++([32,43,32]++(iW b++([41,32,45,32]++iW b))))
def t3(a b:Int):Bs:=40::(iW a++([32,47,32]++(iW b++([41,32,42,32]++(iW b++([32,43,32]++(iW a++([32,37,32]++iW b))))))))
end Px
end
end Go.Proofs.YthhhfcdakfbpkaaGreatDoor
