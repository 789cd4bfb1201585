import Derived.Test.YtkenjknmfhoppaaGreatSk12
import Derived.Deep.AppendLies
namespace Go.Proofs.YtkenjknmfhoppaaGreat
open Go.RowKit
set_option linter.unusedVariables false
set_option maxHeartbeats 6400000
set_option maxRecDepth 20000
def KnT (S:Int->Prop) (t:TlbM):Prop:=∀e∈t.es,e.valid=true->S e.pte
def KnK (S:Int->Prop) (k:KM):Prop:=KnT S k.i∧KnT S k.d∧KnT S k.p
def iO (S:Int->Prop) (mem:List Int):Prop:=∀k:Nat,8*k+8<=mem.length->S (rdV mem ((8*k:Nat):Int) 8)
theorem KnT.mono {S S':Int->Prop} {t:TlbM} (h:KnT S t) (hs:∀x,S x->S' x):KnT S' t:=fun e he hv=>hs _ (h e he hv)
theorem KnK.mono {S S':Int->Prop} {k:KM} (h:KnK S k) (hs:∀x,S x->S' x):KnK S' k:=⟨h.1.mono hs,h.2.1.mono hs,h.2.2.mono hs⟩
theorem KnT.insert {S:Int->Prop} {t:TlbM} {e:EntM} {pick:Int} (h:KnT S t) (he:S e.pte):KnT S (dg t e pick):=by
 unfold dg;split
 ·intro x hx hv;rcases List.mem_or_eq_of_mem_set hx with hx | rfl
  ·exact h x hx hv
  ·exact he
 ·exact h
theorem KnT.ptrs {S:Int->Prop} {va satp pick:Int}:∀(rs:List ef) (p:TlbM),KnT S p->(∀r∈rs,S r.2.2)->KnT S (cG va satp pick rs p)
 | [],p,h,_=>h
 | r::rs,p,h,hr=>by
  rw [cG];refine KnT.ptrs rs _ ?_ (fun x hx=>hr x (List.mem_cons_of_mem _ hx));split
  ·exact h.insert (hr r (List.mem_cons_self ..))
  ·exact h
theorem KnT.flush {S:Int->Prop} {t:TlbM} {f:FenceM} (h:KnT S t):KnT S (eO t f):=by
 unfold eO;split
 ·intro x hx hv;simp only [List.mem_map] at hx;obtain ⟨y,hy,rfl⟩:=hx;unfold cx at hv |-;split
  ·rename_i hc;rw [if_pos hc] at hv;simp [cH] at hv
  ·rename_i hc;rw [if_neg hc] at hv;exact h y hy hv
 ·exact h
theorem KnT.evict {S:Int->Prop} {t:TlbM} {n:Int} (h:KnT S t):KnT S (be t n):=by
 unfold be;intro x hx hv;rcases List.mem_or_eq_of_mem_set hx with hx | rfl
 ·exact h x hx hv
 ·simp [cH] at hv
theorem Ax {S:Int->Prop} {mem:List Int} (h:iO S mem) {a:Int} (h0:0<=a) (h8:a%8=0) (hg:dU mem.length a 8=true):S (rdV mem a 8):=by
 simp only [dU,decide_eq_true_eq] at hg;have:=h (a/8).toNat (by omega);have ha:((8*(a/8).toNat:Nat):Int)=a:=by omega
 rwa [ha] at this
theorem tl {S:Int->Prop} {mem:List Int} (h:iO S mem) (va:Int):∀(l:Nat) (n:Int),0<=n->(∀r∈(cQ mem va l n).2.2.2,S r.2.2)∧((cQ mem va l n).1=1->S (cQ mem va l n).2.2.1):=by
 intro l
 induction l with
 | zero=>
  intro n hn;have hi:0<=dF va (0:Nat):=by unfold dF;simp;omega
  have hw:=fun hg=>Ax h (a:=64*n+8*dF va (0:Nat)) (by omega) (by omega) hg;unfold cQ;split
  ·simp
  ·rename_i hg;have hw:=hw (by simpa using hg);split
   ·simp
   ·split
    ·simpa using hw
    ·simp
 | succ k ih=>
  intro n hn;have hi:0<=dF va ((k+1:Nat):Int):=by unfold dF;split;omega;split <;> omega
  have hw:=fun hg=>Ax h (a:=64*n+8*dF va ((k+1:Nat):Int)) (by omega) (by omega) hg;unfold cQ;split
  ·simp
  ·rename_i hg;have hw:=hw (by simpa using hg);split
   ·simp
   ·split
    ·simpa using hw
    ·have:=ih (dI (rdV mem (64*n+8*dF va ((k+1:Nat):Int)) 8)) (by unfold dI;omega);refine ⟨?_,this.2⟩;intro r hr;rcases List.mem_cons.1 hr with rfl | hr
     ·exact hw
     ·exact this.1 r hr
theorem zJ {S:Int->Prop} {mem:List Int} (h:iO S mem) (root va:Int):(∀r∈(dn mem root va).2.2.2,S r.2.2)∧((dn mem root va).1=1->S (dn mem root va).2.2.1):=by
 unfold dn;split
 ·simp
 ·exact tl h va 2 _ (by omega)
theorem vZ {S:Int->Prop} {mem:List Int} (h:iO S mem) (satp va:Int) (up:Bool × Int × Int × Int):(∀r∈(aW mem satp va up).2.2.2,S r.2.2)∧((aW mem satp va up).1=1->S (aW mem satp va up).2.2.1):=by
 unfold aW;split
 ·exact tl h va _ _ (by unfold dI;omega)
 ·exact zJ h satp va
theorem yz (mem:List Int) (satp va:Int) (up:Bool × Int × Int × Int):(aW mem satp va up).1=1∨(aW mem satp va up).1=2∨(aW mem satp va up).1=3:=by
 unfold aW;split
 ·exact kT mem va _ _
 ·exact kU mem satp va
theorem zK {r:Int × Int × Int × List ef} {mode:Int} {sum mxr:Bool} {kind va:Int} (hc:r.1=1∨r.1=2∨r.1=3) (ha:(db r mode sum mxr kind va).1=0):r.1=1:=by
 rcases hc with h | h | h
 ·exact h
 ·exfalso;unfold db at ha;rw [if_pos h] at ha;simp only [eR] at ha;split at ha
  ·cases ha
  ·split at ha <;> cases ha
 ·exfalso;unfold db at ha;rw [if_neg (by omega),if_pos h] at ha;simp only [bP] at ha;split at ha
  ·cases ha
  ·split at ha <;> cases ha
theorem tn {S:Int->Prop} {mem:List Int} (hw:iO S mem) (mode:Int) (sum mxr:Bool) (satp:Int) {k:KM} (hk:KnK S k) (kind va pick:Int):KnK S (cy mem mode sum mxr satp k kind va pick).2:=by
 unfold cy;split
 ·have h0:KnT S eC:=fun e he=>absurd he (by simp [eC]);exact ⟨h0,h0,h0⟩
 ·split
  ·exact hk
  ·split
   ·exact hk
   ·split
    ·exact hk
    ·simp only;obtain ⟨h1,h2⟩:=vZ hw satp va (aY k.p va (aK satp));have hc:=yz mem satp va (aY k.p va (aK satp));have hp:=KnT.ptrs (va:=va) (satp:=satp) (pick:=pick) _ k.p hk.2.2 h1;have ht:KnT S (eV k kind):=by unfold eV;split;exact hk.1;exact hk.2.1
     split
     ·rename_i ha;have hi:=ht.insert (e:=eU (aW mem satp va (aY k.p va (aK satp))).2.1 va satp (aW mem satp va (aY k.p va (aK satp))).2.2.1) (pick:=pick) (h2 (zK hc ha));unfold th;split
      ·exact ⟨hi,hk.2.1,hp⟩
      ·exact ⟨hk.1,hi,hp⟩
     ·exact ⟨hk.1,hk.2.1,hp⟩
theorem yA {S:Int->Prop} {h:HartM} (hw:iO S h.mem) (hk:KnK S h.k) (plain:Bool) (pick kind va:Int):KnK S (bu plain pick h kind va).2:=by
 unfold bu;split
 ·exact hk
 ·exact tn hw _ _ _ _ hk _ _ _
def KnR (S:Int->Prop) (r:RunM):Prop:=iO S r.h.mem∧KnK S r.h.k
theorem oZ {S:Int->Prop} {r:RunM} (h:KnR S r) (plain:Bool) (pick kind va:Int):KnR S (bR plain pick r kind va):=⟨h.1,yA h.1 h.2 plain pick kind va⟩
theorem tp {S:Int->Prop} {r:RunM} (h:KnR S r) (c t:Int):KnR S (bY r c t):=h
theorem kF {S:Int->Prop} (plain:Bool) (pick kind:Int):∀(ps:List bM) (r:RunM),KnR S r->KnR S (ao plain pick kind r ps).1
 | [],r,h=>h
 | p::ps,r,h=>by
  rw [ao];split
  ·exact kF plain pick kind ps _ (oZ h plain pick kind p.1)
  ·exact tp (oZ h plain pick kind p.1) _ _
theorem mB {S:Int->Prop} {r:RunM} (h:KnR S r) (plain:Bool) (pick kind va w:Int):KnR S (aP plain pick r kind va w).1:=by
 have h1:=kF plain pick kind (cJ va w) r h;unfold aP;split
 ·split
  ·exact h1
  ·exact tp h1 _ _
 ·exact h1
theorem gc {S:Int->Prop} {c:Prop} [Decidable c] {a b:RunM} (ha:KnK S a.h.k) (hb:KnK S b.h.k):KnK S (if c then a else b).h.k:=by
 split
 ·exact ha
 ·exact hb
theorem zL {S:Int->Prop} {r:RunM} (h:KnR S r) (plain:Bool) (pick ea w a:Int):KnK S (oz plain pick r ea w a).h.k:=by
 have:=(mB h plain pick 1 ea w).2;unfold oz;generalize aP plain pick r 1 ea w=y at this |-;exact gc this this
theorem yB {S:Int->Prop} {r:RunM} (h:KnR S r) (plain:Bool) (pick ea w x:Int):KnK S (jX plain pick r ea w x).h.k:=by
 have:=(mB h plain pick 2 ea w).2;unfold jX;generalize aP plain pick r 2 ea w=y at this |-;exact gc this this
theorem BN {S:Int->Prop} {r:RunM} (h:KnR S r) (plain:Bool) (pick ea a x:Int):KnK S (tX plain pick r ea a x).h.k:=by
 have:=(mB h plain pick 2 ea 8).2;unfold tX;generalize aP plain pick r 2 ea 8=y at this |-;exact gc this this
theorem Ds {S:Int->Prop} {r:RunM} (h:KnR S r) (plain:Bool) (pick pc op a b c s word:Int):KnK S (doM plain pick r pc op a b c s word).h.k:=by
 unfold doM;refine gc h.2 (gc h.2 (gc h.2 (gc h.2 (gc h.2 (gc (zL h ..) (gc (yB h ..) (gc (BN h ..) (gc (gc h.2 h.2) (gc (gc h.2 h.2) (gc h.2 (gc ?_ (gc h.2 (gc h.2 (gc h.2 h.2))))))))))))));show KnK S (if plain=true then r.h else withK r.h (dD r.h.k (li r.h a b))).k;split
 ·exact h.2
 ·exact ⟨h.2.1.flush,h.2.2.1.flush,h.2.2.2.flush⟩
theorem wb {S:Int->Prop} {k:KM} (h:KnK S k) (plain:Bool) (pick:Int):KnK S (fB plain pick k):=by
 unfold fB;split
 ·exact ⟨h.1.evict,h.2.1.evict,h.2.2.evict⟩
 ·exact h
theorem zM {S:Int->Prop} {h:HartM} (hw:iO S h.mem) (hk:KnK S h.k) (plain:Bool) (pick:Int):KnK S (fQ plain pick h).h.k:=by
 have h0:KnR S (cK plain pick h):=⟨hw,wb hk plain pick⟩;have hb:KnK S (eQ plain pick (cK plain pick h)).h.k:=by
  generalize cK plain pick h=r at h0 |-;unfold eQ kD fJ;have hl:=oZ h0 plain pick 0 r.h.pc;generalize bR plain pick r 0 r.h.pc=y at hl |-;have hn:KnR S (bL y (eE y.h ((y.h.pc+4)%18446744073709551616))):=hl;exact gc (gc (gc (Ds hn ..) hl.2) hl.2) h0.2
 unfold fQ pU;generalize eQ plain pick (cK plain pick h)=z at hb |-;split
 ·exact hb
 ·exact hb
theorem Dc (zs:List Int) (k j:Nat) (h:8*k+8<=zs.length) (hj:j<8):num ((zs.drop (8*k+j)).take (8-j))=zs[8*k+j]?.getD 0+256*num ((zs.drop (8*k+(j+1))).take (8-(j+1))):=by
 rw [List.drop_eq_getElem_cons (by omega),show 8-j=(8-(j+1))+1 by omega,List.take_succ_cons,num,geg (show 8*k+j<zs.length by omega)];rfl
theorem Bo (a:Option Addr) (n c:Nat) (zs:List Int) (k:Nat) (w:World) (hB:Byt w a n zs) (hk:8*k+8<=n) (hn:n<=1048576):
 Calls Tryz.prog 44 #[.slice a n c,VI k] w fun e w'=>e=.returned (VU (rdV zs ((8*k:Nat):Int) 8))∧w'=w:=by
 obtain ⟨h1,h2,h3⟩:=hB;have hX:rdV zs ((8*k:Nat):Int) 8=num ((zs.drop (8*k+0)).take (8-0)):=by
  unfold rdV;rw [if_pos (by simp [dU];omega)];rfl
 rw [hX];have HW:=hid fun (j:Nat) (hj:j<8)=>Dc zs k j (by omega) hj;have HBd:=hid fun (j:Nat)=>fW zs (8*k+j) (8-j) h2;obtain ⟨b,off,rfl,hbw,hc⟩:∃b off,a=some (AD b off)∧b<w.heap.size∧∀i,i<n->w.cell? (AD b (off+i))=some (.int .u8 (zs[i]?.getD 0)):=by
  rcases h3 with h3 | h3
  ·omega
  ·exact h3
 clear h3 hX;go_enter Tryz.func44,Tryz.ntmps44;go_wp2
 go_loop [5,6] (fun xx ii=>∃(x:Int) (j:Nat),j<=8∧ii=VI ((j:Int)-1)∧xx=VU x∧x=num ((zs.drop (8*k+j)).take (8-j))) (fun _ ii=>(intOf ii+1).toNat)
 case atStart=>exact ⟨0,8,by omega,rfl,rfl,by simp [num]⟩
 case round=>
 obtain ⟨x,j,hj,hii,rfl,hx⟩:=hrel;have HX:=hid hx;clear hx;rcases j with _ | i
 ·simp only [Int.natCast_zero,Int.zero_sub] at hii;subst hii;go_wp2;go_ret;exact ⟨congrArg (fun y=>Ending.returned (VU y)) HX.out,rfl⟩
 ·rw [show ((i+1:Nat):Int)-1=(i:Int) by omega] at hii;subst hii;obtain ⟨p,hp,hp2⟩:∃p:Nat,8*(k:Int)+(i:Int)=(p:Int)∧p=8*k+i:=⟨8*k+i,by omega,rfl⟩;have g1:=hc p (by omega);have g4:=h2 p;have hb:=HBd.out (i+1);rw [<-HX.out] at hb;have hb7:x<=72057594037927935:=by
   have:(256:Int)^(8-(i+1))<=256^7:=by
    rcases (show i=0∨i=1∨i=2∨i=3∨i=4∨i=5∨i=6∨i=7 by omega) with h | h | h | h | h | h | h | h <;> rw [h] <;> decide
   omega
  have HN:Hid (x*256+zs[p]?.getD 0=num ((zs.drop (8*k+i)).take (8-i))):=by
   show _=_;rw [HW.out i (by omega),<-HX.out,hp2];omega
  have hb0:=hb.1;have hpn:p<n:=by omega
  generalize zs[p]?.getD 0=z at *;clear hb HW HBd hc hp2;go_wp2
  go_round
  case rel=>exact ⟨_,i,by omega,by go_num,rfl,HN.out⟩
  case measure=>simp [intOf]
theorem sQ (a:Option Addr) (n c:Nat) (xs:List Int) (x:Int) (w:World) (h:RowC w a n 1 (cF xs)) (hl:n<=1048576):
 Calls Tryz.prog 45 #[.slice a n c,VU x] w fun e w'=>e=.returned (.bool (decide (x∈xs)))∧w'=w:=by
 obtain ⟨h1,h3⟩:=h;have hz:xs.length=n:=by simpa [cF] using h1
 obtain ⟨G,hG⟩:∃G,decide (x∈xs)=G:=⟨_,rfl⟩;have HT1:Hid (∀i,xs[i]?=some x->true=G):=fun i hi=>by
  rw [<-hG];exact (decide_eq_true (List.mem_of_getElem? hi)).symm
 have HT0:Hid ((∀i,i<n->xs[i]?≠some x)->false=G):=fun hh=>by
  rw [<-hG];refine (decide_eq_false fun hm=>?_).symm;obtain ⟨i,hi,he⟩:=List.getElem_of_mem hm;exact hh i (by omega) (by rw [geg hi,he])
 rw [hG];clear hG h1;go_enter Tryz.func45,Tryz.ntmps45;go_wp2
 go_loop [5] (fun ii=>∃k:Nat,k<=n∧ii=VI k∧∀j,j<k->xs[j]?≠some x) (fun ii=>n-(intOf ii).toNat)
 case atStart=>exact ⟨0,Nat.zero_le _,rfl,fun j hj=>absurd hj (Nat.not_lt_zero _)⟩
 case round=>
 obtain ⟨k,hk,rfl,hall⟩:=hrel;have HA:=hid hall;clear hall;by_cases hlt:k<n
 ·rcases h3 with h3 | ⟨b,o,rfl,hb,hc⟩
  ·omega
  have hx:xs[k]?=some xs[k]:=geg (by omega);have g1:=hc k (VU xs[k]) (by rw [cF,List.getElem?_map,hx];rfl);generalize xs[k]=z at hx g1;have HXk:=hid hx;clear hc hx;by_cases hzx:z=x
  ·subst hzx;obtain rfl:=HT1.out k HXk.out;go_wp2;go_ret;exact ⟨rfl,rfl⟩
  ·have q1:(z == x)=false:=by simpa using hzx
   have HNX:Hid (∀j,j<k+1->xs[j]?≠some x):=fun j hj he=>by
    by_cases hjk:j=k
    ·subst hjk;rw [HXk.out] at he;exact hzx (Option.some.inj he)
    ·exact HA.out j (by omega) he
   clear hzx;go_wp2
   go_round
   case rel=>exact ⟨k+1,by omega,by go_num,HNX.out⟩
   case measure=>simp [intOf];omega
 ·obtain rfl:=HT0.out fun i hi=>HA.out i (by omega);go_wp2;go_ret;exact ⟨rfl,rfl⟩
theorem Et {w v u:World} {g g':Nat} (h:w.grownBy v (some g)) (k:v.grownBy u (some g')) (hg:g'=g∨w.heap.size<=g'):w.grownBy u (some g):=
 ⟨k.os.trans h.os,k.tape.trans h.tape,k.output.trans h.output,Nat.le_trans h.size k.size,fun i hi hn=>(k.block i (ltl hi h.size) (by
  rcases hg with rfl | hg
  ·exact hn
  ·simp;omega)).trans (h.block i hi hn)⟩
theorem FZ {w v:World} {r:Option Nat} (h:Bw w v):w.grownBy v r:=⟨h.os,h.tape,h.output,h.size,fun i hi _=>h.block i hi⟩
theorem Bp {P:Program} (w:World) {ops:Array Oper} {rest:List Oper} {o:Oper} {a:Act} {Q:Exit->Act->World->Prop} (hgd:o.guard=none) (s x:Operand) (t:TypeId)
 (ho:o.op=.call { callee:=.builtin .append,args:=#[s,x],argTypes:=#[t,t] }) (e:TypeId) (ht:P.underlying t=some (.slice e))
 (hi:(P.info? e).map (fun i=>(i.zero,i.size,i.bytes))=some (some (.int .u64 0),1,8))
 (base g n cap:Nat) (zs:List Int) (y:Int) (hs:a.eval s=SL g n cap) (hown:w.ownsRow base e 1 (SL g n cap) n (cF zs))
 (hx:a.eval x=SL w.heap.size 1 1) (hbd:n<=1000000) (hbw:base<=w.heap.size)
 (h:∀g' cap' w',w'.ownsRow base e 1 (SL g' (n+1) cap') (n+1) (cF (zs++[y]))->w.grownBy w' (some g)->(g'=g∨w.heap.size<=g')->wpList P ops Q rest (a.put o.dst (SL g' (n+1) cap')) w'):wpList P ops Q (o::rest) a (w.alloc (.cells #[VU y] e)):=by
 obtain ⟨i0,hi,hz0,hz1,hz2⟩:=info_parts hi;have nb:=(Below.refl w.heap.size w).alloc nle (Obj.cells #[VU y] e);have o2:=aj hown nb;have hc:(w.alloc (Obj.cells #[VU y] e)).cell? (AD w.heap.size 0)=some (VU y):=ab (er w _) 0 (v:=VU y) rfl;refine wpList_append_lies _ hgd s x t ho base e i0 (.int .u64 0) 1 8 ht hi hz0 hz1 hz2 rfl (by decide) _ n _ hs o2 (AD w.heap.size 0) 1 1 [VU y] hx rfl (fun j u hj=>by
  rcases j with _ | j
  ·simp only [List.getElem?_cons_zero,Option.some.injEq] at hj;rw [<-hj];exact hc
  ·simp at hj) (by simp [Value.oneCell']) (by decide) (by unfold maxLen;omega) (by omega) (Nat.le_trans hbw nb.size) _ rfl ?_
 intro g' cap' w' h1 h2 h3 _;refine h g' cap' w' (by rw [cF,List.map_append];exact h1) (oD (FZ nb) h2) ?_;rcases h3 with h3 | h3
 ·exact .inl (by simpa [Value.ownBlock] using h3.symm)
 ·exact .inr (by rw [h3];exact nb.size)
theorem Tryz.infoU8:(Tryz.prog.info? 29).map (fun i=>(i.zero,i.size,i.bytes))=some (some (.int .u64 0),1,8):=by kernel_rfl
structure LnS (base:Nat) (xs:List Int) (g0:Nat) (w wr:World) (g n c:Nat) (ys:List Int):Prop where
 own:wr.ownsRow base 29 1 (SL g n c) n (cF ys)
 at':g=g0∨w.heap.size<=g
 gb:w.grownBy wr (some g0)
 sub:∀x∈xs,x∈ys
theorem qX (base g n c:Nat) (xs:List Int) (am:Option Addr) (len cm:Nat) (mem:List Int) (w:World) (hO:w.ownsRow base 29 1 (SL g n c) n (cF xs)) (hb:base<=w.heap.size) (hM:Byt w am len mem) (hne:∀q,am=some q->q.block≠g) (hl:len<=4096) (hn:n<=100000):
 Calls Tryz.prog 16 #[SL g n c,.slice am len cm] w fun e w'=>∃g' n' c' ys,e=.returned (SL g' n' c')∧LnS base xs g w w' g' n' c' ys∧iO (·∈ys) mem∧n'<=n+512:=by
 have hml:=hM.1;have HM:=hid fun (u:World) (hu:w.grownBy u (some g))=>hM.gb' hu hne;have K0:Hid (LnS base xs g w w g n c xs):=⟨hO,.inl rfl,aw _ _,fun x h=>h⟩;clear hM hne hO;go_enter Tryz.func16,Tryz.ntmps16;go_wp2;go_loopw [0,5] (fun vv kk wr=>∃(g' n' c' k:Nat) (ys:List Int),vv=SL g' n' c'∧kk=VI k∧LnS base xs g w wr g' n' c' ys∧(∀j,j<k->rdV mem ((8*j:Nat):Int) 8∈ys)∧n'<=n+k∧8*k<=len) (fun _ kk _=>len-(intOf kk).toNat)
 case atStart=>exact ⟨g,n,c,0,xs,rfl,rfl,K0.out,fun j hj=>absurd hj (Nat.not_lt_zero _),by omega,by omega⟩
 case round=>
 clear K0;obtain ⟨g',n',c',k,ys,rfl,rfl,s,hw,hn',hk⟩:=hrel;have S:=hid s;have HW:=hid hw;clear s hw;by_cases h8:8*k+8<=len
 ·have C1:=hid (Bo am len cm mem k wr (HM.out wr S.out.gb) h8 (by omega));have C2:=hid fun (x:Int)=>sQ (some (AD g' 0)) n' c' ys x wr (dM S.out.own) (by omega);have h8':decide (8*(k:Int)+8<=(len:Int))=true:=by simp;omega
  obtain ⟨X,hX⟩:∃X,rdV mem ((8*k:Nat):Int) 8=X:=⟨_,rfl⟩;rw [hX] at C1;have HX:=hid hX;clear hX;have HN:Hid (∀zs:List Int,(∀y∈ys,y∈zs)->X∈zs->∀j,j<k+1->rdV mem ((8*j:Nat):Int) 8∈zs):=fun zs h1 h2 j hj=>by
   by_cases hjk:j=k
   ·subst hjk;rw [HX.out];exact h2
   ·exact h1 _ (HW.out j (by omega))
  go_wp2_with fail;refine C1.out.mono ?_;rintro e v1 ⟨rfl,h1⟩;replace h1:=h1.symm;subst h1;go_wp2_with fail;refine (C2.out X).mono ?_;rintro e v1 ⟨rfl,h1⟩;replace h1:=h1.symm;subst h1;by_cases hin:X∈ys
  ·have hd:decide (X∈ys)=true:=decide_eq_true hin;have HN2:=hid (HN.out ys (fun y h=>h) hin);clear C1 C2;rw [hd];go_wp2;go_roundw
   case rel=>exact ⟨g',n',c',k+1,ys,rfl,by go_num,S.out,HN2.out,by omega,by omega⟩
   case measure=>simp [intOf];omega
  ·have hd:decide (X∈ys)=false:=decide_eq_false hin;have HN2:=hid (HN.out (ys++[X]) (fun y h=>List.mem_append_left _ h) (List.mem_append_right _ (List.mem_singleton.2 rfl)));have hbw:base<=wr.heap.size:=Nat.le_trans hb S.out.gb.size;have sw:=S.out.gb.size;clear C1 C2 hin;rw [hd];go_wp2_with (at_builtin;refine Bp wr rfl _ _ 28 rfl 29 Tryz.underlying28 Tryz.infoU8 base g' n' c' ys X rfl S.out.own rfl (by omega) hbw ?_;intro g4 c4 x4 o4 b4 a4);have S4:Hid (LnS base xs g w x4 g4 (n'+1) c4 (ys++[X])):=⟨o4,by have:=S.out.at';omega,Et S.out.gb b4 S.out.at',fun x h=>List.mem_append_left _ (S.out.sub x h)⟩;clear o4 b4 a4;go_roundw
   case rel=>exact ⟨g4,n'+1,c4,k+1,ys++[X],rfl,by go_num,S4.out,HN2.out,by omega,by omega⟩
   case measure=>simp [intOf];omega
 ·have h8':decide (8*(k:Int)+8<=(len:Int))=false:=by simp;omega
  go_wp2;go_ret;exact ⟨g',n',c',ys,rfl,S.out,fun j hj=>HW.out j (by omega),by omega⟩
theorem jC (a:Option Addr) (n c:Nat) (xs:List Int) (t:TlbM) (a2:Option Addr) (c2:Nat) (w:World) (h:RowC w a n 1 (cF xs)) (hl:n<=1048576) (ht:TlbAt w (.agg #[VI t.sets,VI t.ways,.slice a2 t.es.length c2]) t) (hk:KnT (·∈xs) t):
 Calls Tryz.prog 19 #[.slice a n c,.agg #[VI t.sets,VI t.ways,.slice a2 t.es.length c2]] w fun e w'=>e=.returned (.bool true)∧Bw w w':=by
 have HK:Hid (∀(i:Nat) (x:EntM),t.es[i]?=some x->x.valid=true->decide (x.pte∈xs)=true):=fun i x hx hv=>decide_eq_true (hk x (List.mem_of_getElem? hx) hv);have row:RowC w a2 t.es.length 6 (aO t.es):=by
  obtain ⟨a',c',he,hr,_⟩:=ht;simp only [Value.agg.injEq,Array.mk.injEq,List.cons.injEq,Value.slice.injEq,and_true,true_and] at he;obtain ⟨rfl,_⟩:=he;exact hr
 have hm:t.es.length<=1048576:=ht.ok.2.2.2;clear hk ht;obtain ⟨sets,ways,es⟩:=t;simp only at row hm HK |-;obtain ⟨m,hm'⟩:∃m,es.length=m:=⟨_,rfl⟩;have HN:=hid hm';rw [hm'] at row hm |-;clear hm';obtain ⟨v,E,n1,H1,l1⟩:=al1 w #[VI sets,VI ways,.slice a2 m c2] 39;have CK:=hid fun (x:Int)=>sQ a n c xs x v (RowC.keep h n1) hl;have HR:=hid (RowC.keep row n1);have q2:=ab H1.out 2 (v:=.slice a2 m c2) rfl;have l2:w.heap.size<v.heap.size:=by omega
 clear h row H1;go_enter Tryz.func19,Tryz.ntmps19;go_upto_region 1 with fail;rw [E.out];clear E;go_wp2
 go_loop [5] (fun ii=>∃i:Nat,i<=m∧ii=VI i) (fun ii=>m-(intOf ii).toNat)
 case atStart=>exact ⟨0,Nat.zero_le _,rfl⟩
 case round=>
 obtain ⟨i,hi,rfl⟩:=hrel;by_cases hlt:i<m
 ·have hlt':decide ((i:Int)<(m:Int))=true:=by simp;omega
  obtain ⟨b,off,rfl,hbw⟩:∃b off,a2=some (AD b off)∧b<v.heap.size:=by
   rcases HR.out.2 with h | ⟨b,off,h,h2,_⟩
   ·omega
   ·exact ⟨b,off,h,h2⟩
  obtain ⟨x,hx⟩:∃x,es[i]?=some x:=⟨_,geg (by rw [HN.out];omega)⟩;have g0:v.cell? ⟨b,off+i*6,none⟩=some (.bool x.valid):=dL HR.out HN.out i x hx 0 _ (by omega) rfl;have g5:v.cell? ⟨b,off+i*6+5,none⟩=some (VU x.pte):=dL HR.out HN.out i x hx 5 _ (by omega) rfl;have HV:=hid (HK.out i x hx);clear hx;obtain ⟨xv,xl,xt,xa,xg,xp⟩:=x;simp only at g0 g5 HV;cases xv
  ·go_wp2
   go_round
   case rel=>exact ⟨i+1,by omega,by go_num⟩
   case measure=>simp [intOf];omega
  ·have C2:=hid (CK.out xp);rw [HV.out rfl] at C2;go_wp2_with fail;refine C2.out.mono ?_;rintro e _ ⟨rfl,rfl⟩;go_wp2
   go_round
   case rel=>exact ⟨i+1,by omega,by go_num⟩
   case measure=>simp [intOf];omega
 ·have hlt':decide ((i:Int)<(m:Int))=false:=by simp;omega
  go_wp2;go_ret;exact ⟨rfl,n1⟩
theorem oV (sets ways:Int) (a b:Option Addr) (n ca cb:Nat) (es:List EntM) (w:World) (h:RowC w a n 6 (aO es)) (h':RowC w b n 6 (aO es)) (hn:es.length=n) (hl:n<=1048576):
 Calls Tryz.prog 49 #[.agg #[VI sets,VI ways,.slice a n ca],.agg #[VI sets,VI ways,.slice b n cb]] w fun e w'=>e=.returned (.bool true)∧Bw w w':=by
 obtain ⟨v,E,n1,H1,H2,l1⟩:=al2 w #[VI sets,VI ways,.slice a n ca] #[VI sets,VI ways,.slice b n cb] 39 39;have HR:=hid (RowC.keep h n1);have HR':=hid (RowC.keep h' n1);have l2:w.heap.size<v.heap.size:=by omega
 clear h h';go_enter Tryz.func49,Tryz.ntmps49;go_upto_region 1 with fail;rw [E.out];clear E;have c0:=ab H1.out 0 (v:=VI sets) rfl;have c1:=ab H1.out 1 (v:=VI ways) rfl;have c2:=ab H1.out 2 (v:=.slice a n ca) rfl;have d0:=ab H2.out 0 (v:=VI sets) rfl;have d1:=ab H2.out 1 (v:=VI ways) rfl;have d2:=ab H2.out 2 (v:=.slice b n cb) rfl;go_wp2;clear c0 c1 c2 d0 d1 d2;go_loopw [5] (fun i wr=>∃(k:Nat),k<=n∧i=VI k∧Bw v wr) (fun i _=>n-(intOf i).toNat)
 case atStart=>exact ⟨0,Nat.zero_le _,rfl,brf⟩
 case round=>
 obtain ⟨k,hk,rfl,hb⟩:=hrel;have c2:=ab (ah H1 hb).out 2 (v:=.slice a n ca) rfl;have d2:=ab (ah H2 hb).out 2 (v:=.slice b n cb) rfl;have k1:w.heap.size<wr.heap.size:=ltl l2 hb.size;have k2:w.heap.size+1<wr.heap.size:=ltl l1 hb.size;by_cases hlt:k<n
 ·have hlt':decide ((k:Int)<(n:Int))=true:=by simp;omega
  obtain ⟨x,hx⟩:∃x:EntM,es[k]?=some x:=⟨_,geg (by omega)⟩;have R1:=RowC.keep HR.out hb;have R2:=RowC.keep HR'.out hb;obtain ⟨b1,o1,rfl,lb1⟩:∃b1 o1,a=some (AD b1 o1)∧b1<wr.heap.size:=by
   rcases R1.2 with h | ⟨b1,o1,h,h2,_⟩
   ·omega
   ·exact ⟨b1,o1,h,h2⟩
  obtain ⟨b2,o2,rfl,lb2⟩:∃b2 o2,b=some (AD b2 o2)∧b2<wr.heap.size:=by
   rcases R2.2 with h | ⟨b2,o2,h,h2,_⟩
   ·omega
   ·exact ⟨b2,o2,h,h2⟩
  obtain ⟨xv,xl,xt,xa,xg,xp⟩:=x;have C1:=fun j u hj hu=>aC (dL R1 hn k _ hx j u hj hu) lb1;have C2:=fun j u hj hu=>aC (dL R2 hn k _ hx j u hj hu) lb2;have g0:∀u:Lies wr,u.w.cell? ⟨b1,o1+k*6,none⟩=some (.bool xv):=C1 0 _ (by omega) rfl;have g1:∀u:Lies wr,u.w.cell? ⟨b1,o1+k*6+1,none⟩=some (VI xl):=C1 1 _ (by omega) rfl;have g2:∀u:Lies wr,u.w.cell? ⟨b1,o1+k*6+2,none⟩=some (VU xt):=C1 2 _ (by omega) rfl;have g3:∀u:Lies wr,u.w.cell? ⟨b1,o1+k*6+3,none⟩=some (VU xa):=C1 3 _ (by omega) rfl;have g4:∀u:Lies wr,u.w.cell? ⟨b1,o1+k*6+4,none⟩=some (.bool xg):=C1 4 _ (by omega) rfl;have g5:∀u:Lies wr,u.w.cell? ⟨b1,o1+k*6+5,none⟩=some (VU xp):=C1 5 _ (by omega) rfl;have f0:∀u:Lies wr,u.w.cell? ⟨b2,o2+k*6,none⟩=some (.bool xv):=C2 0 _ (by omega) rfl;have f1:∀u:Lies wr,u.w.cell? ⟨b2,o2+k*6+1,none⟩=some (VI xl):=C2 1 _ (by omega) rfl;have f2:∀u:Lies wr,u.w.cell? ⟨b2,o2+k*6+2,none⟩=some (VU xt):=C2 2 _ (by omega) rfl;have f3:∀u:Lies wr,u.w.cell? ⟨b2,o2+k*6+3,none⟩=some (VU xa):=C2 3 _ (by omega) rfl;have f4:∀u:Lies wr,u.w.cell? ⟨b2,o2+k*6+4,none⟩=some (.bool xg):=C2 4 _ (by omega) rfl;have f5:∀u:Lies wr,u.w.cell? ⟨b2,o2+k*6+5,none⟩=some (VU xp):=C2 5 _ (by omega) rfl;have e2:=aC c2 k1;have m2:=aC d2 k2;have ne:=dp wr;clear C1 C2 R1 R2 hx;go_wp2_with fail;refine bS (by kernel_rfl) (by kernel_rfl) ?_;repeat (go_big_quiet_step (fail))
  refine wpQuiet_nil ?_;rintro _ ⟨u,rfl⟩;have hb2:=bst hb u.h;generalize u.w=v2 at hb2 |-;clear g0 g1 g2 g3 g4 g5 f0 f1 f2 f3 f4 f5 hb c2 d2 e2 m2;go_wp2;go_roundw
  case rel=>exact ⟨k+1,by omega,by go_num,hb2⟩
  case measure=>simp [intOf];omega
 ·have hlt':decide ((k:Int)<(n:Int))=false:=by simp;omega
  go_wp2;go_ret;exact ⟨rfl,bst n1 hb⟩
theorem tT (p q:PtrM) (k:KM) (w:World) (h:KAt w (.agg (kA p k)) k) (h':KAt w (.agg (kA q k)) k):
 Calls Tryz.prog 20 #[.agg (kA p k),.agg (kA q k)] w fun e w'=>e=.returned (.bool true)∧Bw w w':=by
 have TR:∀{p:PtrM},KAt w (.agg (kA p k)) k->(RowC w p.a1 k.i.es.length 6 (aO k.i.es)∧RowC w p.a2 k.d.es.length 6 (aO k.d.es)∧RowC w p.a3 k.p.es.length 6 (aO k.p.es))∧k.i.es.length<=1048576∧k.d.es.length<=1048576∧k.p.es.length<=1048576:=by
  intro p h;obtain ⟨b1,d1,b2,d2,b3,d3,he,t1,t2,t3⟩:=h;simp only [kA,Value.agg.injEq,Array.mk.injEq,List.cons.injEq,Value.slice.injEq,true_and,and_true] at he;obtain ⟨⟨rfl,rfl⟩,⟨rfl,rfl⟩,rfl,rfl⟩:=he;have o1:=t1.ok.2.2.2;have o2:=t2.ok.2.2.2;have o3:=t3.ok.2.2.2;obtain ⟨x1,y1,e1,r1,_⟩:=t1;obtain ⟨x2,y2,e2,r2,_⟩:=t2;obtain ⟨x3,y3,e3,r3,_⟩:=t3;simp only [Value.agg.injEq,Array.mk.injEq,List.cons.injEq,Value.slice.injEq,and_true,true_and] at e1 e2 e3;obtain ⟨rfl,_⟩:=e1;obtain ⟨rfl,_⟩:=e2;obtain ⟨rfl,_⟩:=e3;exact ⟨⟨r1,r2,r3⟩,o1,o2,o3⟩
 obtain ⟨⟨r1,r2,r3⟩,m1,m2,m3⟩:=TR h;obtain ⟨⟨s1,s2,s3⟩,_⟩:=TR h';have C1:=hid fun (u:World) (hu:Bw w u)=>oV k.i.sets k.i.ways p.a1 q.a1 _ p.c1 q.c1 k.i.es u (RowC.keep r1 hu) (RowC.keep s1 hu) rfl m1;have C2:=hid fun (u:World) (hu:Bw w u)=>oV k.d.sets k.d.ways p.a2 q.a2 _ p.c2 q.c2 k.d.es u (RowC.keep r2 hu) (RowC.keep s2 hu) rfl m2;have C3:=hid fun (u:World) (hu:Bw w u)=>oV k.p.sets k.p.ways p.a3 q.a3 _ p.c3 q.c3 k.p.es u (RowC.keep r3 hu) (RowC.keep s3 hu) rfl m3;clear TR r1 r2 r3 s1 s2 s3 h h' m1 m2 m3;obtain ⟨v,E,n1,H1,H2,l1⟩:=al2 w (kA p k) (kA q k) 41 41;unfold kA at *;generalize k.i.sets=i1 at *;generalize k.i.ways=i2 at *;generalize k.i.es.length=i3 at *;generalize k.d.sets=j1 at *;generalize k.d.ways=j2 at *;generalize k.d.es.length=j3 at *;generalize k.p.sets=k1 at *;generalize k.p.ways=k2 at *;generalize k.p.es.length=k3 at *;go_enter Tryz.func20,Tryz.ntmps20;go_upto_region 1 with fail;rw [E.out];clear E;have HP:=hid fun (u:World) (hu:Bw v u)=>(ah H1 hu).out;have HQ:=hid fun (u:World) (hu:Bw v u)=>(ah H2 hu).out;clear H1 H2;have st:∀u,Bw v u->(u.cell? (AD w.heap.size 0)=some (VI i1)∧u.cell? (AD w.heap.size 1)=some (VI i2)∧u.cell? (AD w.heap.size 2)=some (.slice p.a1 i3 p.c1)∧u.cell? (AD w.heap.size 3)=some (VI j1)∧u.cell? (AD w.heap.size 4)=some (VI j2)∧u.cell? (AD w.heap.size 5)=some (.slice p.a2 j3 p.c2)∧u.cell? (AD w.heap.size 6)=some (VI k1)∧u.cell? (AD w.heap.size 7)=some (VI k2)∧u.cell? (AD w.heap.size 8)=some (.slice p.a3 k3 p.c3)):=fun u hu=>
  ⟨ab (HP.out u hu) 0 rfl,ab (HP.out u hu) 1 rfl,ab (HP.out u hu) 2 rfl,ab (HP.out u hu) 3 rfl,ab (HP.out u hu) 4 rfl,ab (HP.out u hu) 5 rfl,ab (HP.out u hu) 6 rfl,ab (HP.out u hu) 7 rfl,ab (HP.out u hu) 8 rfl⟩
 have ss:∀u,Bw v u->(u.cell? (AD (w.heap.size+1) 0)=some (VI i1)∧u.cell? (AD (w.heap.size+1) 1)=some (VI i2)∧u.cell? (AD (w.heap.size+1) 2)=some (.slice q.a1 i3 q.c1)∧u.cell? (AD (w.heap.size+1) 3)=some (VI j1)∧u.cell? (AD (w.heap.size+1) 4)=some (VI j2)∧u.cell? (AD (w.heap.size+1) 5)=some (.slice q.a2 j3 q.c2)∧u.cell? (AD (w.heap.size+1) 6)=some (VI k1)∧u.cell? (AD (w.heap.size+1) 7)=some (VI k2)∧u.cell? (AD (w.heap.size+1) 8)=some (.slice q.a3 k3 q.c3)):=fun u hu=>
  ⟨ab (HQ.out u hu) 0 rfl,ab (HQ.out u hu) 1 rfl,ab (HQ.out u hu) 2 rfl,ab (HQ.out u hu) 3 rfl,ab (HQ.out u hu) 4 rfl,ab (HQ.out u hu) 5 rfl,ab (HQ.out u hu) 6 rfl,ab (HQ.out u hu) 7 rfl,ab (HQ.out u hu) 8 rfl⟩
 have ST:=hid st;have SS:=hid ss;clear st ss HP HQ;obtain ⟨p0,p1,p2,p3,p4,p5,p6,p7,p8⟩:=ST.out v brf;obtain ⟨q0,q1,q2,q3,q4,q5,q6,q7,q8⟩:=SS.out v brf;have lv:w.heap.size<v.heap.size:=by omega
 go_wp2_with fail;refine (C1.out v n1).mono ?_;rintro e v2 ⟨rfl,n2⟩;clear p0 p1 p2 p3 p4 p5 p6 p7 p8 q0 q1 q2 q3 q4 q5 q6 q7 q8;obtain ⟨p0,p1,p2,p3,p4,p5,p6,p7,p8⟩:=ST.out v2 n2;obtain ⟨q0,q1,q2,q3,q4,q5,q6,q7,q8⟩:=SS.out v2 n2;have lv2:w.heap.size+1<v2.heap.size:=ltl l1 n2.size;have lv3:w.heap.size<v2.heap.size:=by omega
 go_wp2_with fail;refine (C2.out v2 (bst n1 n2)).mono ?_;rintro e v3 ⟨rfl,n3⟩;have n23:=bst n2 n3;clear p0 p1 p2 p3 p4 p5 p6 p7 p8 q0 q1 q2 q3 q4 q5 q6 q7 q8;obtain ⟨p0,p1,p2,p3,p4,p5,p6,p7,p8⟩:=ST.out v3 n23;obtain ⟨q0,q1,q2,q3,q4,q5,q6,q7,q8⟩:=SS.out v3 n23;have lv4:w.heap.size+1<v3.heap.size:=ltl l1 n23.size;have lv5:w.heap.size<v3.heap.size:=by omega
 go_wp2_with fail;refine (C3.out v3 (bst n1 n23)).mono ?_;rintro e v4 ⟨rfl,n4⟩;clear p0 p1 p2 p3 p4 p5 p6 p7 p8 q0 q1 q2 q3 q4 q5 q6 q7 q8;go_wp2;go_ret;exact ⟨rfl,bst n1 (bst n23 n4)⟩
end Go.Proofs.YtkenjknmfhoppaaGreat
