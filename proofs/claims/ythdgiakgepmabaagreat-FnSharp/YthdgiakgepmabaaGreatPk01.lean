import Derived.WalkKit
import Derived.OpenShut
import Derived.Laws.BitsAllLaws
import Derived.Laws.AppendOwnNone
import Derived.Laws.CopyOwn
import Derived.Deep.QuietTactic
import Derived.BigQuiet
import Derived.WalkSmall
import Derived.Deep.RegionHeld3
import Derived.Deep.DrawnRows
import Derived.Test.YthdgiakgepmabaaGreatRows
import Derived.Deep.RegionLaw
import Derived.StillTail
namespace Go.Proofs.YthdgiakgepmabaaGreat
open Go.RowKit
set_option linter.unusedVariables false
set_option maxHeartbeats 6400000
set_option maxRecDepth 20000
abbrev VI (x:Int):Value:=.int .i64 x
abbrev VU (x:Int):Value:=.int .u64 x
abbrev AD (b o:Nat):Addr:=⟨b,o,none⟩
abbrev PT (b o:Nat):Value:=.pointer (some ⟨b,o,none⟩)
abbrev SL (b n c:Nat):Value:=.slice (some ⟨b,0,none⟩) n c
abbrev SN:Value:=.slice none 0 0
theorem dN (w:World) (o:Obj):(w.alloc o).heap[w.heap.size]?=some o:=_root_.Go.heap_alloc_new w o
theorem tc (w:World) (o:Obj) {r:Nat} (h:r<w.heap.size):(w.alloc o).heap[r]?=w.heap[r]?:=_root_.Go.heap_alloc_old w o h
def Byt (w:World) (a:Option Addr) (len:Nat) (zs:List Int):Prop:=
 zs.length=len∧(∀i:Nat,0<=zs[i]?.getD 0∧zs[i]?.getD 0<=255)∧
 (len=0∨∃b off,a=some (AD b off)∧b<w.heap.size∧∀i,i<len->w.cell? ⟨b,off+i,none⟩=some (.int .u8 (zs[i]?.getD 0)))
def Blk (e:TypeId) (w:World) (g:Nat) (zs:List Int):Prop:=
 w.heap[g]?=some (.cells (zs.map (Value.int .u8)).toArray e (0,0))
theorem Byt.keep {w w':World} {a:Option Addr} {len:Nat} {zs:List Int} (h:Byt w a len zs) (hb:Below w.heap.size w w'):Byt w' a len zs:=by
 obtain ⟨h1,h2,h3⟩:=h;refine ⟨h1,h2,?_⟩;rcases h3 with h3 | ⟨b,off,rfl,hlt,hc⟩
 ·exact .inl h3
 ·exact .inr ⟨b,off,rfl,Nat.lt_of_lt_of_le hlt hb.size,fun i hi=>(hb.cell (p:=⟨b,off+i,none⟩) hlt).trans (hc i hi)⟩
theorem Blk.lt {e:TypeId} {w:World} {g:Nat} {zs:List Int} (h:Blk e w g zs):g<w.heap.size:=by
 unfold Blk at h;exact (Array.getElem?_eq_some_iff.1 h).1
theorem Blk.keep {e:TypeId} {B:Nat} {w w':World} {g:Nat} {zs:List Int} (h:Blk e w g zs) (hb:Below B w w') (hg:g<B):Blk e w' g zs:=by
 unfold Blk at *;rw [hb.block g hg,h]
theorem Blk.gb {e:TypeId} {w w':World} {g r:Nat} {zs:List Int} (h:Blk e w g zs) (hg:w.grownBy w' (some r)) (hne:g≠r):Blk e w' g zs:=by
 have hlt:=h.lt;unfold Blk at *;rw [hg.block g hlt (by simpa using hne),h]
theorem Below.gb {B:Nat} {a w w':World} {r:Nat} (h:Below B a w) (hg:w.grownBy w' (some r)) (hB:B<=r) (hr:r<w.heap.size):Below B a w':=
 h.grown hg (by omega) (fun k hk=>by cases hk;exact hB)
theorem Blk.cell {e:TypeId} {w:World} {g:Nat} {zs:List Int} (h:Blk e w g zs) (i:Nat) (hi:i<zs.length):w.cell? (AD g i)=some (.int .u8 (zs[i]?.getD 0)):=by
 unfold Blk at h;simp [World.cell?,h,hi]
theorem Blk.free {e:TypeId} {w:World} {g:Nat} {zs:List Int} (h:Blk e w g zs) (i:Nat):w.frozen? (AD g i)=false:=by
 unfold Blk at h;simp [World.frozen?,h]
theorem Blk.byt {e:TypeId} {w:World} {g:Nat} {zs:List Int} (h:Blk e w g zs) (hz:∀i:Nat,0<=zs[i]?.getD 0∧zs[i]?.getD 0<=255):Byt w (some (AD g 0)) zs.length zs:=
 ⟨rfl,hz,.inr ⟨g,0,rfl,h.lt,fun i hi=>by simpa using h.cell i hi⟩⟩
theorem Blk.store {e:TypeId} {w:World} {g:Nat} {zs:List Int} (h:Blk e w g zs) (i:Nat) (z:Int):Blk e (w.setCell (AD g i) (.int .u8 z)) g (zs.set i z):=by
 have hlt:=h.lt;unfold Blk at *;simp [World.setCell,Array.getElem?_modify,h]
theorem Blk.of_own {e:TypeId} {w:World} {base g n:Nat} {zs:List Int} {cap:Nat} (h:w.ownsRow base e 1 (SL g n cap) n (zs.map (Value.int .u8))) (hc:cap=n):Blk e w g zs:=by
 obtain ⟨h1,h2⟩:=h;rcases h2 with ⟨h2,_⟩ | ⟨g',cap',cur,h2,hb,hh,hn,hm,hs,ht⟩
 ·simp at h2
 ·simp at h2;obtain ⟨rfl,rfl⟩:=h2;unfold Blk;rw [hh];have:cur=(zs.map (Value.int .u8)).toArray:=by
   rw [<-ht,List.take_of_length_le (by simp;omega)]
  rw [this]
abbrev Bw (a b:World):Prop:=Below a.heap.size a b
theorem bdr (w:World):Below w.heap.size w w.drew:=(Below.refl _ _).drew
theorem hid {p:Prop} (h:p):Hid p:=h
theorem Below.step {B:Nat} {a b c:World} (h:Below B a b) (k:Below b.heap.size b c) (hB:B<=a.heap.size):Below B a c:=h.trans (k.mono (Nat.le_trans hB h.size))
theorem bst {a b c:World} (h:Below a.heap.size a b) (k:Below b.heap.size b c):Below a.heap.size a c:=Below.step h k (Nat.le_refl _)
theorem nle {n:Nat}:n<=n:=Nat.le_refl _
theorem ltl {a b c:Nat} (h:a<b) (k:b<=c):a<c:=Nat.lt_of_lt_of_le h k
theorem geg {α:Type} {l:List α} {i:Nat} (h:i<l.length):l[i]?=some l[i]:=List.getElem?_eq_getElem h
theorem brf {B:Nat} {w:World}:Below B w w:=Below.refl _ _
theorem hpl {α:Type} {xs:Array α} {i:Nat} {o:α} (h:xs[i]?=some o):i<xs.size:=(Array.getElem?_eq_some_iff.1 h).1
theorem Below.cell2 {w w':World} (h:Below w.heap.size w w') {b o:Nat} {x:Option Value} (hc:w.cell? (AD b o)=x) (hb:b<w.heap.size):w'.cell? (AD b o)=x:=(h.cell (p:=(AD b o)) hb).trans hc
theorem bN (w:World) (A:Array Value) (T:TypeId):(w.alloc (.cells A T)).heap[w.heap.size]?=some (.cells A T (0,0))∧(w.alloc (.cells A T)).heap.size=w.heap.size+1∧Bw w (w.alloc (.cells A T)):=
 ⟨dN w _,by simp,(Below.refl _ _).alloc nle _⟩
theorem ax1 (w:World) (A:Array Value) (T:TypeId):∃v,Hid (w.alloc (.cells A T)=v)∧v.heap[w.heap.size]?=some (.cells A T (0,0))∧v.heap.size=w.heap.size+1∧Bw w v:=
 ⟨_,hid rfl,bN w A T⟩
theorem ax2 (w:World) (A B:Array Value) (T U:TypeId):∃v,Hid ((w.alloc (.cells A T)).alloc (.cells B U)=v)∧v.heap[w.heap.size]?=some (.cells A T (0,0))∧v.heap[w.heap.size+1]?=some (.cells B U (0,0))∧v.heap.size=w.heap.size+2∧Bw w v:=by
 obtain ⟨h1,h2,h3⟩:=bN w A T;obtain ⟨k1,k2,k3⟩:=bN (w.alloc (.cells A T)) B U;rw [h2] at k1 k2;exact ⟨_,hid rfl,by rw [k3.block _ (by omega),h1],k1,k2,bst h3 k3⟩
theorem lk (w:World) (A B:Array Value) (T U:TypeId):((w.alloc (.cells A T)).alloc (.cells B U)).heap[w.heap.size]?=some (.cells A T (0,0))∧((w.alloc (.cells A T)).alloc (.cells B U)).heap[w.heap.size+1]?=some (.cells B U (0,0))∧((w.alloc (.cells A T)).alloc (.cells B U)).heap.size=w.heap.size+2∧Bw w ((w.alloc (.cells A T)).alloc (.cells B U)):=by
 obtain ⟨v,h,F⟩:=ax2 w A B T U;rw [h.out];exact F
theorem al1 (w:World) (A:Array Value) (T:TypeId):∃v,Hid (w.alloc (.cells A T)=v)∧Bw w v∧Hid (v.heap[w.heap.size]?=some (.cells A T (0,0)))∧w.heap.size<v.heap.size:=by
 obtain ⟨v,h,F⟩:=ax1 w A T;exact ⟨v,h,F.2.2,F.1,by omega⟩
theorem al2 (w:World) (A B:Array Value) (T U:TypeId):∃v,Hid ((w.alloc (.cells A T)).alloc (.cells B U)=v)∧Bw w v∧Hid (v.heap[w.heap.size]?=some (.cells A T (0,0)))∧Hid (v.heap[w.heap.size+1]?=some (.cells B U (0,0)))∧w.heap.size+1<v.heap.size:=by
 obtain ⟨v,h,F⟩:=ax2 w A B T U;exact ⟨v,h,F.2.2.2,F.1,F.2.1,by omega⟩
def OwnB (e:TypeId) (w:World) (base g n cap:Nat) (zs:List Int):Prop:=
 w.ownsRow base e 1 (SL g n cap) n (zs.map (Value.int .u8))
theorem OwnB.new (e:TypeId) (w:World) (zs:List Int) (n:Nat) (hn:zs.length=n) (hm:n<=maxLen):OwnB e (w.alloc (.cells (zs.map (Value.int .u8)).toArray e)) w.heap.size w.heap.size n n zs:=
 ⟨by simp [hn],.inr ⟨w.heap.size,n,_,rfl,Nat.le_refl _,dN w _,Nat.le_refl _,hm,by simp [hn],List.take_of_length_le (by simp [hn])⟩⟩
theorem OwnB.facts {e:TypeId} {w:World} {base g n cap:Nat} {zs:List Int} (h:OwnB e w base g n cap zs):
 zs.length=n∧base<=g∧g<w.heap.size∧n<=cap∧cap<=maxLen:=by
 obtain ⟨h1,h2⟩:=h;rcases h2 with ⟨h2,_⟩ | ⟨g',cap',cur,h2,hb,hh,hn,hm,hs,ht⟩
 ·simp at h2
 ·simp at h2;obtain ⟨rfl,rfl⟩:=h2;exact ⟨by simpa using h1,hb,(Array.getElem?_eq_some_iff.1 hh).1,hn,hm⟩
theorem OwnB.cell {e:TypeId} {w:World} {base g n cap:Nat} {zs:List Int} (h:OwnB e w base g n cap zs) (i:Nat) (hi:i<n):w.cell? (AD g i)=some (.int .u8 (zs[i]?.getD 0)):=by
 have hl:=h.facts.1;have:=World.ownsRow.cellAt h i (by omega);rw [this];simp [show i<zs.length by omega]
theorem OwnB.byt {e:TypeId} {w:World} {base g n cap:Nat} {zs:List Int} (h:OwnB e w base g n cap zs) (hz:∀i:Nat,0<=zs[i]?.getD 0∧zs[i]?.getD 0<=255):Byt w (some (AD g 0)) n zs:=
 ⟨h.facts.1,hz,.inr ⟨g,0,rfl,h.facts.2.2.1,fun i hi=>by simpa using h.cell i hi⟩⟩
theorem OwnB.keep {e:TypeId} {B:Nat} {w w':World} {base g n cap:Nat} {zs:List Int} (h:OwnB e w base g n cap zs) (hb:Below B w w') (hg:g<B):OwnB e w' base g n cap zs:=by
 obtain ⟨h1,h2⟩:=h;refine ⟨h1,?_⟩;rcases h2 with ⟨h2,_⟩ | ⟨g',cap',cur,h2,hb',hh,r⟩
 ·simp at h2
 ·have hh':=h2;simp at hh';obtain ⟨rfl,rfl⟩:=hh';exact .inr ⟨_,_,cur,h2,hb',by rw [hb.block _ hg];exact hh,r⟩
theorem OwnB.low {e:TypeId} {w:World} {base base' g n cap:Nat} {zs:List Int} (h:OwnB e w base g n cap zs) (hb:base'<=base):OwnB e w base' g n cap zs:=by
 obtain ⟨h1,h2⟩:=h;refine ⟨h1,?_⟩;rcases h2 with ⟨h2,_⟩ | ⟨g',cap',cur,h2,hb',r⟩
 ·simp at h2
 ·exact .inr ⟨g',cap',cur,h2,by omega,r⟩
theorem OwnB.of_append {e:TypeId} {w':World} {base g n cap m:Nat} {v':Value} {xs ys:List Int} (h:w'.ownsRow base e 1 v' (n+m) (xs.map (Value.int .u8)++ys.map (Value.int .u8)))
 (hv:v'=SN↔(SL g n cap)=SN∧m=0):∃g' cap',v'=SL g' (n+m) cap'∧OwnB e w' base g' (n+m) cap' (xs++ys):=by
 rcases h.2 with ⟨h2,_⟩ | ⟨g',cap',cur,h2,r⟩
 ·have:=hv.1 h2;simp at this
 ·refine ⟨g',cap',h2,?_⟩;subst h2;unfold OwnB;rw [List.map_append];exact h
theorem OwnB.grown {e:TypeId} {B:Nat} {a w w':World} {base g n cap:Nat} {zs:List Int} (h:Below B a w) (o:OwnB e w base g n cap zs) (hg:w.grownBy w' (SL g n cap).ownBlock) (hB:B<=base):Below B a w':=by
 have f:=o.facts;exact h.grown hg (by omega) (fun k hk=>by cases hk;show B<=g;omega)
theorem uj (zs:List Int):∀u∈zs.map (Value.int .u8),u.oneCell'=true:=by
 intro u hu;simp at hu;obtain ⟨z,_,rfl⟩:=hu;rfl
theorem uk {w:World} {b off n:Nat} {zs:List Int} (h:Byt w (some (AD b off)) n zs):∀j u,(zs.map (Value.int .u8))[j]?=some u->w.cell? (Addr.add (AD b off) j)=some u:=by
 intro j u hu;obtain ⟨h1,_,h3⟩:=h;simp at hu;obtain ⟨z,hz,rfl⟩:=hu;have hj:j<zs.length:=(List.getElem?_eq_some_iff.1 hz).1;rcases h3 with h3 | ⟨b',off',e,_,hc⟩
 ·omega
 ·simp at e;obtain ⟨rfl,rfl⟩:=e;have:=hc j (by omega);have e:Addr.add (AD b off) j=⟨b,off+j,none⟩:=by
   unfold Addr.add;split
   ·next h=>subst h;rfl
   ·rfl
  rw [e,this,hz];rfl
theorem dO {P:Program} (w:World) {ops:Array Oper} {rest:List Oper} {o:Oper} {a:Act} {Q:Exit->Act->World->Prop} (hgd:o.guard=none) (s x:Operand) (t:TypeId)
 (ho:o.op=.call { callee:=.builtin .append,args:=#[s,x],argTypes:=#[t,t] }) (e:TypeId) (ht:P.underlying t=some (.slice e))
 (hi:(P.info? e).map (fun i=>(i.zero,i.size,i.bytes))=some (some (.int .u8 0),1,1))
 (base g n cap:Nat) (zs:List Int) (hs:a.eval s=SL g n cap) (hown:OwnB e w base g n cap zs)
 (b off m c:Nat) (ys:List Int) (hx:a.eval x=.slice (some (AD b off)) m c) (hy:Byt w (some (AD b off)) m ys) (hbd:n+m<=2147483648)
 (B:Nat) (W:World) (hb:Below B W w) (hB:B<=base)
 (h:∀g' cap' w',OwnB e w' base g' (n+m) cap' (zs++ys)->Below B W w'->wpList P ops Q rest (a.put o.dst (SL g' (n+m) cap')) w'):wpList P ops Q (o::rest) a w:=by
 obtain ⟨i0,hi,hz0,hz1,hz2⟩:=info_parts hi;have f:=hown.facts;refine wpList_append_own w hgd s x t ho base e i0 (.int .u8 0) 1 1 ht hi hz0 hz1 hz2 rfl (by decide) _ n _ hs hown (AD b off) m c (ys.map (Value.int .u8)) hx (by simp [hy.1]) (uk hy) (uj _) (by unfold maxLen;omega) (by omega) (by omega) ?_;intro v' w' h1 h2 h3;obtain ⟨g',cap',rfl,o4⟩:=OwnB.of_append h1 h3;exact h g' cap' w' o4 (OwnB.grown hb hown h2 hB)
theorem Byt.of_row {w:World} {a:Option Addr} {len cap:Nat} {zs:List Int}
 (h:(a=none∧len=0∧cap=0∧zs=[])∨
   ∃x,a=some x∧len<=cap∧cap<=maxLen∧zs.length=cap∧(∀i,i<zs.length->w.cell? (x.add i)=some (.int .u8 (zs.getD i 0)))∧∀n∈zs,(Lit.int .u8 n).wf=true):
 Byt w a len (zs.take len)∧len<=cap∧cap<=9223372036854775807:=by
 rcases h with ⟨rfl,rfl,rfl,rfl⟩ | ⟨x,rfl,hl,hm,hz,hcell,hwz⟩
 ·exact ⟨⟨rfl,fun i=>by simp,.inl rfl⟩,by omega,by omega⟩
 ·refine ⟨⟨by simp;omega,fun i=>?_,?_⟩,hl,by unfold maxLen at hm;omega⟩
  ·by_cases hi:i<len
   ·have:=bounds_u8 (hwz (zs[i]'(by omega)) (List.getElem_mem _));simp [hi,show i<zs.length by omega];omega
   ·simp [List.getElem?_take,hi]
  ·by_cases h0:len=0
   ·exact .inl h0
   ·obtain ⟨b,off,spot⟩:=x;have hc:=hcell 0 (by omega);have hspot:spot=none:=by simpa [Addr.add] using World.cell?_spot hc
    subst hspot;refine .inr ⟨b,off,rfl,?_,fun i hi=>?_⟩
    ·have hc0:w.cell? (AD b off)=some (.int .u8 (zs.getD 0 0)):=by simpa [Addr.add] using hc
     unfold World.cell? at hc0;split at hc0
     ·next he=>exact (Array.getElem?_eq_some_iff.1 he).1
     ·cases hc0
    ·have hci:=hcell i (by omega);have e:Addr.add (AD b off) i=⟨b,off+i,none⟩:=by
      unfold Addr.add;split
      ·next h=>subst h;rfl
      ·rfl
     rw [e] at hci;simpa [List.getElem?_take,hi] using hci
def fG (len:Nat) (addr n:Int):Bool:=decide (n<=len∧addr<=len-n)
def dL (len:Nat) (addr n:Int):Bool:=decide ((n=1∨n=2∨n=4∨n=8)∧n<=len∧addr<=len-n)
def num:List Int->Int
 | []=>0
 | b::r=>b+256*num r
theorem kR (len:Nat) (addr n:Int) (h:n=1∨n=2∨n=4∨n=8):fG len addr n=dL len addr n:=by
 simp [fG,dL,h]
theorem kS:∀(zs:List Int) (k:Nat),(∀z∈zs,0<=z∧z<=255)->zs.length<=k->0<=num zs∧num zs<256^k
 | [],k,_,_=>by simp [num];exact Int.pow_pos (by omega)
 | b::r,0,_,h=>by simp at h
 | b::r,k+1,hz,h=>by
  have ih:=kS r k (fun z hz'=>hz z (by simp [hz'])) (by simpa using h);have hb:=hz b (by simp);have e:(256:Int)^(k+1)=256^k*256:=Int.pow_succ _ _;simp only [num];omega
theorem jK (xs ys:List Int):num (xs++ys)=num xs+256^xs.length*num ys:=by
 induction xs with
 | nil=>simp [num]
 | cons x r ih=>
  simp only [List.cons_append,num,ih,List.length_cons,Int.pow_succ];rw [Int.mul_add,Int.add_assoc,Int.mul_comm (256^r.length) 256,Int.mul_assoc]
theorem yZ (zs:List Int) (k:Nat) (h:k+2<=zs.length):num ((zs.drop k).take 2)=zs[k]?.getD 0+zs[k+1]?.getD 0*256:=by
 rw [List.drop_eq_getElem_cons (by omega),List.take_succ_cons,List.drop_eq_getElem_cons (by omega),List.take_succ_cons];simp [num,show k<zs.length by omega,show k+1<zs.length by omega,Int.mul_comm]
theorem rO (zs:List Int) (k m:Nat) (h:k+2*m<=zs.length):num ((zs.drop k).take (2*m))=num ((zs.drop k).take m)+num ((zs.drop (k+m)).take m)*256^m:=by
 have e:(zs.drop k).take (2*m)=(zs.drop k).take m++(zs.drop (k+m)).take m:=by
  rw [show 2*m=m+m by omega,List.take_add,List.drop_drop]
 rw [e,jK,List.length_take,List.length_drop,Nat.min_eq_left (by omega),Int.mul_comm]
theorem eW (zs:List Int) (k m:Nat) (h2:∀i:Nat,0<=zs[i]?.getD 0∧zs[i]?.getD 0<=255):0<=num ((zs.drop k).take m)∧num ((zs.drop k).take m)<256^m:=by
 refine kS _ m (fun z hz=>?_) (by simp;omega);have hz':=List.mem_of_mem_drop (List.mem_of_mem_take hz);obtain ⟨i,hi,rfl⟩:=List.getElem_of_mem hz';simpa [hi] using h2 i
def rdV (zs:List Int) (addr n:Int):Int:=if dL zs.length addr n then num ((zs.drop addr.toNat).take n.toNat) else 0
def br:Int->Nat->List Int
 | _,0=>[]
 | x,n+1=>x%256::br (x/256) n
theorem dY:∀(n:Nat) (x:Int),(br x n).length=n
 | 0,_=>rfl
 | n+1,x=>by simp [br,dY n]
theorem dg:∀(n:Nat) (x:Int) (z:Int),z∈br x n->0<=z∧z<=255
 | 0,_,_,h=>by simp [br] at h
 | n+1,x,z,h=>by
  simp [br] at h;rcases h with rfl | h
  ·omega
  ·exact dg n _ z h
theorem bk {zs:List Int} (h:∀z∈zs,0<=z∧z<=255) (i:Nat):0<=zs[i]?.getD 0∧zs[i]?.getD 0<=255:=by
 by_cases hi:i<zs.length
 ·simpa [hi] using h _ (List.getElem_mem hi)
 ·simp [List.getElem?_eq_none (Nat.le_of_not_lt hi)]
def put (zs:List Int) (k:Nat) (ys:List Int):List Int:=zs.take k++ys++zs.drop (k+ys.length)
theorem uB (zs:List Int) (k:Nat) (ys:List Int) (h:k+ys.length<=zs.length):(put zs k ys).length=zs.length:=by
 simp [put];omega
theorem za (zs:List Int) (k:Nat) (z:Int) (h:k<zs.length):zs.set k z=put zs k [z]:=by
 rw [List.set_eq_take_append_cons_drop,if_pos h];simp [put]
theorem zc (zs:List Int) (k:Nat) (xs ys:List Int) (h:k+xs.length+ys.length<=zs.length):put (put zs k xs) (k+xs.length) ys=put zs k (xs++ys):=by
 have e1:(zs.take k++xs).length=k+xs.length:=by simp;omega
 have t1:(put zs k xs).take (k+xs.length)=zs.take k++xs:=by
  unfold put;rw [List.take_append_of_le_length (by omega),List.take_of_length_le (by omega)]
 have t2:(put zs k xs).drop (k+xs.length+ys.length)=zs.drop (k+xs.length+ys.length):=by
  unfold put;rw [List.drop_append,List.drop_of_length_le (by omega),e1,List.drop_drop,List.nil_append];congr 1;omega
 show (put zs k xs).take (k+xs.length)++ys++(put zs k xs).drop (k+xs.length+ys.length)=_;rw [t1,t2];simp [put,Nat.add_assoc]
theorem mY (m:Nat):∀(n:Nat) (x:Int),br x (m+n)=br x m++br (x/256^m) n:=by
 induction m with
 | zero=>intro n x;simp [br]
 | succ m ih=>
  intro n x;rw [show m+1+n=(m+n)+1 by omega];simp only [br,ih,List.cons_append];rw [Int.pow_succ,Int.mul_comm,<-Int.ediv_ediv_of_nonneg (by omega:(0:Int)<=256)]
theorem xz (zs:List Int) (k m n:Nat) (x:Int) (h:k+m+n<=zs.length):put (put zs k (br x m)) (k+m) (br (x/256^m) n)=put zs k (br x (m+n)):=by
 have:=zc zs k (br x m) (br (x/256^m) n) (by simp [dY];omega);rw [dY] at this;rw [this,<-mY]
theorem gL {zs:List Int} (h:∀i:Nat,0<=zs[i]?.getD 0∧zs[i]?.getD 0<=255):∀z∈zs,0<=z∧z<=255:=by
 intro z hz;obtain ⟨i,hi,rfl⟩:=List.getElem_of_mem hz;simpa [hi] using h i
theorem zL (n:Nat):(madeCells #[Value.int .u8 0] n).toList=(List.replicate n (0:Int)).map (Value.int .u8):=by
 apply List.ext_getElem
 ·simp [madeCells]
 ·intro i h1 h2;simp [madeCells,Nat.mod_one]
theorem Byt.take {w:World} {a:Option Addr} {len:Nat} {zs:List Int} (h:Byt w a len zs) (k:Nat) (hk:k<=len):Byt w a k (zs.take k):=by
 obtain ⟨h1,h2,h3⟩:=h;refine ⟨by simp;omega,fun i=>?_,?_⟩
 ·by_cases hi:i<k
  ·simpa [List.getElem?_take,hi] using h2 i
  ·simp [List.getElem?_take,hi]
 ·rcases h3 with h3 | ⟨b,off,rfl,hb,hc⟩
  ·exact .inl (by omega)
  ·exact .inr ⟨b,off,rfl,hb,fun i hi=>by simpa [List.getElem?_take,hi] using hc i (by omega)⟩
theorem Byt.drop {w:World} {b off len:Nat} {zs:List Int} (h:Byt w (some (AD b off)) len zs) (k m:Nat) (hk:k<=len) (hm:m=len-k) (a:Option Addr) (ha:k<len->a=some ⟨b,off+k,none⟩):Byt w a m (zs.drop k):=by
 obtain ⟨h1,h2,h3⟩:=h;refine ⟨by clear h3;simp;omega,fun i=>by simpa using h2 (k+i),?_⟩;by_cases h0:m=0
 ·exact .inl h0
 ·rcases h3 with h3 | ⟨b',off',e,hb,hc⟩
  ·omega
  ·simp at e;obtain ⟨rfl,rfl⟩:=e;exact .inr ⟨b,off+k,ha (by omega),hb,fun i hi=>by simpa [Nat.add_assoc] using hc (k+i) (by omega)⟩
def Cel (w:World) (b off len:Nat) (zs:List Int):Prop:=
 zs.length=len∧(∀i:Nat,0<=zs[i]?.getD 0∧zs[i]?.getD 0<=255)∧∀i,i<len->w.cell? ⟨b,off+i,none⟩=some (.int .u8 (zs[i]?.getD 0))
theorem dm (s:Nat) (P x y:Int) (hP:P=2^s) (h0:0<=x) (h1:x<P) (h2:0<=y) (h3:y*P<18446744073709551616) (h4:x<18446744073709551616):bits .or .u64 x (y*P)=x+y*P:=by
 obtain ⟨a,rfl⟩:=Int.eq_ofNat_of_zero_le h0;obtain ⟨b,rfl⟩:=Int.eq_ofNat_of_zero_le h2;have e:(b:Int)*P=((2^s*b:Nat):Int):=by rw [hP];push_cast;rw [Int.mul_comm]
 rw [e] at h3 |-;rw [u64_or_nat a (2^s*b) (by omega) (by omega),Nat.or_comm,<-Nat.two_pow_add_eq_or_of_lt (by rw [hP] at h1;exact_mod_cast h1)]
 push_cast
 omega
theorem da {a b:Int} (h:a=b):Ending.returned (VU a)=.returned (VU b):=by rw [h]
theorem Cel.of_byt {w:World} {b off len:Nat} {zs:List Int} (h:Byt w (some (AD b off)) len zs):Cel w b off len zs:=by
 obtain ⟨h1,h2,h3⟩:=h;refine ⟨h1,h2,fun i hi=>?_⟩;rcases h3 with h3 | ⟨b',off',e,hb,hc⟩
 ·omega
 ·simp at e;obtain ⟨rfl,rfl⟩:=e;exact hc i hi
theorem us (ys zs:List Value) (h:ys.length=zs.length):splice ys 0 zs=zs:=by
 simp [splice,h]
theorem zM {w:World} {a:Option Addr} {n:Nat} {zs:List Int} (h:Byt w a n zs) (hp:0<n):∃ad,a=some ad∧∀j u,(zs.map (Value.int .u8))[j]?=some u->w.cell? (ad.add j)=some u:=by
 rcases h.2.2 with h3 | ⟨b,off,rfl,_,_⟩
 ·omega
 ·exact ⟨(AD b off),rfl,uk h⟩
theorem ap (w:World) (r:Option Nat):w.grownBy w r:=⟨rfl,rfl,rfl,nle,fun _ _ _=>rfl⟩
theorem aj {w v:World} {g:Nat} (h:w.grownBy v (some g)) (i:Nat) (u:Value):w.grownBy (v.setCell (AD g i) u) (some g):=
 ⟨h.os,h.tape,h.output,by simpa [World.setCell] using h.size,fun k hk hn=>by
  rw [Below.heap_setCell _ _ _ _ (by intro e;exact hn (by rw [e]))];exact h.block k hk hn⟩
theorem Byt.gb {w w':World} {b off len g:Nat} {zs:List Int} (h:Byt w (some (AD b off)) len zs) (hg:w.grownBy w' (some g)) (hne:b≠g):Byt w' (some (AD b off)) len zs:=by
 obtain ⟨h1,h2,h3⟩:=h;refine ⟨h1,h2,?_⟩;rcases h3 with h3 | ⟨b',off',e,hlt,hc⟩
 ·exact .inl h3
 ·simp at e;obtain ⟨rfl,rfl⟩:=e;exact .inr ⟨b,off,rfl,ltl hlt hg.size,fun i hi=>(World.cell?_of_block (hg.block b hlt (by simpa using hne))).trans (hc i hi)⟩
theorem db (k:Nat) (x m:Int) (hm:m=2^k-1) (hk:m<18446744073709551616) (h0:0<=x) (h1:x<=18446744073709551615):bits .and .u64 x m=x%2^k:=by
 obtain ⟨a,rfl⟩:=Int.eq_ofNat_of_zero_le h0;have hp:1<=(2^k:Nat):=Nat.one_le_two_pow;have e:m=((2^k-1:Nat):Int):=by rw [hm];push_cast [hp];rfl
 rw [e] at hk |-;rw [u64_and_nat a (2^k-1) (by omega) (by omega),Nat.and_two_pow_sub_one_eq_mod]
 push_cast
 rfl
def RowC (w:World) (a:Option Addr) (n size:Nat) (cs:List Value):Prop:=
 cs.length=n*size∧(n=0∨∃b off,a=some (AD b off)∧b<w.heap.size∧∀i v,cs[i]?=some v->w.cell? ⟨b,off+i,none⟩=some v)
theorem RowC.keep {w w':World} {a:Option Addr} {n size:Nat} {cs:List Value} (h:RowC w a n size cs) (hb:Bw w w'):RowC w' a n size cs:=by
 obtain ⟨h1,h3⟩:=h;refine ⟨h1,?_⟩;rcases h3 with h3 | ⟨b,off,rfl,hlt,hc⟩
 ·exact .inl h3
 ·exact .inr ⟨b,off,rfl,ltl hlt hb.size,fun i v hi=>(hb.cell (p:=⟨b,off+i,none⟩) hlt).trans (hc i v hi)⟩
theorem RowC.gb {w w':World} {b off n size r:Nat} {cs:List Value} (h:RowC w (some (AD b off)) n size cs) (hg:w.grownBy w' (some r)) (hne:b≠r):RowC w' (some (AD b off)) n size cs:=by
 obtain ⟨h1,h3⟩:=h;refine ⟨h1,?_⟩;rcases h3 with h3 | ⟨b',off',e,hlt,hc⟩
 ·exact .inl h3
 ·simp at e;obtain ⟨rfl,rfl⟩:=e;exact .inr ⟨b,off,rfl,ltl hlt hg.size,fun i v hi=>(World.cell?_of_block (hg.block b hlt (by simpa using hne))).trans (hc i v hi)⟩
theorem RowC.gb' {w w':World} {a:Option Addr} {n size r:Nat} {cs:List Value} (h:RowC w a n size cs) (hg:w.grownBy w' (some r)) (hne:∀q,a=some q->q.block≠r):RowC w' a n size cs:=by
 obtain ⟨h1,h3⟩:=h;refine ⟨h1,?_⟩;rcases h3 with h3 | ⟨b,off,rfl,hlt,hc⟩
 ·exact .inl h3
 ·have hne':=hne (AD b off) rfl;exact .inr ⟨b,off,rfl,ltl hlt hg.size,fun i v hi=>(World.cell?_of_block (hg.block b hlt (by simpa using hne'))).trans (hc i v hi)⟩
theorem aq {w w':World} {g r:Nat} {o:Obj} (h:w.heap[g]?=some o) (hg:w.grownBy w' (some r)) (hne:g≠r):w'.heap[g]?=some o:=by
 rw [hg.block g (hpl h) (by simpa using hne),h]
theorem RowC.nil (w:World) (a:Option Addr) (size:Nat):RowC w a 0 size []:=⟨by simp,.inl rfl⟩
def OwnC (e:TypeId) (size:Nat) (w:World) (base g n cap:Nat) (cs:List Value):Prop:=
 w.ownsRow base e size (SL g n cap) n cs
theorem OwnC.new (e:TypeId) (size:Nat) (w:World) (cs:List Value) (n:Nat) (hn:cs.length=n*size) (hm:n<=maxLen):OwnC e size (w.alloc (.cells cs.toArray e)) w.heap.size w.heap.size n n cs:=
 ⟨hn,.inr ⟨w.heap.size,n,_,rfl,nle,dN w _,nle,hm,by simp [hn],List.take_of_length_le (by simp [hn])⟩⟩
theorem OwnC.facts {e:TypeId} {size:Nat} {w:World} {base g n cap:Nat} {cs:List Value} (h:OwnC e size w base g n cap cs):
 cs.length=n*size∧base<=g∧g<w.heap.size∧n<=cap∧cap<=maxLen:=by
 obtain ⟨h1,h2⟩:=h;rcases h2 with ⟨h2,_⟩ | ⟨g',cap',cur,h2,hb,hh,hn,hm,hs,ht⟩
 ·simp at h2
 ·simp at h2;obtain ⟨rfl,rfl⟩:=h2;exact ⟨h1,hb,(hpl hh),hn,hm⟩
theorem OwnC.row {e:TypeId} {size:Nat} {w:World} {base g n cap:Nat} {cs:List Value} (h:OwnC e size w base g n cap cs):RowC w (some (AD g 0)) n size cs:=by
 refine ⟨h.1,.inr ⟨g,0,rfl,h.facts.2.2.1,fun i v hi=>?_⟩⟩;have hl:=(List.getElem?_eq_some_iff.1 hi).1;rw [Nat.zero_add,World.ownsRow.cellAt h i (by rw [<-h.1];exact hl),hi]
theorem OwnC.keep {e:TypeId} {size B:Nat} {w w':World} {base g n cap:Nat} {cs:List Value} (h:OwnC e size w base g n cap cs) (hb:Below B w w') (hg:g<B):OwnC e size w' base g n cap cs:=by
 obtain ⟨h1,h2⟩:=h;refine ⟨h1,?_⟩;rcases h2 with ⟨h2,_⟩ | ⟨g',cap',cur,h2,hb',hh,r⟩
 ·simp at h2
 ·have hh':=h2;simp at hh';obtain ⟨rfl,rfl⟩:=hh';exact .inr ⟨_,_,cur,h2,hb',by rw [hb.block _ hg];exact hh,r⟩
theorem OwnC.gb {e:TypeId} {size:Nat} {w w':World} {base g n cap r:Nat} {cs:List Value} (h:OwnC e size w base g n cap cs) (hg:w.grownBy w' (some r)) (hne:g≠r):OwnC e size w' base g n cap cs:=by
 obtain ⟨h1,h2⟩:=h;refine ⟨h1,?_⟩;rcases h2 with ⟨h2,_⟩ | ⟨g',cap',cur,h2,hb',hh,r'⟩
 ·simp at h2
 ·have hh':=h2;simp at hh';obtain ⟨rfl,rfl⟩:=hh';exact .inr ⟨_,_,cur,h2,hb',by rw [hg.block _ (hpl hh) (by simpa using hne)];exact hh,r'⟩
theorem OwnC.low {e:TypeId} {size:Nat} {w:World} {base base' g n cap:Nat} {cs:List Value} (h:OwnC e size w base g n cap cs) (hb:base'<=base):OwnC e size w base' g n cap cs:=by
 obtain ⟨h1,h2⟩:=h;refine ⟨h1,?_⟩;rcases h2 with ⟨h2,_⟩ | ⟨g',cap',cur,h2,hb',r⟩
 ·simp at h2
 ·exact .inr ⟨g',cap',cur,h2,by omega,r⟩
theorem OwnC.of_append {e:TypeId} {size:Nat} {w':World} {base g n cap m:Nat} {v':Value} {cs:List Value} (h:w'.ownsRow base e size v' (n+m) cs)
 (hv:v'=SN↔(SL g n cap)=SN∧m=0):∃g' cap',v'=SL g' (n+m) cap'∧OwnC e size w' base g' (n+m) cap' cs:=by
 rcases h.2 with ⟨h2,_⟩ | ⟨g',cap',cur,h2,r⟩
 ·have:=hv.1 h2;simp at this
 ·refine ⟨g',cap',h2,?_⟩;subst h2;exact h
theorem OwnC.grown {e:TypeId} {size B:Nat} {a w w':World} {base g n cap:Nat} {cs:List Value} (h:Below B a w) (o:OwnC e size w base g n cap cs) (hg:w.grownBy w' (SL g n cap).ownBlock) (hB:B<=base):Below B a w':=by
 have f:=o.facts;exact h.grown hg (by omega) (fun k hk=>by cases hk;show B<=g;omega)
theorem uw {w:World} {b off n size:Nat} {cs:List Value} (h:RowC w (some (AD b off)) n size cs):∀j u,cs[j]?=some u->w.cell? (Addr.add (AD b off) j)=some u:=by
 intro j u hu;obtain ⟨h1,h3⟩:=h;rcases h3 with h3 | ⟨b',off',e,_,hc⟩
 ·subst h3;simp at h1;subst h1;simp at hu
 ·simp at e;obtain ⟨rfl,rfl⟩:=e;have e:Addr.add (AD b off) j=⟨b,off+j,none⟩:=by
   unfold Addr.add;split
   ·next h=>subst h;rfl
   ·rfl
  rw [e];exact hc j u hu
structure Lies (v:World) where
 w:World
 h:Bw v w
theorem dS (v:World):Nonempty (Lies v):=⟨⟨v,brf⟩⟩
theorem mG {P:Program} {f:FuncId} {args:Array Value} {v:World} (u:Lies v) {x:Value} (h:Calls P f args u.w fun e w'=>e=.returned x∧Below u.w.heap.size u.w w'):
 Calls P f args u.w fun e w''=>e=.returned x∧∃u':Lies v,w''=u'.w:=
 h.mono fun e w' ⟨he,hb⟩=>⟨he,⟨w',bst u.h hb⟩,rfl⟩
theorem jd {P:Program} {f:FuncId} {args:Array Value} {v:World} (u:Lies v) {x:Value} (h:Calls P f args u.w fun e w'=>e=.returned x∧w'=u.w):
 Calls P f args u.w fun e w''=>e=.returned x∧∃u':Lies v,w''=u'.w:=
 h.mono fun e w' ⟨he,hb⟩=>⟨he,u,hb⟩
theorem aS {v:World} {b o:Nat} {x:Value} (hc:v.cell? (AD b o)=some x) (hb:b<v.heap.size) (u:Lies v):u.w.cell? (AD b o)=some x:=Below.cell2 u.h hc hb
theorem dk {P:Program} {id:Nat} {Q:Exit->Act->World->Prop} {a:Act} {w:World} {l:List Oper} (hm:P.follows .mixedOrders=true) (hB:Region.lexB .any l.toArray=true)
 (h:wpQuiet P l.toArray (fun w'=>∃u:Lies w,w'=u.w) (fun a'=>∀w',(∃u:Lies w,w'=u.w)->Q .normal a' w') l a):(Code.region id l.toArray true).wp P Q a w:=
 wp_region_quiet (C:=fun w'=>∃u:Lies w,w'=u.w) hm hB ⟨⟨w.drew,(brf).drew⟩,rfl⟩ (by simpa using h)
theorem Tryz.infoB:(Tryz.prog.info? 5).map (fun i=>(i.zero,i.size,i.bytes))=some (some (.int .u8 0),1,1):=by kernel_rfl
def aZ (x p:Int):Bool:=x/p%2 == 1
def bY (va:Int):Bool:=va/16384%1125899906842624 == 0 || va/16384%1125899906842624 == 1125899906842623
def cx (pte:Int):Int:=pte/1024%17592186044416
def ox (level:Int):Int:=if level=0 then 1 else if level=1 then 8 else 64
def fD (level:Int):Int:=if level=0 then 64 else if level=1 then 512 else 4096
def aV (pte level:Int):Int:=
 if level<0∨2<level∨aZ pte 1=false∨0<pte/18014398509481984%1024∨(aZ pte 4=true∧aZ pte 2=false) then 0
 else if aZ pte 2=false∧aZ pte 4=false∧aZ pte 8=false then
  (if level=0∨aZ pte 16=true∨aZ pte 64=true∨aZ pte 128=true then 0 else 1)
 else if 0<cx pte%ox level then 0 else 2
def bZ (pte kind mode:Int) (sum mxr:Bool):Bool:=
 (if kind=0 then aZ pte 8 else if kind=1 then aZ pte 2 || (mxr && aZ pte 8) else if kind=2 then aZ pte 4 && aZ pte 128 else false) &&
 (if mode=0 then aZ pte 16 else if mode=1 then !aZ pte 16 || (kind != 0 && sum) else false) && aZ pte 64
def fE (pte level va:Int):Int:=
 if level<0∨2<level then 0 else cx pte*64/fD level*fD level+va%fD level
theorem eQ {a b:Int} (h:a=b):Ending.returned (VI a)=.returned (VI b):=by rw [h]
theorem aR {a b:Bool} (h:a=b):Ending.returned (.bool a)=.returned (.bool b):=by rw [h]
def cg (va level:Int):Int:=if level=0 then va/64%8 else if level=1 then va/512%8 else va/4096%8
abbrev aD:=Int × Int × Int
def aN (zs:List Int) (va:Int):Nat->Int->Int × Int × Int × List aD
 | l,n=>
  if dL zs.length (64*n+8*cg va l) 8=false then (3,l,0,[])
  else if aV (rdV zs (64*n+8*cg va l) 8) l=0 then (2,l,0,[])
  else if aV (rdV zs (64*n+8*cg va l) 8) l=2 then (1,l,rdV zs (64*n+8*cg va l) 8,[((l:Int),64*n+8*cg va l,rdV zs (64*n+8*cg va l) 8)])
  else match l with
   | 0=>(2,0,0,[])
   | k+1=>((aN zs va k (cx (rdV zs (64*n+8*cg va l) 8))).1,(aN zs va k (cx (rdV zs (64*n+8*cg va l) 8))).2.1,(aN zs va k (cx (rdV zs (64*n+8*cg va l) 8))).2.2.1,
    ((l:Int),64*n+8*cg va l,rdV zs (64*n+8*cg va l) 8)::(aN zs va k (cx (rdV zs (64*n+8*cg va l) 8))).2.2.2)
def aU (zs:List Int) (root va:Int):Int × Int × Int × List aD:=
 if bY va=false then (2,2,0,[]) else aN zs va 2 (root%17592186044416)
def dI (kind:Int):Int:=if kind=0 then 12 else if kind=1 then 13 else 15
def bq (kind:Int):Int:=if kind=0 then 1 else if kind=1 then 5 else 7
def onM (mode satp:Int):Bool:=satp/1152921504606846976%16 == 8 && (mode == 0 || mode == 1)
def aB (satp:Int):Int:=satp/17592186044416%65536
def eT (pte level mode:Int) (sum mxr:Bool) (kind va:Int):Int × Int:=
 if bZ pte kind mode sum mxr=true then (0,fE pte level va) else (dI kind,0)
def bw (r:Int × Int × Int × List aD) (mode:Int) (sum mxr:Bool) (kind va:Int):Int × Int:=
 if r.1=2 then (dI kind,0) else if r.1=3 then (bq kind,0) else eT r.2.2.1 r.2.1 mode sum mxr kind va
def fB (zs:List Int) (mode:Int) (sum mxr:Bool) (satp kind va:Int):Int × Int:=
 if kind<0∨2<kind∨mode<0∨2<mode then (63,0)
 else if onM mode satp=false then (0,va)
 else bw (aU zs satp va) mode sum mxr kind va
def tR (r:aD):List Value:=[VI r.1,VU r.2.1,VU r.2.2]
def bu:List aD->List Value
 | []=>[]
 | r::rs=>tR r++bu rs
theorem kV:∀rs:List aD,∀u∈bu rs,u.oneCell'=true
 | [],u,h=>by simp [bu] at h
 | r::rs,u,h=>by
  simp only [bu,List.mem_append] at h;rcases h with h | h
  ·simp [tR] at h;rcases h with rfl | rfl | rfl <;> rfl
  ·exact kV rs u h
theorem aO {w:World} {g:Nat} {T:TypeId} {a b c d:Value} (h:w.heap[g]?=some (.cells #[a,b,c,d] T (0,0))):
 (w.cell? (AD g 0)=some a∧w.cell? (AD g 1)=some b∧w.cell? (AD g 2)=some c∧w.cell? (AD g 3)=some d)∧
 (w.frozen? (AD g 0)=false∧w.frozen? (AD g 1)=false∧w.frozen? (AD g 2)=false∧w.frozen? (AD g 3)=false):=by
 simp [World.cell?,World.frozen?,h]
theorem Tryz.infoRec:(Tryz.prog.info? 118).map (fun i=>(i.zero,i.size,i.bytes))=some (some (.agg #[VI 0,VU 0,VU 0]),3,24):=by kernel_rfl
theorem uH (va level:Int):0<=cg va level∧cg va level<=7:=by
 unfold cg;split
 ·omega
 ·split <;> omega
theorem nj (zs:List Int) (a n:Int) (hn:n<=8) (h:∀i:Nat,0<=zs[i]?.getD 0∧zs[i]?.getD 0<=255):0<=rdV zs a n∧rdV zs a n<=18446744073709551615:=by
 unfold rdV;split
 ·have:=eW zs a.toNat n.toNat h;have hp:(256:Int)^n.toNat<=18446744073709551616:=by
   rcases (show n.toNat=0∨n.toNat=1∨n.toNat=2∨n.toNat=3∨n.toNat=4∨n.toNat=5∨n.toNat=6∨n.toNat=7∨n.toNat=8 by omega) with h | h | h | h | h | h | h | h | h <;> rw [h] <;> decide
  omega
 ·omega
theorem gb4 (v:World) (g:Nat) (x y z u:Value):v.grownBy ((((v.setCell (AD g 0) x).setCell (AD g 1) y).setCell (AD g 2) z).setCell (AD g 3) u) (some g):=
 aj (aj (aj (aj (ap v (some g)) 0 x) 1 y) 2 z) 3 u
theorem uI (x:Int):0<=cx x∧cx x<17592186044416:=⟨Int.emod_nonneg _ (by omega),Int.emod_lt_of_pos _ (by omega)⟩
theorem pB (p l:Int):aV p l=0∨aV p l=1∨aV p l=2:=by
 unfold aV;split
 ·exact .inl rfl
 ·split
  ·split
   ·exact .inl rfl
   ·exact .inr (.inl rfl)
  ·split
   ·exact .inl rfl
   ·exact .inr (.inr rfl)
theorem ie (p:Int):aV p 0≠1:=by
 unfold aV;split
 ·simp
 ·split
  ·simp
  ·split <;> simp
theorem ag {B:Nat} {w w':World} {g:Nat} {o:Obj} (h:w.heap[g]?=some o) (hb:Below B w w') (hg:g<B):w'.heap[g]?=some o:=by rw [hb.block g hg,h]
section
variable {P:Program} {ops:Array Oper}
def lZ (ops:Array Oper) (j:Nat):Option Tmp:=(ops[j]?).bind (·.dst)
structure Head (ops:Array Oper) (ws:List Nat) (z s i:Nat) (o:Oper) (d:Tmp):Prop where
 op:ops[i]?=some o
 dst:o.dst=some d
 lt:d<s
 guard:i∈ws->o.guard=none
 apart:∀j,j<z->j≠i->lZ ops j≠some d
 looks:∀j t,j<z->lZ ops j=some t->t∈o.looksAt ops->j<i∧Region.waitsFor .any ops i j=true∧(i∈ws∨j∉ws)
 sink:∃j,i<j∧j<z+1∧Region.waitsFor .any ops j i=true
structure Fr (ops:Array Oper) (ws:List Nat) (z:Nat) (a A:Act) (S:Nat->Prop) (p:Nat->Value) (b:Act):Prop where
 defers:b.defers=a.defers
 size:b.tmps.size=a.tmps.size
 old:∀d:Nat,(∀j,j<z->S j->lZ ops j≠some d)->b.tmps[d]?=a.tmps[d]?
 new:∀(d:Nat) j,j<z->S j->j∉ws->lZ ops j=some d->b.tmps[d]?=A.tmps[d]?
 wild:∀(d:Nat) j,j<z->S j->j∈ws->lZ ops j=some d->b.tmps[d]?=some (p j)
theorem yG {b:Act} {d:Nat} {x:Value} (h:d<b.tmps.size):(b.put (some d) x).tmps[d]?=some x:=by
 simp [Act.put,h]
theorem qW {b:Act} {e:Option Tmp} {d:Nat} {x:Value} (h:e≠some d):(b.put e x).tmps[d]?=b.tmps[d]?:=by
 cases e with
 | none=>rfl
 | some e=>simp [Act.put,Array.getElem?_setIfInBounds_ne (show e≠d from fun he=>h (he ▸ rfl))]
theorem Head.is {ws:List Nat} {z s i:Nat} {o:Oper} {d:Tmp} (h:Head ops ws z s i o d):lZ ops i=some d:=by
 rw [lZ,h.op];exact h.dst
theorem Fr.put {ws:List Nat} {z s i d:Nat} {a A b:Act} {S S':Nat->Prop} {p p':Nat->Value} {o:Oper} {x:Value} (h:Fr ops ws z a A S p b) (hh:Head ops ws z s i o d) (hs:a.tmps.size=s) (hx:i∉ws->A.tmps[d]?=some x) (hp:i∈ws->p' i=x) (hp':∀j,j≠i->p' j=p j)
 (hS:∀j,j<z->(S' j↔S j∨j=i)) (hi:i<z):Fr ops ws z a A S' p' (b.put (some d) x):=by
 have one:∀e j,j<z->S' j->lZ ops j=some e->(d=e∧j=i)∨(d≠e∧S j∧j≠i):=fun e j hj hSj hd=>by
  by_cases hji:j=i
  ·subst hji;exact .inl ⟨Option.some.inj (hh.is.symm.trans hd),rfl⟩
  ·refine .inr ⟨fun hde=>hh.apart j hj hji (by rw [hd,hde]),((hS j hj).1 hSj).resolve_right hji,hji⟩
 refine ⟨h.defers,by simp [Act.put,h.size],fun e he=>?_,fun e j hj hSj hw hd=>?_,fun e j hj hSj hw hd=>?_⟩
 ·have hne:d≠e:=fun hde=>he i hi ((hS i hi).2 (.inr rfl)) (by rw [hh.is,hde]);rw [qW (by simpa using hne)];exact h.old e fun j hj hj2=>he j hj ((hS j hj).2 (.inl hj2))
 ·rcases one e j hj hSj hd with ⟨rfl,rfl⟩ | ⟨h1,h2,h3⟩
  ·rw [yG (by rw [h.size,hs];exact hh.lt),hx hw]
  ·rw [qW (by simpa using h1)];exact h.new e j hj h2 hw hd
 ·rcases one e j hj hSj hd with ⟨rfl,rfl⟩ | ⟨h1,h2,h3⟩
  ·rw [yG (by rw [h.size,hs];exact hh.lt),hp hw]
  ·rw [qW (by simpa using h1),hp' j h3];exact h.wild e j hj h2 hw hd
def Closed (ops:Array Oper) (listed:Array Bool):Prop:=∀j oj,ops[j]?=some oj->listed.getD j false=true->∀e∈oj.after,Region.binds .any e=true->listed.getD e.on false=true
theorem Closed.set {listed:Array Bool} {i:Nat} (h:Closed ops listed) (hi:i∈Region.ready .any ops listed):Closed ops (listed.setIfInBounds i true):=by
 obtain ⟨_,oi,hoi,hall⟩:=mem_ready.1 hi;intro j oj hj hl e he hb;by_cases hij:i=j
 ·subst hij;have:oj=oi:=Option.some.inj (hj.symm.trans hoi);subst this;exact getD_set_true (hall e he hb)
 ·rw [getD_set_ne false hij] at hl;exact getD_set_true (h j oj hj hl e he hb)
theorem qX {listed:Array Bool} {i j:Nat} (hc:Closed ops listed) (hi:listed.getD i false=true) (hw:Region.waitsFor .any ops i j=true):listed.getD j false=true:=by
 obtain ⟨o,ho,e,he,hb,hon⟩:=Region.waitsFor_spec hw;rw [<-hon];exact hc i o ho hi e he hb
theorem qY {listed:Array Bool} {i:Nat} (h:listed.getD i true=false):listed.getD i false=false:=by
 rcases Nat.lt_or_ge i listed.size with h' | h'
 ·simp [h'] at h |-;exact h
 ·simp [Array.getElem?_eq_none h'] at h
def WildAt (P:Program) (o:Oper) (a:Act) (w:World) (K:Value->World->Prop):Prop:=
 (∃x w',(execOp a.eval o).run P w=.ok (.value x) w'∧K x w')∨(∃f args,(execOp a.eval o).run P w=.ok (.enter f args) w∧Calls P f args w fun e w'=>∃x,e=.returned x∧K x w')
theorem WildAt.wp {Q:Exit->Act->World->Prop} {o:Oper} {a b:Act} {w:World} {K:Value->World->Prop} {K':Act->World->Prop} (h:WildAt P o a w K) (he:execOp b.eval o=execOp a.eval o) (hK:∀x w',K x w'->K' (b.put o.dst x) w'):o.wp P b w K' Q:=by
 unfold Oper.wp;rw [he];rcases h with ⟨x,w',h1,h2⟩ | ⟨f,args,h1,h2⟩
 ·rw [h1];exact hK x w' h2
 ·rw [h1];refine h2.mono ?_;rintro e w' ⟨x,rfl,hx⟩;exact hK x w' hx
end
end Go.Proofs.YthdgiakgepmabaaGreat
