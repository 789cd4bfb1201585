import Derived.WalkKit
import Derived.OpenShut
import Derived.Laws.BitsAllLaws
import Derived.Laws.AppendOwnNone
import Derived.Laws.CopyOwn
import Derived.Deep.QuietTactic
import Derived.BigQuiet
import Derived.WalkSmall
import Derived.Test.YthdgiakgepmabaaGreatRows
namespace Go.Proofs.YthdgiakgepmabaaGreat
open Go.RowKit
set_option linter.unusedVariables false
set_option maxHeartbeats 6400000
set_option maxRecDepth 20000
abbrev VI (x:Int):Value:=.int .i64 x
abbrev VU (x:Int):Value:=.int .u64 x
abbrev AD (b o:Nat):Addr:=⟨b,o,none⟩
abbrev PT (b o:Nat):Value:=.pointer (some ⟨b,o,none⟩)
abbrev SL (b n c:Nat):Value:=.slice (some ⟨b,0,none⟩) n c
abbrev SN:Value:=.slice none 0 0
theorem fC (w:World) (o:Obj):(w.alloc o).heap[w.heap.size]?=some o:=_root_.Go.heap_alloc_new w o
theorem yw (w:World) (o:Obj) {r:Nat} (h:r<w.heap.size):(w.alloc o).heap[r]?=w.heap[r]?:=_root_.Go.heap_alloc_old w o h
def Byt (w:World) (a:Option Addr) (len:Nat) (zs:List Int):Prop:=
 zs.length=len∧(∀i:Nat,0<=zs[i]?.getD 0∧zs[i]?.getD 0<=255)∧
 (len=0∨∃b off,a=some (AD b off)∧b<w.heap.size∧∀i,i<len->w.cell? ⟨b,off+i,none⟩=some (.int .u8 (zs[i]?.getD 0)))
def Blk (e:TypeId) (w:World) (g:Nat) (zs:List Int):Prop:=
 w.heap[g]?=some (.cells (zs.map (Value.int .u8)).toArray e (0,0))
theorem Byt.keep {w w':World} {a:Option Addr} {len:Nat} {zs:List Int} (h:Byt w a len zs) (hb:Below w.heap.size w w'):Byt w' a len zs:=by
 obtain ⟨h1,h2,h3⟩:=h;refine ⟨h1,h2,?_⟩;rcases h3 with h3 | ⟨b,off,rfl,hlt,hc⟩
 ·exact .inl h3
 ·exact .inr ⟨b,off,rfl,Nat.lt_of_lt_of_le hlt hb.size,fun i hi=>(hb.cell (p:=⟨b,off+i,none⟩) hlt).trans (hc i hi)⟩
theorem Blk.lt {e:TypeId} {w:World} {g:Nat} {zs:List Int} (h:Blk e w g zs):g<w.heap.size:=by
 unfold Blk at h;exact (Array.getElem?_eq_some_iff.1 h).1
theorem Blk.keep {e:TypeId} {B:Nat} {w w':World} {g:Nat} {zs:List Int} (h:Blk e w g zs) (hb:Below B w w') (hg:g<B):Blk e w' g zs:=by
 unfold Blk at *;rw [hb.block g hg,h]
theorem Blk.gb {e:TypeId} {w w':World} {g r:Nat} {zs:List Int} (h:Blk e w g zs) (hg:w.grownBy w' (some r)) (hne:g≠r):Blk e w' g zs:=by
 have hlt:=h.lt;unfold Blk at *;rw [hg.block g hlt (by simpa using hne),h]
theorem Below.gb {B:Nat} {a w w':World} {r:Nat} (h:Below B a w) (hg:w.grownBy w' (some r)) (hB:B<=r) (hr:r<w.heap.size):Below B a w':=
 h.grown hg (by omega) (fun k hk=>by cases hk;exact hB)
theorem Blk.cell {e:TypeId} {w:World} {g:Nat} {zs:List Int} (h:Blk e w g zs) (i:Nat) (hi:i<zs.length):w.cell? (AD g i)=some (.int .u8 (zs[i]?.getD 0)):=by
 unfold Blk at h;simp [World.cell?,h,hi]
theorem Blk.free {e:TypeId} {w:World} {g:Nat} {zs:List Int} (h:Blk e w g zs) (i:Nat):w.frozen? (AD g i)=false:=by
 unfold Blk at h;simp [World.frozen?,h]
theorem Blk.byt {e:TypeId} {w:World} {g:Nat} {zs:List Int} (h:Blk e w g zs) (hz:∀i:Nat,0<=zs[i]?.getD 0∧zs[i]?.getD 0<=255):Byt w (some (AD g 0)) zs.length zs:=
 ⟨rfl,hz,.inr ⟨g,0,rfl,h.lt,fun i hi=>by simpa using h.cell i hi⟩⟩
theorem Blk.store {e:TypeId} {w:World} {g:Nat} {zs:List Int} (h:Blk e w g zs) (i:Nat) (z:Int):Blk e (w.setCell (AD g i) (.int .u8 z)) g (zs.set i z):=by
 have hlt:=h.lt;unfold Blk at *;simp [World.setCell,Array.getElem?_modify,h]
theorem Blk.of_own {e:TypeId} {w:World} {base g n:Nat} {zs:List Int} {cap:Nat} (h:w.ownsRow base e 1 (SL g n cap) n (zs.map (Value.int .u8))) (hc:cap=n):Blk e w g zs:=by
 obtain ⟨h1,h2⟩:=h;rcases h2 with ⟨h2,_⟩ | ⟨g',cap',cur,h2,hb,hh,hn,hm,hs,ht⟩
 ·simp at h2
 ·simp at h2;obtain ⟨rfl,rfl⟩:=h2;unfold Blk;rw [hh];have:cur=(zs.map (Value.int .u8)).toArray:=by
   rw [<-ht,List.take_of_length_le (by simp;omega)]
  rw [this]
theorem jP (v:World) (cs:Array Value) (t:TypeId):v.heap.size<(v.alloc (.cells cs t)).heap.size∧(∀i,(v.alloc (.cells cs t)).cell? (AD v.heap.size i)=cs[i]?)∧Below v.heap.size v (v.alloc (.cells cs t)):=
 ⟨by simp,fun i=>World.cell?_alloc_at _ _ _ _ rfl,(Below.refl _ _).alloc (Nat.le_refl _) _⟩
abbrev Bw (a b:World):Prop:=Below a.heap.size a b
theorem bdr (w:World):Below w.heap.size w w.drew:=(Below.refl _ _).drew
theorem hid {p:Prop} (h:p):Hid p:=h
theorem Below.step {B:Nat} {a b c:World} (h:Below B a b) (k:Below b.heap.size b c) (hB:B<=a.heap.size):Below B a c:=h.trans (k.mono (Nat.le_trans hB h.size))
theorem bst {a b c:World} (h:Below a.heap.size a b) (k:Below b.heap.size b c):Below a.heap.size a c:=Below.step h k (Nat.le_refl _)
theorem nle {n:Nat}:n<=n:=Nat.le_refl _
theorem ltl {a b c:Nat} (h:a<b) (k:b<=c):a<c:=Nat.lt_of_lt_of_le h k
theorem geg {α:Type} {l:List α} {i:Nat} (h:i<l.length):l[i]?=some l[i]:=List.getElem?_eq_getElem h
theorem brf {B:Nat} {w:World}:Below B w w:=Below.refl _ _
theorem hpl {α:Type} {xs:Array α} {i:Nat} {o:α} (h:xs[i]?=some o):i<xs.size:=(Array.getElem?_eq_some_iff.1 h).1
theorem Below.cell2 {w w':World} (h:Below w.heap.size w w') {b o:Nat} {x:Option Value} (hc:w.cell? (AD b o)=x) (hb:b<w.heap.size):w'.cell? (AD b o)=x:=(h.cell (p:=(AD b o)) hb).trans hc
theorem bF (w:World) (A:Array Value) (T:TypeId):(w.alloc (.cells A T)).heap[w.heap.size]?=some (.cells A T (0,0))∧(w.alloc (.cells A T)).heap.size=w.heap.size+1∧Bw w (w.alloc (.cells A T)):=
 ⟨fC w _,by simp,(Below.refl _ _).alloc nle _⟩
theorem ax1 (w:World) (A:Array Value) (T:TypeId):∃v,Hid (w.alloc (.cells A T)=v)∧v.heap[w.heap.size]?=some (.cells A T (0,0))∧v.heap.size=w.heap.size+1∧Bw w v:=
 ⟨_,hid rfl,bF w A T⟩
theorem ax2 (w:World) (A B:Array Value) (T U:TypeId):∃v,Hid ((w.alloc (.cells A T)).alloc (.cells B U)=v)∧v.heap[w.heap.size]?=some (.cells A T (0,0))∧v.heap[w.heap.size+1]?=some (.cells B U (0,0))∧v.heap.size=w.heap.size+2∧Bw w v:=by
 obtain ⟨h1,h2,h3⟩:=bF w A T;obtain ⟨k1,k2,k3⟩:=bF (w.alloc (.cells A T)) B U;rw [h2] at k1 k2;exact ⟨_,hid rfl,by rw [k3.block _ (by omega),h1],k1,k2,bst h3 k3⟩
theorem jW (w:World) (A B:Array Value) (T U:TypeId):((w.alloc (.cells A T)).alloc (.cells B U)).heap[w.heap.size]?=some (.cells A T (0,0))∧((w.alloc (.cells A T)).alloc (.cells B U)).heap[w.heap.size+1]?=some (.cells B U (0,0))∧((w.alloc (.cells A T)).alloc (.cells B U)).heap.size=w.heap.size+2∧Bw w ((w.alloc (.cells A T)).alloc (.cells B U)):=by
 obtain ⟨v,h,F⟩:=ax2 w A B T U;rw [h.out];exact F
theorem ax3 (w:World) (A B C:Array Value) (T U S:TypeId):∃v,Hid (((w.alloc (.cells A T)).alloc (.cells B U)).alloc (.cells C S)=v)∧v.heap[w.heap.size]?=some (.cells A T (0,0))∧v.heap[w.heap.size+1]?=some (.cells B U (0,0))∧v.heap[w.heap.size+2]?=some (.cells C S (0,0))∧v.heap.size=w.heap.size+3∧Bw w v:=by
 obtain ⟨v,h,h1,h2,h3,h4⟩:=ax2 w A B T U;obtain ⟨k1,k2,k3⟩:=bF v C S;rw [h3] at k1 k2;rw [h.out];exact ⟨_,hid rfl,by rw [k3.block _ (by omega),h1],by rw [k3.block _ (by omega),h2],k1,k2,bst h4 k3⟩
theorem al1 (w:World) (A:Array Value) (T:TypeId):∃v,Hid (w.alloc (.cells A T)=v)∧Bw w v∧Hid (v.heap[w.heap.size]?=some (.cells A T (0,0)))∧w.heap.size<v.heap.size:=by
 obtain ⟨v,h,F⟩:=ax1 w A T;exact ⟨v,h,F.2.2,F.1,by omega⟩
theorem al2 (w:World) (A B:Array Value) (T U:TypeId):∃v,Hid ((w.alloc (.cells A T)).alloc (.cells B U)=v)∧Bw w v∧Hid (v.heap[w.heap.size]?=some (.cells A T (0,0)))∧Hid (v.heap[w.heap.size+1]?=some (.cells B U (0,0)))∧w.heap.size+1<v.heap.size:=by
 obtain ⟨v,h,F⟩:=ax2 w A B T U;exact ⟨v,h,F.2.2.2,F.1,F.2.1,by omega⟩
theorem al3 (w:World) (A B C:Array Value) (T U S:TypeId):∃v,Hid (((w.alloc (.cells A T)).alloc (.cells B U)).alloc (.cells C S)=v)∧Bw w v∧Hid (v.heap[w.heap.size]?=some (.cells A T (0,0)))∧Hid (v.heap[w.heap.size+1]?=some (.cells B U (0,0)))∧Hid (v.heap[w.heap.size+1+1]?=some (.cells C S (0,0)))∧w.heap.size+1+1<v.heap.size:=by
 obtain ⟨v,h,F⟩:=ax3 w A B C T U S;exact ⟨v,h,F.2.2.2.2,F.1,F.2.1,F.2.2.1,by omega⟩
def OwnB (e:TypeId) (w:World) (base g n cap:Nat) (zs:List Int):Prop:=
 w.ownsRow base e 1 (SL g n cap) n (zs.map (Value.int .u8))
theorem OwnB.new (e:TypeId) (w:World) (zs:List Int) (n:Nat) (hn:zs.length=n) (hm:n<=maxLen):OwnB e (w.alloc (.cells (zs.map (Value.int .u8)).toArray e)) w.heap.size w.heap.size n n zs:=
 ⟨by simp [hn],.inr ⟨w.heap.size,n,_,rfl,Nat.le_refl _,fC w _,Nat.le_refl _,hm,by simp [hn],List.take_of_length_le (by simp [hn])⟩⟩
theorem OwnB.facts {e:TypeId} {w:World} {base g n cap:Nat} {zs:List Int} (h:OwnB e w base g n cap zs):
 zs.length=n∧base<=g∧g<w.heap.size∧n<=cap∧cap<=maxLen:=by
 obtain ⟨h1,h2⟩:=h;rcases h2 with ⟨h2,_⟩ | ⟨g',cap',cur,h2,hb,hh,hn,hm,hs,ht⟩
 ·simp at h2
 ·simp at h2;obtain ⟨rfl,rfl⟩:=h2;exact ⟨by simpa using h1,hb,(Array.getElem?_eq_some_iff.1 hh).1,hn,hm⟩
theorem OwnB.cell {e:TypeId} {w:World} {base g n cap:Nat} {zs:List Int} (h:OwnB e w base g n cap zs) (i:Nat) (hi:i<n):w.cell? (AD g i)=some (.int .u8 (zs[i]?.getD 0)):=by
 have hl:=h.facts.1;have:=World.ownsRow.cellAt h i (by omega);rw [this];simp [show i<zs.length by omega]
theorem OwnB.byt {e:TypeId} {w:World} {base g n cap:Nat} {zs:List Int} (h:OwnB e w base g n cap zs) (hz:∀i:Nat,0<=zs[i]?.getD 0∧zs[i]?.getD 0<=255):Byt w (some (AD g 0)) n zs:=
 ⟨h.facts.1,hz,.inr ⟨g,0,rfl,h.facts.2.2.1,fun i hi=>by simpa using h.cell i hi⟩⟩
theorem OwnB.keep {e:TypeId} {B:Nat} {w w':World} {base g n cap:Nat} {zs:List Int} (h:OwnB e w base g n cap zs) (hb:Below B w w') (hg:g<B):OwnB e w' base g n cap zs:=by
 obtain ⟨h1,h2⟩:=h;refine ⟨h1,?_⟩;rcases h2 with ⟨h2,_⟩ | ⟨g',cap',cur,h2,hb',hh,r⟩
 ·simp at h2
 ·have hh':=h2;simp at hh';obtain ⟨rfl,rfl⟩:=hh';exact .inr ⟨_,_,cur,h2,hb',by rw [hb.block _ hg];exact hh,r⟩
theorem OwnB.low {e:TypeId} {w:World} {base base' g n cap:Nat} {zs:List Int} (h:OwnB e w base g n cap zs) (hb:base'<=base):OwnB e w base' g n cap zs:=by
 obtain ⟨h1,h2⟩:=h;refine ⟨h1,?_⟩;rcases h2 with ⟨h2,_⟩ | ⟨g',cap',cur,h2,hb',r⟩
 ·simp at h2
 ·exact .inr ⟨g',cap',cur,h2,by omega,r⟩
theorem OwnB.of_append {e:TypeId} {w':World} {base g n cap m:Nat} {v':Value} {xs ys:List Int} (h:w'.ownsRow base e 1 v' (n+m) (xs.map (Value.int .u8)++ys.map (Value.int .u8)))
 (hv:v'=SN↔(SL g n cap)=SN∧m=0):∃g' cap',v'=SL g' (n+m) cap'∧OwnB e w' base g' (n+m) cap' (xs++ys):=by
 rcases h.2 with ⟨h2,_⟩ | ⟨g',cap',cur,h2,r⟩
 ·have:=hv.1 h2;simp at this
 ·refine ⟨g',cap',h2,?_⟩;subst h2;unfold OwnB;rw [List.map_append];exact h
theorem OwnB.grown {e:TypeId} {B:Nat} {a w w':World} {base g n cap:Nat} {zs:List Int} (h:Below B a w) (o:OwnB e w base g n cap zs) (hg:w.grownBy w' (SL g n cap).ownBlock) (hB:B<=base):Below B a w':=by
 have f:=o.facts;exact h.grown hg (by omega) (fun k hk=>by cases hk;show B<=g;omega)
theorem zP {a:Option Addr} {n m c:Nat} (h:n=m):Ending.returned (.slice a n c)=.returned (.slice a m c):=by rw [h]
theorem vV (zs:List Int):∀u∈zs.map (Value.int .u8),u.oneCell'=true:=by
 intro u hu;simp at hu;obtain ⟨z,_,rfl⟩:=hu;rfl
theorem zQ {w:World} {b off n:Nat} {zs:List Int} (h:Byt w (some (AD b off)) n zs):∀j u,(zs.map (Value.int .u8))[j]?=some u->w.cell? (Addr.add (AD b off) j)=some u:=by
 intro j u hu;obtain ⟨h1,_,h3⟩:=h;simp at hu;obtain ⟨z,hz,rfl⟩:=hu;have hj:j<zs.length:=(List.getElem?_eq_some_iff.1 hz).1;rcases h3 with h3 | ⟨b',off',e,_,hc⟩
 ·omega
 ·simp at e;obtain ⟨rfl,rfl⟩:=e;have:=hc j (by omega);have e:Addr.add (AD b off) j=⟨b,off+j,none⟩:=by
   unfold Addr.add;split
   ·next h=>subst h;rfl
   ·rfl
  rw [e,this,hz];rfl
theorem dC {P:Program} (w:World) {ops:Array Oper} {rest:List Oper} {o:Oper} {a:Act} {Q:Exit->Act->World->Prop} (hgd:o.guard=none) (s x:Operand) (t:TypeId)
 (ho:o.op=.call { callee:=.builtin .append,args:=#[s,x],argTypes:=#[t,t] }) (e:TypeId) (ht:P.underlying t=some (.slice e))
 (hi:(P.info? e).map (fun i=>(i.zero,i.size,i.bytes))=some (some (.int .u8 0),1,1))
 (base g n cap:Nat) (zs:List Int) (hs:a.eval s=SL g n cap) (hown:OwnB e w base g n cap zs)
 (b off m c:Nat) (ys:List Int) (hx:a.eval x=.slice (some (AD b off)) m c) (hy:Byt w (some (AD b off)) m ys) (hbd:n+m<=2147483648)
 (B:Nat) (W:World) (hb:Below B W w) (hB:B<=base)
 (h:∀g' cap' w',OwnB e w' base g' (n+m) cap' (zs++ys)->Below B W w'->wpList P ops Q rest (a.put o.dst (SL g' (n+m) cap')) w'):wpList P ops Q (o::rest) a w:=by
 obtain ⟨i0,hi,hz0,hz1,hz2⟩:=info_parts hi;have f:=hown.facts;refine wpList_append_own w hgd s x t ho base e i0 (.int .u8 0) 1 1 ht hi hz0 hz1 hz2 rfl (by decide) _ n _ hs hown (AD b off) m c (ys.map (Value.int .u8)) hx (by simp [hy.1]) (zQ hy) (vV _) (by unfold maxLen;omega) (by omega) (by omega) ?_;intro v' w' h1 h2 h3;obtain ⟨g',cap',rfl,o4⟩:=OwnB.of_append h1 h3;exact h g' cap' w' o4 (OwnB.grown hb hown h2 hB)
theorem Byt.of_row {w:World} {a:Option Addr} {len cap:Nat} {zs:List Int}
 (h:(a=none∧len=0∧cap=0∧zs=[])∨
   ∃x,a=some x∧len<=cap∧cap<=maxLen∧zs.length=cap∧(∀i,i<zs.length->w.cell? (x.add i)=some (.int .u8 (zs.getD i 0)))∧∀n∈zs,(Lit.int .u8 n).wf=true):
 Byt w a len (zs.take len)∧len<=cap∧cap<=9223372036854775807:=by
 rcases h with ⟨rfl,rfl,rfl,rfl⟩ | ⟨x,rfl,hl,hm,hz,hcell,hwz⟩
 ·exact ⟨⟨rfl,fun i=>by simp,.inl rfl⟩,by omega,by omega⟩
 ·refine ⟨⟨by simp;omega,fun i=>?_,?_⟩,hl,by unfold maxLen at hm;omega⟩
  ·by_cases hi:i<len
   ·have:=bounds_u8 (hwz (zs[i]'(by omega)) (List.getElem_mem _));simp [hi,show i<zs.length by omega];omega
   ·simp [List.getElem?_take,hi]
  ·by_cases h0:len=0
   ·exact .inl h0
   ·obtain ⟨b,off,spot⟩:=x;have hc:=hcell 0 (by omega);have hspot:spot=none:=by simpa [Addr.add] using World.cell?_spot hc
    subst hspot;refine .inr ⟨b,off,rfl,?_,fun i hi=>?_⟩
    ·have hc0:w.cell? (AD b off)=some (.int .u8 (zs.getD 0 0)):=by simpa [Addr.add] using hc
     unfold World.cell? at hc0;split at hc0
     ·next he=>exact (Array.getElem?_eq_some_iff.1 he).1
     ·cases hc0
    ·have hci:=hcell i (by omega);have e:Addr.add (AD b off) i=⟨b,off+i,none⟩:=by
      unfold Addr.add;split
      ·next h=>subst h;rfl
      ·rfl
     rw [e] at hci;simpa [List.getElem?_take,hi] using hci
theorem Bi (k:Nat) (ys zs:List Int) (hy:k<ys.length) (hz:k<zs.length) (h:∀j,j<k->ys[j]?=zs[j]?):∀j,j<k+1->(ys.set k zs[k])[j]?=zs[j]?:=by
 intro j hj;by_cases e:j=k
 ·subst e;simp [hy,hz]
 ·rw [List.getElem?_set_ne (by omega)];exact h j (by omega)
def fD (len:Nat) (addr n:Int):Bool:=decide (n<=len∧addr<=len-n)
def dO (len:Nat) (addr n:Int):Bool:=decide ((n=1∨n=2∨n=4∨n=8)∧n<=len∧addr<=len-n)
def num:List Int->Int
 | []=>0
 | b::r=>b+256*num r
theorem mx (len:Nat) (addr n:Int) (h:n=1∨n=2∨n=4∨n=8):fD len addr n=dO len addr n:=by
 simp [fD,dO,h]
theorem lN:∀(zs:List Int) (k:Nat),(∀z∈zs,0<=z∧z<=255)->zs.length<=k->0<=num zs∧num zs<256^k
 | [],k,_,_=>by simp [num];exact Int.pow_pos (by omega)
 | b::r,0,_,h=>by simp at h
 | b::r,k+1,hz,h=>by
  have ih:=lN r k (fun z hz'=>hz z (by simp [hz'])) (by simpa using h);have hb:=hz b (by simp);have e:(256:Int)^(k+1)=256^k*256:=Int.pow_succ _ _;simp only [num];omega
theorem EM {z:Int} {r:List Int} (h:∀i:Nat,0<=(z::r)[i]?.getD 0∧(z::r)[i]?.getD 0<=255):∀x∈r,0<=x∧x<=255:=by
 intro x hx;obtain ⟨i,hi,rfl⟩:=List.getElem_of_mem hx;simpa [hi] using h (i+1)
theorem ny (xs ys:List Int):num (xs++ys)=num xs+256^xs.length*num ys:=by
 induction xs with
 | nil=>simp [num]
 | cons x r ih=>
  simp only [List.cons_append,num,ih,List.length_cons,Int.pow_succ];rw [Int.mul_add,Int.add_assoc,Int.mul_comm (256^r.length) 256,Int.mul_assoc]
theorem EN (zs:List Int) (k:Nat) (h:k+2<=zs.length):num ((zs.drop k).take 2)=zs[k]?.getD 0+zs[k+1]?.getD 0*256:=by
 rw [List.drop_eq_getElem_cons (by omega),List.take_succ_cons,List.drop_eq_getElem_cons (by omega),List.take_succ_cons];simp [num,show k<zs.length by omega,show k+1<zs.length by omega,Int.mul_comm]
theorem xg (zs:List Int) (k m:Nat) (h:k+2*m<=zs.length):num ((zs.drop k).take (2*m))=num ((zs.drop k).take m)+num ((zs.drop (k+m)).take m)*256^m:=by
 have e:(zs.drop k).take (2*m)=(zs.drop k).take m++(zs.drop (k+m)).take m:=by
  rw [show 2*m=m+m by omega,List.take_add,List.drop_drop]
 rw [e,ny,List.length_take,List.length_drop,Nat.min_eq_left (by omega),Int.mul_comm]
theorem fY (zs:List Int) (k m:Nat) (h2:∀i:Nat,0<=zs[i]?.getD 0∧zs[i]?.getD 0<=255):0<=num ((zs.drop k).take m)∧num ((zs.drop k).take m)<256^m:=by
 refine lN _ m (fun z hz=>?_) (by simp;omega);have hz':=List.mem_of_mem_drop (List.mem_of_mem_take hz);obtain ⟨i,hi,rfl⟩:=List.getElem_of_mem hz';simpa [hi] using h2 i
def rdV (zs:List Int) (addr n:Int):Int:=if dO zs.length addr n then num ((zs.drop addr.toNat).take n.toNat) else 0
def bM:Int->Nat->List Int
 | _,0=>[]
 | x,n+1=>x%256::bM (x/256) n
theorem fR:∀(n:Nat) (x:Int),(bM x n).length=n
 | 0,_=>rfl
 | n+1,x=>by simp [bM,fR n]
theorem eB:∀(n:Nat) (x:Int) (z:Int),z∈bM x n->0<=z∧z<=255
 | 0,_,_,h=>by simp [bM] at h
 | n+1,x,z,h=>by
  simp [bM] at h;rcases h with rfl | h
  ·omega
  ·exact eB n _ z h
theorem bU {zs:List Int} (h:∀z∈zs,0<=z∧z<=255) (i:Nat):0<=zs[i]?.getD 0∧zs[i]?.getD 0<=255:=by
 by_cases hi:i<zs.length
 ·simpa [hi] using h _ (List.getElem_mem hi)
 ·simp [List.getElem?_eq_none (Nat.le_of_not_lt hi)]
def put (zs:List Int) (k:Nat) (ys:List Int):List Int:=zs.take k++ys++zs.drop (k+ys.length)
theorem Ai (zs:List Int) (k:Nat) (ys:List Int) (h:k+ys.length<=zs.length):(put zs k ys).length=zs.length:=by
 simp [put];omega
theorem EO (zs:List Int) (k:Nat) (z:Int) (h:k<zs.length):zs.set k z=put zs k [z]:=by
 rw [List.set_eq_take_append_cons_drop,if_pos h];simp [put]
theorem EP (zs:List Int) (k:Nat) (xs ys:List Int) (h:k+xs.length+ys.length<=zs.length):put (put zs k xs) (k+xs.length) ys=put zs k (xs++ys):=by
 have e1:(zs.take k++xs).length=k+xs.length:=by simp;omega
 have t1:(put zs k xs).take (k+xs.length)=zs.take k++xs:=by
  unfold put;rw [List.take_append_of_le_length (by omega),List.take_of_length_le (by omega)]
 have t2:(put zs k xs).drop (k+xs.length+ys.length)=zs.drop (k+xs.length+ys.length):=by
  unfold put;rw [List.drop_append,List.drop_of_length_le (by omega),e1,List.drop_drop,List.nil_append];congr 1;omega
 show (put zs k xs).take (k+xs.length)++ys++(put zs k xs).drop (k+xs.length+ys.length)=_;rw [t1,t2];simp [put,Nat.add_assoc]
theorem rV (m:Nat):∀(n:Nat) (x:Int),bM x (m+n)=bM x m++bM (x/256^m) n:=by
 induction m with
 | zero=>intro n x;simp [bM]
 | succ m ih=>
  intro n x;rw [show m+1+n=(m+n)+1 by omega];simp only [bM,ih,List.cons_append];rw [Int.pow_succ,Int.mul_comm,<-Int.ediv_ediv_of_nonneg (by omega:(0:Int)<=256)]
theorem Dc (zs:List Int) (k m n:Nat) (x:Int) (h:k+m+n<=zs.length):put (put zs k (bM x m)) (k+m) (bM (x/256^m) n)=put zs k (bM x (m+n)):=by
 have:=EP zs k (bM x m) (bM (x/256^m) n) (by simp [fR];omega);rw [fR] at this;rw [this,<-rV]
theorem gx {zs:List Int} (h:∀i:Nat,0<=zs[i]?.getD 0∧zs[i]?.getD 0<=255):∀z∈zs,0<=z∧z<=255:=by
 intro z hz;obtain ⟨i,hi,rfl⟩:=List.getElem_of_mem hz;simpa [hi] using h i
theorem AN (n:Nat):(madeCells #[Value.int .u8 0] n).toList=(List.replicate n (0:Int)).map (Value.int .u8):=by
 apply List.ext_getElem
 ·simp [madeCells]
 ·intro i h1 h2;simp [madeCells,Nat.mod_one]
theorem D7 {w:World} {a:Option Addr} {b off len:Nat} {z:Int} {r:List Int} (h2:∀i:Nat,0<=(z::r)[i]?.getD 0∧(z::r)[i]?.getD 0<=255) (hr:r.length=len) (hb:b<w.heap.size)
 (hc:∀i,i<len+1->w.cell? ⟨b,off+i,none⟩=some (.int .u8 ((z::r)[i]?.getD 0))) (ha:0<len->a=some ⟨b,off+1,none⟩):Byt w a len r:=by
 refine ⟨hr,fun i=>by simpa using h2 (i+1),?_⟩;by_cases h:len=0
 ·exact .inl h
 ·refine .inr ⟨b,off+1,ha (by omega),hb,fun i hi=>?_⟩;have:=hc (i+1) (by omega);simpa [Nat.add_assoc,Nat.add_comm 1 i] using this
theorem FE {w:World} {a:Option Addr} {b off len k n:Nat} {zs:List Int} (h2:∀i:Nat,0<=zs[i]?.getD 0∧zs[i]?.getD 0<=255) (hz:zs.length=len) (hb:b<w.heap.size) (hk:k+n<=len)
 (hc:∀i,i<len->w.cell? ⟨b,off+i,none⟩=some (.int .u8 (zs[i]?.getD 0))) (ha:0<n->a=some ⟨b,off+k,none⟩):Byt w a n ((zs.drop k).take n):=by
 refine ⟨by simp;omega,fun i=>?_,?_⟩
 ·by_cases h:i<n
  ·simpa [List.getElem?_take,h] using h2 (k+i)
  ·simp [List.getElem?_take,h]
 ·by_cases h:n=0
  ·exact .inl h
  ·refine .inr ⟨b,off+k,ha (by omega),hb,fun i hi=>?_⟩;have:=hc (k+i) (by omega);simpa [List.getElem?_take,hi,Nat.add_assoc] using this
theorem Byt.take {w:World} {a:Option Addr} {len:Nat} {zs:List Int} (h:Byt w a len zs) (k:Nat) (hk:k<=len):Byt w a k (zs.take k):=by
 obtain ⟨h1,h2,h3⟩:=h;refine ⟨by simp;omega,fun i=>?_,?_⟩
 ·by_cases hi:i<k
  ·simpa [List.getElem?_take,hi] using h2 i
  ·simp [List.getElem?_take,hi]
 ·rcases h3 with h3 | ⟨b,off,rfl,hb,hc⟩
  ·exact .inl (by omega)
  ·exact .inr ⟨b,off,rfl,hb,fun i hi=>by simpa [List.getElem?_take,hi] using hc i (by omega)⟩
theorem Byt.drop {w:World} {b off len:Nat} {zs:List Int} (h:Byt w (some (AD b off)) len zs) (k m:Nat) (hk:k<=len) (hm:m=len-k) (a:Option Addr) (ha:k<len->a=some ⟨b,off+k,none⟩):Byt w a m (zs.drop k):=by
 obtain ⟨h1,h2,h3⟩:=h;refine ⟨by clear h3;simp;omega,fun i=>by simpa using h2 (k+i),?_⟩;by_cases h0:m=0
 ·exact .inl h0
 ·rcases h3 with h3 | ⟨b',off',e,hb,hc⟩
  ·omega
  ·simp at e;obtain ⟨rfl,rfl⟩:=e;exact .inr ⟨b,off+k,ha (by omega),hb,fun i hi=>by simpa [Nat.add_assoc] using hc (k+i) (by omega)⟩
def Cel (w:World) (b off len:Nat) (zs:List Int):Prop:=
 zs.length=len∧(∀i:Nat,0<=zs[i]?.getD 0∧zs[i]?.getD 0<=255)∧∀i,i<len->w.cell? ⟨b,off+i,none⟩=some (.int .u8 (zs[i]?.getD 0))
theorem eV (s:Nat) (P x y:Int) (hP:P=2^s) (h0:0<=x) (h1:x<P) (h2:0<=y) (h3:y*P<18446744073709551616) (h4:x<18446744073709551616):bits .or .u64 x (y*P)=x+y*P:=by
 obtain ⟨a,rfl⟩:=Int.eq_ofNat_of_zero_le h0;obtain ⟨b,rfl⟩:=Int.eq_ofNat_of_zero_le h2;have e:(b:Int)*P=((2^s*b:Nat):Int):=by rw [hP];push_cast;rw [Int.mul_comm]
 rw [e] at h3 |-;rw [u64_or_nat a (2^s*b) (by omega) (by omega),Nat.or_comm,<-Nat.two_pow_add_eq_or_of_lt (by rw [hP] at h1;exact_mod_cast h1)]
 push_cast
 omega
theorem dN {a b:Int} (h:a=b):Ending.returned (VU a)=.returned (VU b):=by rw [h]
theorem Cel.of_byt {w:World} {b off len:Nat} {zs:List Int} (h:Byt w (some (AD b off)) len zs):Cel w b off len zs:=by
 obtain ⟨h1,h2,h3⟩:=h;refine ⟨h1,h2,fun i hi=>?_⟩;rcases h3 with h3 | ⟨b',off',e,hb,hc⟩
 ·omega
 ·simp at e;obtain ⟨rfl,rfl⟩:=e;exact hc i hi
theorem zX (ys zs:List Value) (h:ys.length=zs.length):splice ys 0 zs=zs:=by
 simp [splice,h]
theorem FG {w:World} {a:Option Addr} {n:Nat} {zs:List Int} (h:Byt w a n zs) (hp:0<n):∃ad,a=some ad∧∀j u,(zs.map (Value.int .u8))[j]?=some u->w.cell? (ad.add j)=some u:=by
 rcases h.2.2 with h3 | ⟨b,off,rfl,_,_⟩
 ·omega
 ·exact ⟨(AD b off),rfl,zQ h⟩
theorem ao (w:World) (r:Option Nat):w.grownBy w r:=⟨rfl,rfl,rfl,nle,fun _ _ _=>rfl⟩
theorem au {w v:World} {g:Nat} (h:w.grownBy v (some g)) (i:Nat) (u:Value):w.grownBy (v.setCell (AD g i) u) (some g):=
 ⟨h.os,h.tape,h.output,by simpa [World.setCell] using h.size,fun k hk hn=>by
  rw [Below.heap_setCell _ _ _ _ (by intro e;exact hn (by rw [e]))];exact h.block k hk hn⟩
theorem Byt.gb {w w':World} {b off len g:Nat} {zs:List Int} (h:Byt w (some (AD b off)) len zs) (hg:w.grownBy w' (some g)) (hne:b≠g):Byt w' (some (AD b off)) len zs:=by
 obtain ⟨h1,h2,h3⟩:=h;refine ⟨h1,h2,?_⟩;rcases h3 with h3 | ⟨b',off',e,hlt,hc⟩
 ·exact .inl h3
 ·simp at e;obtain ⟨rfl,rfl⟩:=e;exact .inr ⟨b,off,rfl,ltl hlt hg.size,fun i hi=>(World.cell?_of_block (hg.block b hlt (by simpa using hne))).trans (hc i hi)⟩
theorem eJ (k:Nat) (x m:Int) (hm:m=2^k-1) (hk:m<18446744073709551616) (h0:0<=x) (h1:x<=18446744073709551615):bits .and .u64 x m=x%2^k:=by
 obtain ⟨a,rfl⟩:=Int.eq_ofNat_of_zero_le h0;have hp:1<=(2^k:Nat):=Nat.one_le_two_pow;have e:m=((2^k-1:Nat):Int):=by rw [hm];push_cast [hp];rfl
 rw [e] at hk |-;rw [u64_and_nat a (2^k-1) (by omega) (by omega),Nat.and_two_pow_sub_one_eq_mod]
 push_cast
 rfl
theorem Tryz.infoB:(Tryz.prog.info? 5).map (fun i=>(i.zero,i.size,i.bytes))=some (some (.int .u8 0),1,1):=by kernel_rfl
theorem lY (a:Option Addr) (len cap:Nat) (zs:List Int) (w:World) (h:Byt w a len zs) (hl:len<=1048576):
 Calls Tryz.prog 6 #[.slice a len cap] w fun e w'=>
  e=.returned (SL w.heap.size len len)∧Blk 5 w' w.heap.size zs∧Bw w w':=by
 obtain ⟨i0,hi,hz0,hz1,hz2⟩:=info_parts Tryz.infoB;obtain ⟨h1,h2,h3⟩:=h;go_enter Tryz.func6,Tryz.ntmps6;go_wp2_with (at_make;refine wpList_make_full _ rfl _ _ 22 rfl w.heap.size 5 i0 (.int .u8 0) 1 Tryz.underlying22 hi hz0 hz1 _ _ _ _ len rfl rfl rfl rfl ?b2 ?b3 nle ?_)
 case b2=>rw [hz2];omega
 case b3=>unfold maxLen;omega
 intro w0 hown0 hgrow0;rw [AN] at hown0;have hb0:=Blk.of_own hown0 rfl;have hn0:Bw w w0:=(brf).grown hgrow0 nle (fun k h=>by cases h);clear hown0 hgrow0;go_wp2;go_loopw [4] (fun i wr=>∃(k:Nat) (ys:List Int),k<=len∧i=VI k∧ys.length=len∧(∀j,j<k->ys[j]?=zs[j]?)∧Blk 5 wr w.heap.size ys∧Bw w wr) (fun i _=>len-(intOf i).toNat)
 case atStart=>exact ⟨0,_,Nat.zero_le _,rfl,by simp,fun j hj=>absurd hj (by omega),hb0,hn0⟩
 case round=>
  obtain ⟨k,ys,hk,rfl,hy,hyz,hb,hn⟩:=hrel;by_cases hlt:k<len
  ·rcases h3 with h3 | ⟨b,off,rfl,hbw,hc⟩
   ·omega
   have g1:=(hn.cell (by exact hbw)).trans (hc k hlt);have g2:=hb.cell k (by omega);have g3:=hb.free k;have g4:=h2 k;have HZ:=hid hyz;clear hc hb0 hn0 hyz;go_wp2;go_roundw
   case rel=>exact ⟨k+1,_,by omega,by go_num,by simp [hy],Bi k ys zs (by omega) (by omega) HZ.out,hb.store k _,hn.setCell nle _⟩
   case measure=>simp [intOf];omega
  ·have hyy:ys=zs:=by
    apply List.ext_getElem?;intro j;by_cases hj:j<len
    ·exact hyz j (by omega)
    ·rw [List.getElem?_eq_none (by omega),List.getElem?_eq_none (by omega)]
   subst hyy;clear hyz hb0 hn0 h3;go_wp2;go_ret;exact ⟨rfl,hb,hn⟩
theorem vO (a b:Option Addr) (len ca cb:Nat) (zs:List Int) (w:World) (h:Byt w a len zs) (h':Byt w b len zs) (hl:len<=1048576):
 Calls Tryz.prog 9 #[.slice a len ca,.slice b len cb] w fun e w'=>e=.returned (.bool true)∧Bw w w':=by
 obtain ⟨h1,h2,h3⟩:=h;obtain ⟨_,_,k3⟩:=h';go_enter Tryz.func9,Tryz.ntmps9;go_wp2;go_loopw [5] (fun i wr=>∃(k:Nat),k<=len∧i=VI k∧∃n,wr=w.drewN n) (fun i _=>len-(intOf i).toNat)
 case atStart=>exact ⟨0,Nat.zero_le _,rfl,0,rfl⟩
 case round=>
  obtain ⟨k,hk,rfl,n,rfl⟩:=hrel;by_cases hlt:k<len
  ·rcases h3 with h3 | ⟨b1,o1,rfl,hb1,hc1⟩
   ·omega
   rcases k3 with k3 | ⟨b2,o2,rfl,hb2,hc2⟩
   ·omega
   have g1:=hc1 k hlt;have g2:=hc2 k hlt;clear hc1 hc2;go_wp2;go_quiet (fail);go_wp2;go_roundw
   case rel=>exact ⟨k+1,by omega,by go_num,n+nq,rfl⟩
   case measure=>simp [intOf];omega
  ·clear h3 k3;go_wp2;go_ret;exact ⟨rfl,below_drewN brf _⟩
theorem oL (a:Option Addr) (len cap:Nat) (addr n:Int) (w:World) (hl:len<=1048576) (h0:0<=addr) (h1:addr<=18446744073709551615) (h2:0<=n) (h3:n<=9223372036854775807):
 Calls Tryz.prog 122 #[.slice a len cap,VU addr,VI n] w fun e w'=>e=.returned (.bool (fD len addr n))∧w'=w:=by
 by_cases hn:n<=len
 ·go_enter Tryz.func122,Tryz.ntmps122;go_wp2;go_ret;exact ⟨by simp [fD,hn],rfl⟩
 ·go_enter Tryz.func122,Tryz.ntmps122;go_wp2;go_ret;exact ⟨by simp [fD];omega,rfl⟩
theorem rW (a:Option Addr) (len cap:Nat) (addr n:Int) (w:World) (hl:len<=1048576) (h0:0<=addr) (h1:addr<=18446744073709551615) (h3:n<=9223372036854775807):
 Calls Tryz.prog 93 #[.slice a len cap,VU addr,VI n] w fun e w'=>e=.returned (.bool (dO len addr n))∧w'=w:=by
 by_cases hn:n=1∨n=2∨n=4∨n=8
 ·rw [<-mx len addr n hn];rcases hn with rfl | rfl | rfl | rfl;all_goals
   go_enter Tryz.func93,Tryz.ntmps93;go_wp2_with (go_at_call 122;refine (oL _ _ _ _ _ _ hl h0 h1 (by omega) (by omega)).mono ?_;rintro e w' ⟨rfl,rfl⟩);go_ret;exact ⟨rfl,rfl⟩
 ·have n1:(n != 1)=true:=by rw [bne_iff_ne];omega
  have n2:(n != 2)=true:=by rw [bne_iff_ne];omega
  have n4:(n != 4)=true:=by rw [bne_iff_ne];omega
  have n8:(n != 8)=true:=by rw [bne_iff_ne];omega
  have hg:dO len addr n=false:=by simp [dO];omega
  rw [hg];clear hn hg;go_enter Tryz.func93,Tryz.ntmps93;go_wp2;go_ret;exact ⟨rfl,rfl⟩
theorem kG (zs:List Int):∀(a:Option Addr) (len cap:Nat) (w:World),Byt w a len zs->len<=8->len<=cap->cap<=9223372036854775807->
 Calls Tryz.prog 63 #[.slice a len cap] w fun e w'=>e=.returned (VU (num zs))∧∃n,w'=w.drewN n:=by
 induction zs with
 | nil=>
  intro a len cap w h h8 hc hm;obtain ⟨h1,h2,h3⟩:=h;simp at h1;subst h1;clear h2 h3;go_enter Tryz.func63,Tryz.ntmps63;go_wp2;go_ret;exact ⟨rfl,0,rfl⟩
 | cons z r ih=>
  intro a len cap w h h8 hc hm;obtain ⟨h1,h2,h3⟩:=h;simp at h1;obtain ⟨len',rfl⟩:∃m,len=m+1:=⟨r.length,h1.symm⟩;rcases h3 with h3 | ⟨b,off,rfl,hb,hcl⟩
  ·omega
  have hcell:w.cell? (AD b off)=some (.int .u8 z):=by simpa using hcl 0 (by omega)
  have hz:0<=z∧z<=255:=by simpa using h2 0
  have hnb:=lN r 7 (EM h2) (by omega);simp at hnb;have hpos:((len':Int)+1 == 0)=false:=by simp;omega
  have hs1:(1:Int)<=(len':Int)+1:=by omega
  have hs2:(1:Int)<=((len'+1:Nat):Int):=by omega
  have h1':r.length=len':=by omega
  have hby:∀n,Byt (w.drewN n) (if cap=1 then some (AD b off) else some ⟨b,off+1,none⟩) len' r:=fun n=>
   D7 h2 h1' hb hcl (fun h=>if_neg (by omega))
  have IH:Hid (∀(a:Option Addr) (len cap:Nat) (w:World),Byt w a len r->len<=8->len<=cap->cap<=9223372036854775807->
   Calls Tryz.prog 63 #[.slice a len cap] w fun e w'=>e=.returned (VU (num r))∧∃n,w'=w.drewN n):=ih
  have HB:=hid hby;clear ih hcl h2 h1 h1' hby;go_enter Tryz.func63,Tryz.ntmps63;go_wp2;go_quiet ((go_at_call 63;exact Calls.quiet_of (IH.out _ _ _ _ (HB.out _) (by omega) (by omega) (by omega))));go_wp2_with fail;all_goals
   go_ret;exact ⟨rfl,nq,rfl⟩
theorem gK (a:Option Addr) (len cap:Nat) (zs:List Int) (addr n:Int) (w:World) (h:Byt w a len zs) (hl:len<=1048576) (hc:len<=cap) (hm:cap<=9223372036854775807)
 (h0:0<=addr) (h1:addr<=18446744073709551615) (h3:n<=9223372036854775807):
 Calls Tryz.prog 69 #[.slice a len cap,VU addr,VI n] w fun e w'=>e=.returned (.agg #[.bool (dO len addr n),VU (rdV zs addr n)])∧Bw w w':=by
 obtain ⟨hz,h2,hy⟩:=h;cases hg:dO len addr n
 ·have hv:rdV zs addr n=0:=by simp [rdV,hz,hg]
  rw [hv];have HG:=hid hg;clear hg hv hy h2;go_enter Tryz.func69,Tryz.ntmps69;go_wp2_with (go_at_call 93;refine (rW _ _ _ _ _ _ hl h0 h1 h3).mono ?_;rintro e w' ⟨rfl,rfl⟩;rw [HG.out]);exact bodyPost_ret (v:=.agg #[.bool false,VU 0]) (by simp [results,Tryz.results69,go_sem]) rfl ⟨rfl,((brf).alloc nle _)⟩
 ·have hv:rdV zs addr n=num ((zs.drop addr.toNat).take n.toNat):=by simp [rdV,hz,hg]
  rw [hv];have hg':=hg;simp only [dO,decide_eq_true_eq] at hg';obtain ⟨hn,hn1,hn2⟩:=hg';obtain ⟨k,rfl⟩:=Int.eq_ofNat_of_zero_le h0;rcases hy with hy | ⟨b,off,rfl,hb,hcl⟩
  ·omega
  obtain ⟨m,rfl⟩:=Int.eq_ofNat_of_zero_le (show 0<=n by omega);have hm8:m<=8:=by omega
  have hm0:0<m:=by omega
  have hkm:k+m<=len:=by omega
  have HG:=hid hg;have HS:Hid (∀w':World,Bw w w'->Byt w' (some ⟨b,off+k,none⟩) m ((zs.drop k).take m)):=fun w' hw=>
   Byt.keep (FE h2 hz hb hkm hcl (fun h=>rfl)) hw
  clear hg hv hcl h2 hn hz;go_enter Tryz.func69,Tryz.ntmps69;go_wp2_with (first
   | (go_at_call 93;refine (rW _ _ _ _ _ _ hl h0 h1 h3).mono ?_;rintro e w' ⟨rfl,rfl⟩;rw [HG.out])
   | fail)
  refine (kG ((zs.drop k).take m) _ _ _ _ (HS.out _ ((brf).alloc nle _)) hm8 (by omega) (by omega)).mono ?_;rintro e w' ⟨rfl,nq,rfl⟩;go_wp2_with fail;refine bodyPost_ret (v:=.agg #[.bool true,VU (num ((zs.drop k).take m))]) (by simp [results,Tryz.results69,go_sem]) rfl ⟨rfl,?_⟩;exact ((below_drewN ((brf).alloc nle _) _).setCell nle _).setCell nle _
def bJ (x p:Int):Bool:=x/p%2 == 1
def cR (va:Int):Bool:=va/16384%1125899906842624 == 0 || va/16384%1125899906842624 == 1125899906842623
def dA (pte:Int):Int:=pte/1024%17592186044416
def iK (level:Int):Int:=if level=0 then 1 else if level=1 then 8 else 64
def gV (level:Int):Int:=if level=0 then 64 else if level=1 then 512 else 4096
def aU (pte level:Int):Int:=
 if level<0∨2<level∨bJ pte 1=false∨0<pte/18014398509481984%1024∨(bJ pte 4=true∧bJ pte 2=false) then 0
 else if bJ pte 2=false∧bJ pte 4=false∧bJ pte 8=false then
  (if level=0∨bJ pte 16=true∨bJ pte 64=true∨bJ pte 128=true then 0 else 1)
 else if 0<dA pte%iK level then 0 else 2
def cG (pte kind mode:Int) (sum mxr:Bool):Bool:=
 (if kind=0 then bJ pte 8 else if kind=1 then bJ pte 2 || (mxr && bJ pte 8) else if kind=2 then bJ pte 4 && bJ pte 128 else false) &&
 (if mode=0 then bJ pte 16 else if mode=1 then !bJ pte 16 || (kind != 0 && sum) else false) && bJ pte 64
def fH (pte level va:Int):Int:=
 if level<0∨2<level then 0 else dA pte*64/gV level*gV level+va%gV level
end Go.Proofs.YthdgiakgepmabaaGreat
