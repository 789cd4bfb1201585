import Derived.WalkKit
import Derived.OpenShut
import Derived.Laws.BitsAllLaws
import Derived.Laws.AppendOwnNone
import Derived.Laws.CopyOwn
import Derived.Deep.QuietTactic
import Derived.BigQuiet
import Derived.WalkSmall
import Derived.Test.YtfgogedgolgnaaaRows
import Derived.Deep.RegionHeld3
import Derived.Deep.DrawnRows
import Derived.Deep.RegionLaw
namespace Go.Proofs.Ytfgogedgolgnaaa
open Go.RowKit
set_option linter.unusedVariables false
set_option maxHeartbeats 6400000
set_option maxRecDepth 20000
def Byt (w:World) (a:Option Addr) (len:Nat) (zs:List Int):Prop:=
 zs.length=len∧(∀i:Nat,0<=zs[i]?.getD 0∧zs[i]?.getD 0<=255)∧
 (len=0∨∃b off,a=some ⟨b,off,none⟩∧b<w.heap.size∧∀i,i<len->w.cell? ⟨b,off+i,none⟩=some (.int .u8 (zs[i]?.getD 0)))
def Blk (e:TypeId) (w:World) (g:Nat) (zs:List Int):Prop:=
 w.heap[g]?=some (.cells (zs.map (Value.int .u8)).toArray e (0,0))
theorem Byt.keep {w w':World} {a:Option Addr} {len:Nat} {zs:List Int} (h:Byt w a len zs) (hb:Below w.heap.size w w'):Byt w' a len zs:=by
 obtain ⟨h1,h2,h3⟩:=h;refine ⟨h1,h2,?_⟩;rcases h3 with h3 | ⟨b,off,rfl,hlt,hc⟩
 ·exact .inl h3
 ·exact .inr ⟨b,off,rfl,Nat.lt_of_lt_of_le hlt hb.size,fun i hi=>(hb.cell (p:=⟨b,off+i,none⟩) hlt).trans (hc i hi)⟩
theorem Blk.lt {e:TypeId} {w:World} {g:Nat} {zs:List Int} (h:Blk e w g zs):g<w.heap.size:=by
 unfold Blk at h;exact (Array.getElem?_eq_some_iff.1 h).1
theorem Blk.keep {e:TypeId} {B:Nat} {w w':World} {g:Nat} {zs:List Int} (h:Blk e w g zs) (hb:Below B w w') (hg:g<B):Blk e w' g zs:=by
 unfold Blk at *;rw [hb.block g hg,h]
theorem Blk.cell {e:TypeId} {w:World} {g:Nat} {zs:List Int} (h:Blk e w g zs) (i:Nat) (hi:i<zs.length):w.cell? ⟨g,i,none⟩=some (.int .u8 (zs[i]?.getD 0)):=by
 unfold Blk at h;simp [World.cell?,h,hi]
theorem Blk.free {e:TypeId} {w:World} {g:Nat} {zs:List Int} (h:Blk e w g zs) (i:Nat):w.frozen? ⟨g,i,none⟩=false:=by
 unfold Blk at h;simp [World.frozen?,h]
theorem Blk.of_own {e:TypeId} {w:World} {base g n:Nat} {zs:List Int} {cap:Nat} (h:w.ownsRow base e 1 (.slice (some ⟨g,0,none⟩) n cap) n (zs.map (Value.int .u8))) (hc:cap=n):Blk e w g zs:=by
 obtain ⟨h1,h2⟩:=h;rcases h2 with ⟨h2,_⟩ | ⟨g',cap',cur,h2,hb,hh,hn,hm,hs,ht⟩
 ·simp at h2
 ·simp at h2;obtain ⟨rfl,rfl⟩:=h2;unfold Blk;rw [hh];have:cur=(zs.map (Value.int .u8)).toArray:=by
   rw [<-ht,List.take_of_length_le (by simp;omega)]
  rw [this]
theorem aY (v:World) (cs:Array Value) (t:TypeId):v.heap.size<(v.alloc (.cells cs t)).heap.size∧(∀i,(v.alloc (.cells cs t)).cell? ⟨v.heap.size,i,none⟩=cs[i]?)∧Below v.heap.size v (v.alloc (.cells cs t)):=
 ⟨by simp,fun i=>World.cell?_alloc_at _ _ _ _ rfl,(Below.refl _ _).alloc (Nat.le_refl _) _⟩
theorem Below.step {B:Nat} {a b c:World} (h:Below B a b) (k:Below b.heap.size b c) (hB:B<=a.heap.size):Below B a c:=h.trans (k.mono (Nat.le_trans hB h.size))
theorem Below.cell2 {w w':World} (h:Below w.heap.size w w') {b o:Nat} {x:Option Value} (hc:w.cell? ⟨b,o,none⟩=x) (hb:b<w.heap.size):w'.cell? ⟨b,o,none⟩=x:=(h.cell (p:=⟨b,o,none⟩) hb).trans hc
def OwnB (e:TypeId) (w:World) (base g n cap:Nat) (zs:List Int):Prop:=
 w.ownsRow base e 1 (.slice (some ⟨g,0,none⟩) n cap) n (zs.map (Value.int .u8))
theorem OwnB.new (e:TypeId) (w:World) (zs:List Int) (n:Nat) (hn:zs.length=n) (hm:n<=maxLen):OwnB e (w.alloc (.cells (zs.map (Value.int .u8)).toArray e)) w.heap.size w.heap.size n n zs:=
 ⟨by simp [hn],.inr ⟨w.heap.size,n,_,rfl,Nat.le_refl _,heap_alloc_new w _,Nat.le_refl _,hm,by simp [hn],List.take_of_length_le (by simp [hn])⟩⟩
theorem OwnB.facts {e:TypeId} {w:World} {base g n cap:Nat} {zs:List Int} (h:OwnB e w base g n cap zs):
 zs.length=n∧base<=g∧g<w.heap.size∧n<=cap∧cap<=maxLen:=by
 obtain ⟨h1,h2⟩:=h;rcases h2 with ⟨h2,_⟩ | ⟨g',cap',cur,h2,hb,hh,hn,hm,hs,ht⟩
 ·simp at h2
 ·simp at h2;obtain ⟨rfl,rfl⟩:=h2;exact ⟨by simpa using h1,hb,(Array.getElem?_eq_some_iff.1 hh).1,hn,hm⟩
theorem OwnB.cell {e:TypeId} {w:World} {base g n cap:Nat} {zs:List Int} (h:OwnB e w base g n cap zs) (i:Nat) (hi:i<n):w.cell? ⟨g,i,none⟩=some (.int .u8 (zs[i]?.getD 0)):=by
 have hl:=h.facts.1;have:=World.ownsRow.cellAt h i (by omega);rw [this];simp [show i<zs.length by omega]
theorem OwnB.keep {e:TypeId} {B:Nat} {w w':World} {base g n cap:Nat} {zs:List Int} (h:OwnB e w base g n cap zs) (hb:Below B w w') (hg:g<B):OwnB e w' base g n cap zs:=by
 obtain ⟨h1,h2⟩:=h;refine ⟨h1,?_⟩;rcases h2 with ⟨h2,_⟩ | ⟨g',cap',cur,h2,hb',hh,r⟩
 ·simp at h2
 ·have hh':=h2;simp at hh';obtain ⟨rfl,rfl⟩:=hh';exact .inr ⟨_,_,cur,h2,hb',by rw [hb.block _ hg];exact hh,r⟩
theorem OwnB.of_append {e:TypeId} {w':World} {base g n cap m:Nat} {v':Value} {xs ys:List Int} (h:w'.ownsRow base e 1 v' (n+m) (xs.map (Value.int .u8)++ys.map (Value.int .u8)))
 (hv:v'=.slice none 0 0↔(Value.slice (some ⟨g,0,none⟩) n cap)=.slice none 0 0∧m=0):∃g' cap',v'=.slice (some ⟨g',0,none⟩) (n+m) cap'∧OwnB e w' base g' (n+m) cap' (xs++ys):=by
 rcases h.2 with ⟨h2,_⟩ | ⟨g',cap',cur,h2,r⟩
 ·have:=hv.1 h2;simp at this
 ·refine ⟨g',cap',h2,?_⟩;subst h2;unfold OwnB;rw [List.map_append];exact h
theorem OwnB.grown {e:TypeId} {B:Nat} {a w w':World} {base g n cap:Nat} {zs:List Int} (h:Below B a w) (o:OwnB e w base g n cap zs) (hg:w.grownBy w' (Value.slice (some ⟨g,0,none⟩) n cap).ownBlock) (hB:B<=base):Below B a w':=by
 have f:=o.facts;exact h.grown hg (by omega) (fun k hk=>by cases hk;show B<=g;omega)
def put (zs:List Int) (k:Nat) (ys:List Int):List Int:=zs.take k++ys++zs.drop (k+ys.length)
theorem Byt.take {w:World} {a:Option Addr} {len:Nat} {zs:List Int} (h:Byt w a len zs) (k:Nat) (hk:k<=len):Byt w a k (zs.take k):=by
 obtain ⟨h1,h2,h3⟩:=h;refine ⟨by simp;omega,fun i=>?_,?_⟩
 ·by_cases hi:i<k
  ·simpa [List.getElem?_take,hi] using h2 i
  ·simp [List.getElem?_take,hi]
 ·rcases h3 with h3 | ⟨b,off,rfl,hb,hc⟩
  ·exact .inl (by omega)
  ·exact .inr ⟨b,off,rfl,hb,fun i hi=>by simpa [List.getElem?_take,hi] using hc i (by omega)⟩
theorem Byt.drop {w:World} {b off len:Nat} {zs:List Int} (h:Byt w (some ⟨b,off,none⟩) len zs) (k m:Nat) (hk:k<=len) (hm:m=len-k) (a:Option Addr) (ha:k<len->a=some ⟨b,off+k,none⟩):Byt w a m (zs.drop k):=by
 obtain ⟨h1,h2,h3⟩:=h;refine ⟨by clear h3;simp;omega,fun i=>by simpa using h2 (k+i),?_⟩;by_cases h0:m=0
 ·exact .inl h0
 ·rcases h3 with h3 | ⟨b',off',e,hb,hc⟩
  ·omega
  ·simp at e;obtain ⟨rfl,rfl⟩:=e;exact .inr ⟨b,off+k,ha (by omega),hb,fun i hi=>by simpa [Nat.add_assoc] using hc (k+i) (by omega)⟩
theorem cH {a b:Int} (h:a=b):Ending.returned (.int .u64 a)=.returned (.int .u64 b):=by rw [h]
theorem bi (w:World) (r:Option Nat):w.grownBy w r:=⟨rfl,rfl,rfl,Nat.le_refl _,fun _ _ _=>rfl⟩
theorem ap {w v:World} {g:Nat} (h:w.grownBy v (some g)) (i:Nat) (u:Value):w.grownBy (v.setCell ⟨g,i,none⟩ u) (some g):=
 ⟨h.os,h.tape,h.output,by simpa [World.setCell] using h.size,fun k hk hn=>by
  rw [Below.heap_setCell _ _ _ _ (by intro e;exact hn (by rw [e]))];exact h.block k hk hn⟩
theorem bX (k:Nat) (x m:Int) (hm:m=2^k-1) (hk:m<18446744073709551616) (h0:0<=x) (h1:x<=18446744073709551615):bits .and .u64 x m=x%2^k:=by
 obtain ⟨a,rfl⟩:=Int.eq_ofNat_of_zero_le h0;have hp:1<=(2^k:Nat):=Nat.one_le_two_pow;have e:m=((2^k-1:Nat):Int):=by rw [hm];push_cast [hp];rfl
 rw [e] at hk |-;rw [u64_and_nat a (2^k-1) (by omega) (by omega),Nat.and_two_pow_sub_one_eq_mod]
 push_cast
 rfl
def aK (x p:Int):Bool:=x/p%2 == 1
def bm (va:Int):Bool:=va/16384%1125899906842624 == 0 || va/16384%1125899906842624 == 1125899906842623
def ch (pte:Int):Int:=pte/1024%17592186044416
def bJ (level:Int):Int:=if level=0 then 1 else if level=1 then 8 else 64
def aL (pte level:Int):Int:=
 if level<0∨2<level∨aK pte 1=false∨0<pte/18014398509481984%1024∨(aK pte 4=true∧aK pte 2=false) then 0
 else if aK pte 2=false∧aK pte 4=false∧aK pte 8=false then
  (if level=0∨aK pte 16=true∨aK pte 64=true∨aK pte 128=true then 0 else 1)
 else if 0<ch pte%bJ level then 0 else 2
theorem fT (k:Nat) (h:k<=62):1<=(2:Int)^k∧(2:Int)^k<=4611686018427387904:=by
 have h1:(2:Nat)^k<=2^62:=Nat.pow_le_pow_right (by omega) h;have h2:1<=(2:Nat)^k:=Nat.one_le_two_pow;have e:(2:Int)^k=((2^k:Nat):Int):=by push_cast;rfl
 rw [e];omega
theorem aE {a b:Int} (h:a=b):Ending.returned (.int .i64 a)=.returned (.int .i64 b):=by rw [h]
theorem aj {a b:Bool} (h:a=b):Ending.returned (.bool a)=.returned (.bool b):=by rw [h]
theorem fn (k:Nat):∀(n:Int) (w:World),n<=k->k<=63->n.toNat=k->
 Calls Try.prog 63 #[.int .i64 n] w fun e w'=>e=.returned (.int .u64 (2^k))∧w'=w:=by
 induction k with
 | zero=>
  intro n w h h' h'';have hn:n<=0:=by omega
  go_enter Try.func63,Try.ntmps63;go_wp2_with fail;go_ret;exact ⟨rfl,rfl⟩
 | succ k ih=>
  intro n w h h' h'';have hn:¬n<=0:=by omega
  have hb:=fT k (by omega);have IH:Hid (∀(n:Int) (w:World),n<=k->k<=63->n.toNat=k->
   Calls Try.prog 63 #[.int .i64 n] w fun e w'=>e=.returned (.int .u64 (2^k))∧w'=w):=ih
  have HE:Hid ((2:Int)^(k+1)=2*2^k):=by show _=_;rw [Int.pow_succ,Int.mul_comm]
  rw [HE.out];clear ih HE;have H'':Hid (n.toNat=k+1):=h'';clear h'';generalize (2:Int)^k=p at *;go_enter Try.func63,Try.ntmps63;go_wp2_with fail;refine (IH.out (n-1) w (by omega) (by omega) (by have:=H''.out;omega)).mono ?_;rintro e w' ⟨rfl,rfl⟩;go_wp2_with fail;go_ret;exact ⟨rfl,rfl⟩
theorem aA (n p:Int) (w:World) (hn:n<=63) (hp:p=2^n.toNat):
 Calls Try.prog 63 #[.int .i64 n] w fun e w'=>e=.returned (.int .u64 p)∧w'=w:=by
 rw [hp];exact fn n.toNat n w (by omega) (by omega) rfl
theorem az (x i j p q:Int) (w:World) (h0:0<=x) (h1:x<=18446744073709551615) (hi:0<=i) (hi':i<=63) (hj:i<=j+1) (hj':j-i<=62) (hp:p=2^i.toNat) (hq:q=2^(j-i+1).toNat):
 Calls Try.prog 86 #[.int .u64 x,.int .i64 i,.int .i64 j] w fun e w'=>e=.returned (.int .u64 (x/p%q))∧∃n,w'=w.drewN n:=by
 have hp1:1<=p:=by rw [hp];exact Int.pow_pos (by omega:(0:Int)<2)
 have hq1:1<=q:=by rw [hq];exact Int.pow_pos (by omega:(0:Int)<2)
 have hxp:0<=x/p:=Int.ediv_nonneg h0 (by omega);have HP:Hid (p=2^i.toNat):=hp;have HQ:Hid (q=2^(j-i+1).toNat):=hq;clear hp hq;go_enter Try.func86,Try.ntmps86;go_wp2_with fail;go_quiet (first
  | (go_at_call_of 63 (Value.int IntKind.i64 i);exact Calls.quiet_of_same (aA i p _ (by omega) HP.out))
  | (go_at_call 63;exact Calls.quiet_of_same (aA (j-i+1) q _ (by omega) HQ.out)))
 go_wp2_with fail;go_ret;exact ⟨rfl,nq,rfl⟩
theorem aB (x i p:Int) (w:World) (h0:0<=x) (h1:x<=18446744073709551615) (hi:0<=i) (hi':i<=63) (hp:p=2^i.toNat):
 Calls Try.prog 64 #[.int .u64 x,.int .i64 i] w fun e w'=>e=.returned (.bool (aK x p))∧∃n,w'=w.drewN n:=by
 have HP:Hid (p=2^i.toNat):=hp;clear hp;go_enter Try.func64,Try.ntmps64;go_wp2_with fail;refine (az x i i p 2 w h0 h1 hi hi' (by omega) (by omega) HP.out (by rw [show i-i+1=1 by omega];rfl)).mono ?_;rintro e w' ⟨rfl,nq,rfl⟩;go_wp2_with fail;go_ret;exact ⟨rfl,nq,rfl⟩
theorem aW (x:Int) (w:World) (h0:0<=x) (h1:x<=18446744073709551615):
 Calls Try.prog 90 #[.int .u64 x] w fun e w'=>e=.returned (.int .u64 (ch x))∧∃n,w'=w.drewN n:=by
 go_enter Try.func90,Try.ntmps90;go_wp2_with fail;refine (az x 10 53 1024 17592186044416 w h0 h1 (by omega) (by omega) (by omega) (by omega) rfl rfl).mono ?_;rintro e w' ⟨rfl,nq,rfl⟩;go_wp2_with fail;go_ret;exact ⟨rfl,nq,rfl⟩
theorem cZ (x:Int) (w:World) (h0:0<=x) (h1:x<=18446744073709551615):
 Calls Try.prog 79 #[.int .u64 x] w fun e w'=>e=.returned (.bool (bm x))∧∃n,w'=w.drewN n:=by
 go_enter Try.func79,Try.ntmps79;go_wp2_with fail;refine (az x 14 63 16384 1125899906842624 w h0 h1 (by omega) (by omega) (by omega) (by omega) rfl rfl).mono ?_;rintro e w' ⟨rfl,nq,rfl⟩;by_cases ht:x/16384%1125899906842624=0
 ·have ht':(x/16384%1125899906842624 == 0)=true:=by simp [ht]
  clear ht;go_wp2_with fail;go_ret;exact ⟨by simp [bm,ht'],nq,rfl⟩
 ·have ht':(x/16384%1125899906842624 == 0)=false:=by simpa using ht
  clear ht;go_wp2_with (go_at_call 63;refine (aA 50 1125899906842624 _ (by omega) rfl).mono ?_;rintro e w' ⟨rfl,rfl⟩);go_ret;exact ⟨by simp [bm,ht'],nq,rfl⟩
theorem dF (pte level:Int) (w:World) (h0:0<=pte) (h1:pte<=18446744073709551615) (hl: -9223372036854775808<=level) (hl':level<=9223372036854775807):
 Calls Try.prog 65 #[.int .u64 pte,.int .i64 level] w fun e w'=>e=.returned (.int .i64 (aL pte level))∧∃n,w'=w.drewN n:=by
 go_enter Try.func65,Try.ntmps65;go_wp2_with fail;refine (aB pte 1 2 w h0 h1 (by omega) (by omega) rfl).mono ?_;rintro e w' ⟨rfl,n1,rfl⟩;go_wp2_with fail;refine (aB pte 2 4 _ h0 h1 (by omega) (by omega) rfl).mono ?_;rintro e w' ⟨rfl,n2,rfl⟩;go_wp2_with fail;refine (aB pte 3 8 _ h0 h1 (by omega) (by omega) rfl).mono ?_;rintro e w' ⟨rfl,n3,rfl⟩;go_wp2_with fail;refine (aB pte 4 16 _ h0 h1 (by omega) (by omega) rfl).mono ?_;rintro e w' ⟨rfl,n4,rfl⟩;go_wp2_with fail;refine (aB pte 6 64 _ h0 h1 (by omega) (by omega) rfl).mono ?_;rintro e w' ⟨rfl,n5,rfl⟩;go_wp2_with fail;refine (aB pte 7 128 _ h0 h1 (by omega) (by omega) rfl).mono ?_;rintro e w' ⟨rfl,n6,rfl⟩;by_cases hlev:0<=level∧level<=2
 ·obtain ⟨hl0,hl2⟩:=hlev;cases hV:aK pte 1
  ·go_wp2_with (first
    | (go_at_call 64;refine (aB pte 0 1 _ h0 h1 (by omega) (by omega) rfl).mono ?_;rintro e w' ⟨rfl,n7,rfl⟩;rw [hV]))
   go_ret;exact ⟨aE (by simp [aL,hV]),_,rfl⟩
  ·by_cases hres:0<pte/18014398509481984%1024
   ·go_wp2_with (first
     | (go_at_call 64;refine (aB pte 0 1 _ h0 h1 (by omega) (by omega) rfl).mono ?_;rintro e w' ⟨rfl,n7,rfl⟩;rw [hV])
     | (go_at_call 86;refine (az pte 54 63 18014398509481984 1024 _ h0 h1 (by omega) (by omega) (by omega) (by omega) rfl rfl).mono ?_;rintro e w' ⟨rfl,n8,rfl⟩))
    go_ret;exact ⟨aE (by simp [aL,hres]),_,rfl⟩
   ·have hres':decide (0<pte/18014398509481984%1024)=false:=by simpa using hres
    cases hr:aK pte 2 <;> cases hw:aK pte 4
    ·cases hx:aK pte 8
     ·cases hu:aK pte 16 <;> cases ha:aK pte 64 <;> cases hd:aK pte 128;all_goals
       rcases (show level=0∨level=1∨level=2 by omega) with rfl | rfl | rfl;all_goals
        go_wp2_with (first
         | (go_at_call 64;refine (aB pte 0 1 _ h0 h1 (by omega) (by omega) rfl).mono ?_;rintro e w' ⟨rfl,n7,rfl⟩;rw [hV])
         | (go_at_call 86;refine (az pte 54 63 18014398509481984 1024 _ h0 h1 (by omega) (by omega) (by omega) (by omega) rfl rfl).mono ?_;rintro e w' ⟨rfl,n8,rfl⟩))
        go_ret;exact ⟨aE (by simp [aL,hV,hr,hw,hx,hu,ha,hd,hres]),_,rfl⟩
     ·
      obtain ⟨t,ht⟩:∃t,ch pte=t:=⟨_,rfl⟩;have hpp:0<=t:=by rw [<-ht];exact Int.emod_nonneg _ (by omega)
      have HPP:Hid (ch pte=t):=ht;clear ht;rcases (show level=0∨level=1∨level=2 by omega) with rfl | rfl | rfl
      ·go_wp2_with (first
        | (go_at_call 64;refine (aB pte 0 1 _ h0 h1 (by omega) (by omega) rfl).mono ?_;rintro e w' ⟨rfl,n7,rfl⟩;rw [hV])
        | (go_at_call 86;refine (az pte 54 63 18014398509481984 1024 _ h0 h1 (by omega) (by omega) (by omega) (by omega) rfl rfl).mono ?_;rintro e w' ⟨rfl,n8,rfl⟩)
        | (go_at_call 90;refine (aW pte _ h0 h1).mono ?_;rintro e w' ⟨rfl,n9,rfl⟩;rw [HPP.out])
        | (go_at_call 63;refine (aA _ 1 _ (by omega) rfl).mono ?_;rintro e w' ⟨rfl,rfl⟩))
       go_ret;exact ⟨aE (by simp [aL,hV,hr,hw,hx,hres,bJ,Int.emod_one]),_,rfl⟩
      ·by_cases hm:0<t%8
       ·go_wp2_with (first
         | (go_at_call 64;refine (aB pte 0 1 _ h0 h1 (by omega) (by omega) rfl).mono ?_;rintro e w' ⟨rfl,n7,rfl⟩;rw [hV])
         | (go_at_call 86;refine (az pte 54 63 18014398509481984 1024 _ h0 h1 (by omega) (by omega) (by omega) (by omega) rfl rfl).mono ?_;rintro e w' ⟨rfl,n8,rfl⟩)
         | (go_at_call 90;refine (aW pte _ h0 h1).mono ?_;rintro e w' ⟨rfl,n9,rfl⟩;rw [HPP.out])
         | (go_at_call 63;refine (aA _ 8 _ (by omega) rfl).mono ?_;rintro e w' ⟨rfl,rfl⟩))
        go_ret;exact ⟨aE (by simp [aL,hV,hr,hw,hx,show ¬0<pte/18014398509481984%1024 by omega,bJ,HPP.out,hm]),_,rfl⟩
       ·go_wp2_with (first
         | (go_at_call 64;refine (aB pte 0 1 _ h0 h1 (by omega) (by omega) rfl).mono ?_;rintro e w' ⟨rfl,n7,rfl⟩;rw [hV])
         | (go_at_call 86;refine (az pte 54 63 18014398509481984 1024 _ h0 h1 (by omega) (by omega) (by omega) (by omega) rfl rfl).mono ?_;rintro e w' ⟨rfl,n8,rfl⟩)
         | (go_at_call 90;refine (aW pte _ h0 h1).mono ?_;rintro e w' ⟨rfl,n9,rfl⟩;rw [HPP.out])
         | (go_at_call 63;refine (aA _ 8 _ (by omega) rfl).mono ?_;rintro e w' ⟨rfl,rfl⟩))
        go_ret;exact ⟨aE (by simp [aL,hV,hr,hw,hx,show ¬0<pte/18014398509481984%1024 by omega,show ¬0<t%8 by omega,bJ,HPP.out]),_,rfl⟩
      ·by_cases hm:0<t%64
       ·go_wp2_with (first
         | (go_at_call 64;refine (aB pte 0 1 _ h0 h1 (by omega) (by omega) rfl).mono ?_;rintro e w' ⟨rfl,n7,rfl⟩;rw [hV])
         | (go_at_call 86;refine (az pte 54 63 18014398509481984 1024 _ h0 h1 (by omega) (by omega) (by omega) (by omega) rfl rfl).mono ?_;rintro e w' ⟨rfl,n8,rfl⟩)
         | (go_at_call 90;refine (aW pte _ h0 h1).mono ?_;rintro e w' ⟨rfl,n9,rfl⟩;rw [HPP.out])
         | (go_at_call 63;refine (aA _ 64 _ (by omega) rfl).mono ?_;rintro e w' ⟨rfl,rfl⟩))
        go_ret;exact ⟨aE (by simp [aL,hV,hr,hw,hx,show ¬0<pte/18014398509481984%1024 by omega,bJ,HPP.out,hm]),_,rfl⟩
       ·go_wp2_with (first
         | (go_at_call 64;refine (aB pte 0 1 _ h0 h1 (by omega) (by omega) rfl).mono ?_;rintro e w' ⟨rfl,n7,rfl⟩;rw [hV])
         | (go_at_call 86;refine (az pte 54 63 18014398509481984 1024 _ h0 h1 (by omega) (by omega) (by omega) (by omega) rfl rfl).mono ?_;rintro e w' ⟨rfl,n8,rfl⟩)
         | (go_at_call 90;refine (aW pte _ h0 h1).mono ?_;rintro e w' ⟨rfl,n9,rfl⟩;rw [HPP.out])
         | (go_at_call 63;refine (aA _ 64 _ (by omega) rfl).mono ?_;rintro e w' ⟨rfl,rfl⟩))
        go_ret;exact ⟨aE (by simp [aL,hV,hr,hw,hx,show ¬0<pte/18014398509481984%1024 by omega,show ¬0<t%64 by omega,bJ,HPP.out]),_,rfl⟩
    ·
     go_wp2_with (first
      | (go_at_call 64;refine (aB pte 0 1 _ h0 h1 (by omega) (by omega) rfl).mono ?_;rintro e w' ⟨rfl,n7,rfl⟩;rw [hV])
      | (go_at_call 86;refine (az pte 54 63 18014398509481984 1024 _ h0 h1 (by omega) (by omega) (by omega) (by omega) rfl rfl).mono ?_;rintro e w' ⟨rfl,n8,rfl⟩))
     go_ret;exact ⟨aE (by simp [aL,hr,hw]),_,rfl⟩
    ·
     obtain ⟨t,ht⟩:∃t,ch pte=t:=⟨_,rfl⟩;have hpp:0<=t:=by rw [<-ht];exact Int.emod_nonneg _ (by omega)
     have HPP:Hid (ch pte=t):=ht;clear ht;rcases (show level=0∨level=1∨level=2 by omega) with rfl | rfl | rfl
     ·go_wp2_with (first
       | (go_at_call 64;refine (aB pte 0 1 _ h0 h1 (by omega) (by omega) rfl).mono ?_;rintro e w' ⟨rfl,n7,rfl⟩;rw [hV])
       | (go_at_call 86;refine (az pte 54 63 18014398509481984 1024 _ h0 h1 (by omega) (by omega) (by omega) (by omega) rfl rfl).mono ?_;rintro e w' ⟨rfl,n8,rfl⟩)
       | (go_at_call 90;refine (aW pte _ h0 h1).mono ?_;rintro e w' ⟨rfl,n9,rfl⟩;rw [HPP.out])
       | (go_at_call 63;refine (aA _ 1 _ (by omega) rfl).mono ?_;rintro e w' ⟨rfl,rfl⟩))
      go_ret;exact ⟨aE (by simp [aL,hV,hr,hw,hres,bJ,Int.emod_one]),_,rfl⟩
     ·by_cases hm:0<t%8
      ·go_wp2_with (first
        | (go_at_call 64;refine (aB pte 0 1 _ h0 h1 (by omega) (by omega) rfl).mono ?_;rintro e w' ⟨rfl,n7,rfl⟩;rw [hV])
        | (go_at_call 86;refine (az pte 54 63 18014398509481984 1024 _ h0 h1 (by omega) (by omega) (by omega) (by omega) rfl rfl).mono ?_;rintro e w' ⟨rfl,n8,rfl⟩)
        | (go_at_call 90;refine (aW pte _ h0 h1).mono ?_;rintro e w' ⟨rfl,n9,rfl⟩;rw [HPP.out])
        | (go_at_call 63;refine (aA _ 8 _ (by omega) rfl).mono ?_;rintro e w' ⟨rfl,rfl⟩))
       go_ret;exact ⟨aE (by simp [aL,hV,hr,hw,show ¬0<pte/18014398509481984%1024 by omega,bJ,HPP.out,hm]),_,rfl⟩
      ·go_wp2_with (first
        | (go_at_call 64;refine (aB pte 0 1 _ h0 h1 (by omega) (by omega) rfl).mono ?_;rintro e w' ⟨rfl,n7,rfl⟩;rw [hV])
        | (go_at_call 86;refine (az pte 54 63 18014398509481984 1024 _ h0 h1 (by omega) (by omega) (by omega) (by omega) rfl rfl).mono ?_;rintro e w' ⟨rfl,n8,rfl⟩)
        | (go_at_call 90;refine (aW pte _ h0 h1).mono ?_;rintro e w' ⟨rfl,n9,rfl⟩;rw [HPP.out])
        | (go_at_call 63;refine (aA _ 8 _ (by omega) rfl).mono ?_;rintro e w' ⟨rfl,rfl⟩))
       go_ret;exact ⟨aE (by simp [aL,hV,hr,hw,show ¬0<pte/18014398509481984%1024 by omega,show ¬0<t%8 by omega,bJ,HPP.out]),_,rfl⟩
     ·by_cases hm:0<t%64
      ·go_wp2_with (first
        | (go_at_call 64;refine (aB pte 0 1 _ h0 h1 (by omega) (by omega) rfl).mono ?_;rintro e w' ⟨rfl,n7,rfl⟩;rw [hV])
        | (go_at_call 86;refine (az pte 54 63 18014398509481984 1024 _ h0 h1 (by omega) (by omega) (by omega) (by omega) rfl rfl).mono ?_;rintro e w' ⟨rfl,n8,rfl⟩)
        | (go_at_call 90;refine (aW pte _ h0 h1).mono ?_;rintro e w' ⟨rfl,n9,rfl⟩;rw [HPP.out])
        | (go_at_call 63;refine (aA _ 64 _ (by omega) rfl).mono ?_;rintro e w' ⟨rfl,rfl⟩))
       go_ret;exact ⟨aE (by simp [aL,hV,hr,hw,show ¬0<pte/18014398509481984%1024 by omega,bJ,HPP.out,hm]),_,rfl⟩
      ·go_wp2_with (first
        | (go_at_call 64;refine (aB pte 0 1 _ h0 h1 (by omega) (by omega) rfl).mono ?_;rintro e w' ⟨rfl,n7,rfl⟩;rw [hV])
        | (go_at_call 86;refine (az pte 54 63 18014398509481984 1024 _ h0 h1 (by omega) (by omega) (by omega) (by omega) rfl rfl).mono ?_;rintro e w' ⟨rfl,n8,rfl⟩)
        | (go_at_call 90;refine (aW pte _ h0 h1).mono ?_;rintro e w' ⟨rfl,n9,rfl⟩;rw [HPP.out])
        | (go_at_call 63;refine (aA _ 64 _ (by omega) rfl).mono ?_;rintro e w' ⟨rfl,rfl⟩))
       go_ret;exact ⟨aE (by simp [aL,hV,hr,hw,show ¬0<pte/18014398509481984%1024 by omega,show ¬0<t%64 by omega,bJ,HPP.out]),_,rfl⟩
    ·
     obtain ⟨t,ht⟩:∃t,ch pte=t:=⟨_,rfl⟩;have hpp:0<=t:=by rw [<-ht];exact Int.emod_nonneg _ (by omega)
     have HPP:Hid (ch pte=t):=ht;clear ht;rcases (show level=0∨level=1∨level=2 by omega) with rfl | rfl | rfl
     ·go_wp2_with (first
       | (go_at_call 64;refine (aB pte 0 1 _ h0 h1 (by omega) (by omega) rfl).mono ?_;rintro e w' ⟨rfl,n7,rfl⟩;rw [hV])
       | (go_at_call 86;refine (az pte 54 63 18014398509481984 1024 _ h0 h1 (by omega) (by omega) (by omega) (by omega) rfl rfl).mono ?_;rintro e w' ⟨rfl,n8,rfl⟩)
       | (go_at_call 90;refine (aW pte _ h0 h1).mono ?_;rintro e w' ⟨rfl,n9,rfl⟩;rw [HPP.out])
       | (go_at_call 63;refine (aA _ 1 _ (by omega) rfl).mono ?_;rintro e w' ⟨rfl,rfl⟩))
      go_ret;exact ⟨aE (by simp [aL,hV,hr,hw,hres,bJ,Int.emod_one]),_,rfl⟩
     ·by_cases hm:0<t%8
      ·go_wp2_with (first
        | (go_at_call 64;refine (aB pte 0 1 _ h0 h1 (by omega) (by omega) rfl).mono ?_;rintro e w' ⟨rfl,n7,rfl⟩;rw [hV])
        | (go_at_call 86;refine (az pte 54 63 18014398509481984 1024 _ h0 h1 (by omega) (by omega) (by omega) (by omega) rfl rfl).mono ?_;rintro e w' ⟨rfl,n8,rfl⟩)
        | (go_at_call 90;refine (aW pte _ h0 h1).mono ?_;rintro e w' ⟨rfl,n9,rfl⟩;rw [HPP.out])
        | (go_at_call 63;refine (aA _ 8 _ (by omega) rfl).mono ?_;rintro e w' ⟨rfl,rfl⟩))
       go_ret;exact ⟨aE (by simp [aL,hV,hr,hw,show ¬0<pte/18014398509481984%1024 by omega,bJ,HPP.out,hm]),_,rfl⟩
      ·go_wp2_with (first
        | (go_at_call 64;refine (aB pte 0 1 _ h0 h1 (by omega) (by omega) rfl).mono ?_;rintro e w' ⟨rfl,n7,rfl⟩;rw [hV])
        | (go_at_call 86;refine (az pte 54 63 18014398509481984 1024 _ h0 h1 (by omega) (by omega) (by omega) (by omega) rfl rfl).mono ?_;rintro e w' ⟨rfl,n8,rfl⟩)
        | (go_at_call 90;refine (aW pte _ h0 h1).mono ?_;rintro e w' ⟨rfl,n9,rfl⟩;rw [HPP.out])
        | (go_at_call 63;refine (aA _ 8 _ (by omega) rfl).mono ?_;rintro e w' ⟨rfl,rfl⟩))
       go_ret;exact ⟨aE (by simp [aL,hV,hr,hw,show ¬0<pte/18014398509481984%1024 by omega,show ¬0<t%8 by omega,bJ,HPP.out]),_,rfl⟩
     ·by_cases hm:0<t%64
      ·go_wp2_with (first
        | (go_at_call 64;refine (aB pte 0 1 _ h0 h1 (by omega) (by omega) rfl).mono ?_;rintro e w' ⟨rfl,n7,rfl⟩;rw [hV])
        | (go_at_call 86;refine (az pte 54 63 18014398509481984 1024 _ h0 h1 (by omega) (by omega) (by omega) (by omega) rfl rfl).mono ?_;rintro e w' ⟨rfl,n8,rfl⟩)
        | (go_at_call 90;refine (aW pte _ h0 h1).mono ?_;rintro e w' ⟨rfl,n9,rfl⟩;rw [HPP.out])
        | (go_at_call 63;refine (aA _ 64 _ (by omega) rfl).mono ?_;rintro e w' ⟨rfl,rfl⟩))
       go_ret;exact ⟨aE (by simp [aL,hV,hr,hw,show ¬0<pte/18014398509481984%1024 by omega,bJ,HPP.out,hm]),_,rfl⟩
      ·go_wp2_with (first
        | (go_at_call 64;refine (aB pte 0 1 _ h0 h1 (by omega) (by omega) rfl).mono ?_;rintro e w' ⟨rfl,n7,rfl⟩;rw [hV])
        | (go_at_call 86;refine (az pte 54 63 18014398509481984 1024 _ h0 h1 (by omega) (by omega) (by omega) (by omega) rfl rfl).mono ?_;rintro e w' ⟨rfl,n8,rfl⟩)
        | (go_at_call 90;refine (aW pte _ h0 h1).mono ?_;rintro e w' ⟨rfl,n9,rfl⟩;rw [HPP.out])
        | (go_at_call 63;refine (aA _ 64 _ (by omega) rfl).mono ?_;rintro e w' ⟨rfl,rfl⟩))
       go_ret;exact ⟨aE (by simp [aL,hV,hr,hw,show ¬0<pte/18014398509481984%1024 by omega,show ¬0<t%64 by omega,bJ,HPP.out]),_,rfl⟩
 ·by_cases hneg:level<0
  ·go_wp2_with fail;go_ret;exact ⟨aE (by simp [aL,hneg]),_,rfl⟩
  ·have hgt:2<level:=by omega
   go_wp2_with fail;go_ret;exact ⟨aE (by simp [aL,hgt]),_,rfl⟩
def RowC (w:World) (a:Option Addr) (n size:Nat) (cs:List Value):Prop:=
 cs.length=n*size∧(n=0∨∃b off,a=some ⟨b,off,none⟩∧b<w.heap.size∧∀i v,cs[i]?=some v->w.cell? ⟨b,off+i,none⟩=some v)
theorem RowC.keep {w w':World} {a:Option Addr} {n size:Nat} {cs:List Value} (h:RowC w a n size cs) (hb:Below w.heap.size w w'):RowC w' a n size cs:=by
 obtain ⟨h1,h3⟩:=h;refine ⟨h1,?_⟩;rcases h3 with h3 | ⟨b,off,rfl,hlt,hc⟩
 ·exact .inl h3
 ·exact .inr ⟨b,off,rfl,Nat.lt_of_lt_of_le hlt hb.size,fun i v hi=>(hb.cell (p:=⟨b,off+i,none⟩) hlt).trans (hc i v hi)⟩
theorem aH {w w':World} {g r:Nat} {o:Obj} (h:w.heap[g]?=some o) (hg:w.grownBy w' (some r)) (hne:g≠r):w'.heap[g]?=some o:=by
 rw [hg.block g (Array.getElem?_eq_some_iff.1 h).1 (by simpa using hne),h]
theorem RowC.nil (w:World) (a:Option Addr) (size:Nat):RowC w a 0 size []:=⟨by simp,.inl rfl⟩
def OwnC (e:TypeId) (size:Nat) (w:World) (base g n cap:Nat) (cs:List Value):Prop:=
 w.ownsRow base e size (.slice (some ⟨g,0,none⟩) n cap) n cs
theorem OwnC.new (e:TypeId) (size:Nat) (w:World) (cs:List Value) (n:Nat) (hn:cs.length=n*size) (hm:n<=maxLen):OwnC e size (w.alloc (.cells cs.toArray e)) w.heap.size w.heap.size n n cs:=
 ⟨hn,.inr ⟨w.heap.size,n,_,rfl,Nat.le_refl _,heap_alloc_new w _,Nat.le_refl _,hm,by simp [hn],List.take_of_length_le (by simp [hn])⟩⟩
theorem OwnC.facts {e:TypeId} {size:Nat} {w:World} {base g n cap:Nat} {cs:List Value} (h:OwnC e size w base g n cap cs):
 cs.length=n*size∧base<=g∧g<w.heap.size∧n<=cap∧cap<=maxLen:=by
 obtain ⟨h1,h2⟩:=h;rcases h2 with ⟨h2,_⟩ | ⟨g',cap',cur,h2,hb,hh,hn,hm,hs,ht⟩
 ·simp at h2
 ·simp at h2;obtain ⟨rfl,rfl⟩:=h2;exact ⟨h1,hb,(Array.getElem?_eq_some_iff.1 hh).1,hn,hm⟩
theorem OwnC.row {e:TypeId} {size:Nat} {w:World} {base g n cap:Nat} {cs:List Value} (h:OwnC e size w base g n cap cs):RowC w (some ⟨g,0,none⟩) n size cs:=by
 refine ⟨h.1,.inr ⟨g,0,rfl,h.facts.2.2.1,fun i v hi=>?_⟩⟩;have hl:i<cs.length:=(List.getElem?_eq_some_iff.1 hi).1;rw [Nat.zero_add,World.ownsRow.cellAt h i (by rw [<-h.1];exact hl),hi]
theorem OwnC.keep {e:TypeId} {size B:Nat} {w w':World} {base g n cap:Nat} {cs:List Value} (h:OwnC e size w base g n cap cs) (hb:Below B w w') (hg:g<B):OwnC e size w' base g n cap cs:=by
 obtain ⟨h1,h2⟩:=h;refine ⟨h1,?_⟩;rcases h2 with ⟨h2,_⟩ | ⟨g',cap',cur,h2,hb',hh,r⟩
 ·simp at h2
 ·have hh':=h2;simp at hh';obtain ⟨rfl,rfl⟩:=hh';exact .inr ⟨_,_,cur,h2,hb',by rw [hb.block _ hg];exact hh,r⟩
theorem OwnC.of_append {e:TypeId} {size:Nat} {w':World} {base g n cap m:Nat} {v':Value} {cs:List Value} (h:w'.ownsRow base e size v' (n+m) cs)
 (hv:v'=.slice none 0 0↔(Value.slice (some ⟨g,0,none⟩) n cap)=.slice none 0 0∧m=0):∃g' cap',v'=.slice (some ⟨g',0,none⟩) (n+m) cap'∧OwnC e size w' base g' (n+m) cap' cs:=by
 rcases h.2 with ⟨h2,_⟩ | ⟨g',cap',cur,h2,r⟩
 ·have:=hv.1 h2;simp at this
 ·refine ⟨g',cap',h2,?_⟩;subst h2;exact h
theorem OwnC.grown {e:TypeId} {size B:Nat} {a w w':World} {base g n cap:Nat} {cs:List Value} (h:Below B a w) (o:OwnC e size w base g n cap cs) (hg:w.grownBy w' (Value.slice (some ⟨g,0,none⟩) n cap).ownBlock) (hB:B<=base):Below B a w':=by
 have f:=o.facts;exact h.grown hg (by omega) (fun k hk=>by cases hk;show B<=g;omega)
theorem eY {w:World} {b off n size:Nat} {cs:List Value} (h:RowC w (some ⟨b,off,none⟩) n size cs):∀j u,cs[j]?=some u->w.cell? (Addr.add ⟨b,off,none⟩ j)=some u:=by
 intro j u hu;obtain ⟨h1,h3⟩:=h;rcases h3 with h3 | ⟨b',off',e,_,hc⟩
 ·subst h3;simp at h1;subst h1;simp at hu
 ·simp at e;obtain ⟨rfl,rfl⟩:=e;have e:Addr.add ⟨b,off,none⟩ j=⟨b,off+j,none⟩:=by
   unfold Addr.add;split
   ·next h=>subst h;rfl
   ·rfl
  rw [e];exact hc j u hu
theorem eg {P:Program} (w:World) {o:Oper} {a:Act} {K:Act->World->Prop} {Q:Exit->Act->World->Prop} (s x:Operand) (t:TypeId)
 (ho:o.op=.call { callee:=.builtin .append,args:=#[s,x],argTypes:=#[t,t] }) (e:TypeId) (ht:P.underlying t=some (.slice e)) (z:Value) (size bytes:Nat)
 (hi:(P.info? e).map (fun i=>(i.zero,i.size,i.bytes))=some (some z,size,bytes)) (hzs:z.cells.size=size) (hsz:0<size)
 (base g n cap:Nat) (cs:List Value) (hs:a.eval s=.slice (some ⟨g,0,none⟩) n cap) (hown:OwnC e size w base g n cap cs)
 (src:Option Addr) (m c:Nat) (ys:List Value) (hx:a.eval x=.slice src m c) (hnil:src=none->m=0∧c=0) (hspot:∀q,src=some q->q.spot=none) (hy:RowC w src m size ys) (h1:∀u∈ys,u.oneCell'=true)
 (hbd:(n+m)*bytes<=140737488355328) (hbd':n+m<=9223372036854775807)
 (B:Nat) (W:World) (hb:Below B W w) (hB:B<=base)
 (h:∀g' cap' w',OwnC e size w' base g' (n+m) cap' (cs++ys)->Below B W w'->K (a.put o.dst (.slice (some ⟨g',0,none⟩) (n+m) cap')) w'):o.wp P a w K Q:=by
 obtain ⟨i0,hi,hz0,hz1,hz2⟩:=info_parts hi;have f:=hown.facts;cases src with
 | none=>
  obtain ⟨rfl,rfl⟩:=hnil rfl;have hys:ys=[]:=by have:=hy.1;simpa using this
  subst hys;have hrun:=run_append_owned_none (P:=P) (w:=w) base t o.type e i0 size ht hi _ n cs hown;unfold Oper.wp;simp [execOp,ho,resolve,invoke,builtin,hs,hx,hrun,Result.andThen];have:=h g cap w (by simpa using hown) hb;simp only [Nat.add_zero] at this;exact this
 | some q=>
  obtain ⟨b,off,spot⟩:=q;have:=hspot ⟨b,off,spot⟩ rfl;simp at this;subst this;refine wp_append_own w s x t ho base e i0 z size bytes ht hi hz0 hz1 hz2 hzs hsz _ n _ hs hown ⟨b,off,none⟩ m c ys hx hy.1 (eY hy) h1 (by unfold maxLen;omega) hbd (by omega) ?_;intro v' w' h1 h2 h3;obtain ⟨g',cap',rfl,o4⟩:=OwnC.of_append h1 h3;exact h g' cap' w' o4 (OwnC.grown hb hown h2 hB)
theorem dG {P:Program} (w:World) {ops:Array Oper} {o:Oper} {a:Act} {K:Act->World->Prop} {Q:Exit->Act->World->Prop} {E:Prop} (hgd:o.guard=none) (s x:Operand) (t:TypeId)
 (ho:o.op=.call { callee:=.builtin .append,args:=#[s,x],argTypes:=#[t,t] }) (e:TypeId) (ht:P.underlying t=some (.slice e)) (z:Value) (size bytes:Nat)
 (hi:(P.info? e).map (fun i=>(i.zero,i.size,i.bytes))=some (some z,size,bytes)) (hzs:z.cells.size=size) (hsz:0<size)
 (base g n cap:Nat) (cs:List Value) (hs:a.eval s=.slice (some ⟨g,0,none⟩) n cap) (hown:OwnC e size w base g n cap cs)
 (src:Option Addr) (m c:Nat) (ys:List Value) (hx:a.eval x=.slice src m c) (hnil:src=none->m=0∧c=0) (hspot:∀q,src=some q->q.spot=none) (hy:RowC w src m size ys) (h1:∀u∈ys,u.oneCell'=true)
 (hbd:(n+m)*bytes<=140737488355328) (hbd':n+m<=9223372036854775807)
 (B:Nat) (W:World) (hb:Below B W w) (hB:B<=base)
 (h:∀g' cap' w',OwnC e size w' base g' (n+m) cap' (cs++ys)->Below B W w'->K (a.put o.dst (.slice (some ⟨g',0,none⟩) (n+m) cap')) w'):
 if Region.wanted o (yielded ops a.tmps)=true then Oper.wp P o a w K Q else E:=by
 have hw:Region.wanted o (yielded ops a.tmps)=true:=by simp [Region.wanted,hgd]
 rw [if_pos hw];exact eg w s x t ho e ht z size bytes hi hzs hsz base g n cap cs hs hown src m c ys hx hnil hspot hy h1 hbd hbd' B W hb hB h
theorem aG {w:World} {g:Nat} {T:TypeId} {a b c d:Value} (h:w.heap[g]?=some (.cells #[a,b,c,d] T (0,0))):
 (w.cell? ⟨g,0,none⟩=some a∧w.cell? ⟨g,1,none⟩=some b∧w.cell? ⟨g,2,none⟩=some c∧w.cell? ⟨g,3,none⟩=some d)∧
 (w.frozen? ⟨g,0,none⟩=false∧w.frozen? ⟨g,1,none⟩=false∧w.frozen? ⟨g,2,none⟩=false∧w.frozen? ⟨g,3,none⟩=false):=by
 simp [World.cell?,World.frozen?,h]
theorem fQ {B:Nat} {a w:World} {g:Nat} (h:Below B a w) (hg:B<=g) (x y z u:Value):Below B a ((((w.setCell ⟨g,0,none⟩ x).setCell ⟨g,1,none⟩ y).setCell ⟨g,2,none⟩ z).setCell ⟨g,3,none⟩ u):=
 (((h.setCell (p:=⟨g,0,none⟩) hg x).setCell (p:=⟨g,1,none⟩) hg y).setCell (p:=⟨g,2,none⟩) hg z).setCell (p:=⟨g,3,none⟩) hg u
theorem aF {B:Nat} {w w':World} {g:Nat} {o:Obj} (h:w.heap[g]?=some o) (hb:Below B w w') (hg:g<B):w'.heap[g]?=some o:=by rw [hb.block g hg,h]
structure EntM where
 valid:Bool
 level:Int
 tag:Int
 asid:Int
 glob:Bool
 pte:Int
def aC:EntM:=⟨false,0,0,0,false,0⟩
structure TlbM where
 sets:Int
 ways:Int
 es:List EntM
def bC (va level:Int):Int:=if level=0 then va/64%512 else if level=1 then va/512%64 else va/4096%8
def cI (level:Int):Int:=if level=0 then 512 else if level=1 then 64 else 8
def cu (p:Bool):Int:=if p=true then 1 else 2
def ak (e:EntM) (p:Bool):Bool:=
 e.valid && decide (0<=e.level) && decide (e.level<=2) && decide (e.tag<cI e.level) && decide (e.asid<=65535) && (e.glob == aK e.pte 32) && (aL e.pte e.level == cu p)
def aO (e:EntM):Prop:=
 (-9223372036854775808<=e.level∧e.level<=9223372036854775807)∧(0<=e.tag∧e.tag<=18446744073709551615)∧(0<=e.asid∧e.asid<=18446744073709551615)∧(0<=e.pte∧e.pte<=18446744073709551615)
def bx (e:EntM):List Value:=[.bool e.valid,.int .i64 e.level,.int .u64 e.tag,.int .u64 e.asid,.bool e.glob,.int .u64 e.pte]
def bQ (e:EntM):Value:=.agg #[.bool e.valid,.int .i64 e.level,.int .u64 e.tag,.int .u64 e.asid,.bool e.glob,.int .u64 e.pte]
theorem ev (va level:Int) (w:World) (h0:0<=va) (h1:va<=18446744073709551615) (hl:0<=level) (hl':level<=2):
 Calls Try.prog 72 #[.int .u64 va,.int .i64 level] w fun e w'=>e=.returned (.int .u64 (bC va level))∧∃n,w'=w.drewN n:=by
 rcases (show level=0∨level=1∨level=2 by omega) with rfl | rfl | rfl
 ·go_enter Try.func72,Try.ntmps72;go_wp2_with fail;refine (az va 6 14 64 512 w h0 h1 (by omega) (by omega) (by omega) (by omega) rfl rfl).mono ?_;rintro e w' ⟨rfl,nq,rfl⟩;go_wp2_with fail;go_ret;exact ⟨rfl,nq,rfl⟩
 ·go_enter Try.func72,Try.ntmps72;go_wp2_with fail;refine (az va 9 14 512 64 w h0 h1 (by omega) (by omega) (by omega) (by omega) rfl rfl).mono ?_;rintro e w' ⟨rfl,nq,rfl⟩;go_wp2_with fail;go_ret;exact ⟨rfl,nq,rfl⟩
 ·go_enter Try.func72,Try.ntmps72;go_wp2_with fail;refine (az va 12 14 4096 8 w h0 h1 (by omega) (by omega) (by omega) (by omega) rfl rfl).mono ?_;rintro e w' ⟨rfl,nq,rfl⟩;go_wp2_with fail;go_ret;exact ⟨rfl,nq,rfl⟩
theorem bj (x:EntM) (p:Bool) (w:World) (hx:aO x):
 Calls Try.prog 30 #[bQ x,.bool p] w fun e w'=>e=.returned (.bool (ak x p))∧Below w.heap.size w w':=by
 obtain ⟨v,lv,tg,asd,gl,pt⟩:=x;obtain ⟨⟨a1,a2⟩,⟨b1,b2⟩,⟨c1,c2⟩,d1,d2⟩:=hx;simp only at a1 a2 b1 b2 c1 c2 d1 d2;unfold bQ ak;simp only;have n1:=(Below.refl w.heap.size w).alloc (Nat.le_refl _) (Obj.cells #[.bool v,.int .i64 lv,.int .u64 tg,.int .u64 asd,.bool gl,.int .u64 pt] 42);cases v
 ·cases p;all_goals
   go_enter Try.func30,Try.ntmps30;go_wp2_with fail;go_quiet (fail);go_wp2_with fail;go_ret;exact ⟨aj (by simp),below_drewN n1 nq⟩
 by_cases h0n:¬(0<=lv)
 ·have h0:¬(0<=lv):=h0n;have h0':decide (0<=lv)=false:=by simpa using h0
  cases p;all_goals
   go_enter Try.func30,Try.ntmps30;go_wp2_with fail;go_quiet (fail);go_wp2_with fail;go_ret;exact ⟨aj (by simp [h0']),below_drewN n1 nq⟩
 have h0:0<=lv:=Decidable.not_not.1 h0n;clear h0n;by_cases h2n:¬(lv<=2)
 ·have h2:¬(lv<=2):=h2n;have h2':decide (lv<=2)=false:=by simpa using h2
  cases p;all_goals
   go_enter Try.func30,Try.ntmps30;go_wp2_with fail;go_quiet (fail);go_wp2_with fail;go_ret;exact ⟨aj (by simp [h2']),below_drewN n1 nq⟩
 have h2:lv<=2:=Decidable.not_not.1 h2n;clear h2n;obtain ⟨g5,hg5⟩:∃g5,aK pt 32=g5:=⟨_,rfl⟩;obtain ⟨kd,hkd⟩:∃kd,aL pt lv=kd:=⟨_,rfl⟩;rw [hg5,hkd];have HC5:Hid (∀w:World,Calls Try.prog 64 #[.int .u64 pt,.int .i64 5] w fun e w'=>e=.returned (.bool g5)∧∃n,w'=w.drewN n):=fun w=>by
  have:=aB pt 5 32 w d1 d2 (by omega) (by omega) rfl;rw [hg5] at this;exact this
 have HC6:Hid (∀w:World,Calls Try.prog 65 #[.int .u64 pt,.int .i64 lv] w fun e w'=>e=.returned (.int .i64 kd)∧∃n,w'=w.drewN n):=fun w=>by
  have:=dF pt lv w d1 d2 a1 a2;rw [hkd] at this;exact this
 clear hg5 hkd;rcases (show lv=0∨lv=1∨lv=2 by omega) with rfl | rfl | rfl
 ·by_cases htn:¬(tg<512)
  ·have ht:¬(tg<512):=htn;have ht':decide (tg<512)=false:=by simpa using ht
   cases p;all_goals
    go_enter Try.func30,Try.ntmps30;go_wp2_with fail;go_quiet (first
    | (go_at_call 63;exact Calls.quiet_of_same (aA 9 512 _ (by omega) rfl))
    | (go_at_call 64;exact Calls.quiet_of (HC5.out _))
    | (go_at_call 65;exact Calls.quiet_of (HC6.out _)))
    go_wp2_with fail;go_ret;exact ⟨aj (by simp [cI,cu,ht']),below_drewN n1 nq⟩
  have ht:tg<512:=Decidable.not_not.1 htn;clear htn;by_cases han:¬(asd<=65535)
  ·have ha:¬(asd<=65535):=han;have ha':decide (asd<=65535)=false:=by simpa using ha
   cases p;all_goals
    go_enter Try.func30,Try.ntmps30;go_wp2_with fail;go_quiet (first
    | (go_at_call 63;exact Calls.quiet_of_same (aA 9 512 _ (by omega) rfl))
    | (go_at_call 64;exact Calls.quiet_of (HC5.out _))
    | (go_at_call 65;exact Calls.quiet_of (HC6.out _)))
    go_wp2_with fail;go_ret;exact ⟨aj (by simp [cI,cu,ht,ha']),below_drewN n1 nq⟩
  have ha:asd<=65535:=Decidable.not_not.1 han;clear han;cases p <;> cases gl <;> cases g5;all_goals
   go_enter Try.func30,Try.ntmps30;go_wp2_with fail;go_quiet (first
    | (go_at_call 63;exact Calls.quiet_of_same (aA 9 512 _ (by omega) rfl))
    | (go_at_call 64;exact Calls.quiet_of (HC5.out _))
    | (go_at_call 65;exact Calls.quiet_of (HC6.out _)))
   go_wp2_with fail;go_ret;exact ⟨aj (by simp [cI,cu,ht,ha]),below_drewN n1 nq⟩
 ·by_cases htn:¬(tg<64)
  ·have ht:¬(tg<64):=htn;have ht':decide (tg<64)=false:=by simpa using ht
   cases p;all_goals
    go_enter Try.func30,Try.ntmps30;go_wp2_with fail;go_quiet (first
    | (go_at_call 63;exact Calls.quiet_of_same (aA 6 64 _ (by omega) rfl))
    | (go_at_call 64;exact Calls.quiet_of (HC5.out _))
    | (go_at_call 65;exact Calls.quiet_of (HC6.out _)))
    go_wp2_with fail;go_ret;exact ⟨aj (by simp [cI,cu,ht']),below_drewN n1 nq⟩
  have ht:tg<64:=Decidable.not_not.1 htn;clear htn;by_cases han:¬(asd<=65535)
  ·have ha:¬(asd<=65535):=han;have ha':decide (asd<=65535)=false:=by simpa using ha
   cases p;all_goals
    go_enter Try.func30,Try.ntmps30;go_wp2_with fail;go_quiet (first
    | (go_at_call 63;exact Calls.quiet_of_same (aA 6 64 _ (by omega) rfl))
    | (go_at_call 64;exact Calls.quiet_of (HC5.out _))
    | (go_at_call 65;exact Calls.quiet_of (HC6.out _)))
    go_wp2_with fail;go_ret;exact ⟨aj (by simp [cI,cu,ht,ha']),below_drewN n1 nq⟩
  have ha:asd<=65535:=Decidable.not_not.1 han;clear han;cases p <;> cases gl <;> cases g5;all_goals
   go_enter Try.func30,Try.ntmps30;go_wp2_with fail;go_quiet (first
    | (go_at_call 63;exact Calls.quiet_of_same (aA 6 64 _ (by omega) rfl))
    | (go_at_call 64;exact Calls.quiet_of (HC5.out _))
    | (go_at_call 65;exact Calls.quiet_of (HC6.out _)))
   go_wp2_with fail;go_ret;exact ⟨aj (by simp [cI,cu,ht,ha]),below_drewN n1 nq⟩
 ·by_cases htn:¬(tg<8)
  ·have ht:¬(tg<8):=htn;have ht':decide (tg<8)=false:=by simpa using ht
   cases p;all_goals
    go_enter Try.func30,Try.ntmps30;go_wp2_with fail;go_quiet (first
    | (go_at_call 63;exact Calls.quiet_of_same (aA 3 8 _ (by omega) rfl))
    | (go_at_call 64;exact Calls.quiet_of (HC5.out _))
    | (go_at_call 65;exact Calls.quiet_of (HC6.out _)))
    go_wp2_with fail;go_ret;exact ⟨aj (by simp [cI,cu,ht']),below_drewN n1 nq⟩
  have ht:tg<8:=Decidable.not_not.1 htn;clear htn;by_cases han:¬(asd<=65535)
  ·have ha:¬(asd<=65535):=han;have ha':decide (asd<=65535)=false:=by simpa using ha
   cases p;all_goals
    go_enter Try.func30,Try.ntmps30;go_wp2_with fail;go_quiet (first
    | (go_at_call 63;exact Calls.quiet_of_same (aA 3 8 _ (by omega) rfl))
    | (go_at_call 64;exact Calls.quiet_of (HC5.out _))
    | (go_at_call 65;exact Calls.quiet_of (HC6.out _)))
    go_wp2_with fail;go_ret;exact ⟨aj (by simp [cI,cu,ht,ha']),below_drewN n1 nq⟩
  have ha:asd<=65535:=Decidable.not_not.1 han;clear han;cases p <;> cases gl <;> cases g5;all_goals
   go_enter Try.func30,Try.ntmps30;go_wp2_with fail;go_quiet (first
    | (go_at_call 63;exact Calls.quiet_of_same (aA 3 8 _ (by omega) rfl))
    | (go_at_call 64;exact Calls.quiet_of (HC5.out _))
    | (go_at_call 65;exact Calls.quiet_of (HC6.out _)))
   go_wp2_with fail;go_ret;exact ⟨aj (by simp [cI,cu,ht,ha]),below_drewN n1 nq⟩
structure Lies (v:World) where
 w:World
 h:Below v.heap.size v w
theorem ci (v:World):Nonempty (Lies v):=⟨⟨v,Below.refl _ _⟩⟩
theorem ao {P:Program} {f:FuncId} {args:Array Value} {v:World} (u:Lies v) {x:Value} (h:Calls P f args u.w fun e w'=>e=.returned x∧Below u.w.heap.size u.w w'):
 Calls P f args u.w fun e w''=>e=.returned x∧∃u':Lies v,w''=u'.w:=
 h.mono fun e w' ⟨he,hb⟩=>⟨he,⟨w',Below.step u.h hb (Nat.le_refl _)⟩,rfl⟩
theorem aq {v:World} {b o:Nat} {x:Value} (hc:v.cell? ⟨b,o,none⟩=some x) (hb:b<v.heap.size) (u:Lies v):u.w.cell? ⟨b,o,none⟩=some x:=Below.cell2 u.h hc hb
theorem ai {P:Program} {id:Nat} {Q:Exit->Act->World->Prop} {a:Act} {w:World} {l:List Oper} (hm:P.follows .mixedOrders=true) (hB:Region.lexB .any l.toArray=true)
 (h:wpQuiet P l.toArray (fun w'=>∃u:Lies w,w'=u.w) (fun a'=>∀w',(∃u:Lies w,w'=u.w)->Q .normal a' w') l a):(Code.region id l.toArray true).wp P Q a w:=
 wp_region_quiet (C:=fun w'=>∃u:Lies w,w'=u.w) hm hB ⟨⟨w.drew,(Below.refl _ _).drew⟩,rfl⟩ (by simpa using h)
end Go.Proofs.Ytfgogedgolgnaaa
