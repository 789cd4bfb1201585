import Derived.Test.YtfgogedgolgnaaaGreatZk04
import Derived.StillTailTactics
namespace Go.Proofs.YtfgogedgolgnaaaGreat
open Go.RowKit
set_option linter.unusedVariables false
set_option maxHeartbeats 6400000
set_option maxRecDepth 20000
theorem iF (a:Option Addr) (n cap:Nat) (sets ways:Int) (p:Bool) (w:World) (hl:n<=1048576) (hs: -9223372036854775808<=sets∧sets<=9223372036854775807) (hw: -9223372036854775808<=ways∧ways<=9223372036854775807)
 (h:¬((sets=1∨sets=2∨sets=4∨sets=8)∧1<=ways∧ways<=4∧(n:Int)=sets*ways)):
 Calls Tryz.prog 44 #[.agg #[.int .i64 sets,.int .i64 ways,.slice a n cap],.bool p] w fun e w'=>e=.returned (.bool false)∧Below w.heap.size w w':=by
 by_cases h1:sets=1∨sets=2∨sets=4∨sets=8
 ·by_cases h2:ways<1
  ·rcases h1 with rfl | rfl | rfl | rfl;all_goals
    go_enter Tryz.func44,Tryz.ntmps44;go_wp2_with fail;go_ret;exact ⟨rfl,(Below.refl _ _).alloc (Nat.le_refl _) _⟩
  by_cases h3:4<ways
  ·rcases h1 with rfl | rfl | rfl | rfl;all_goals
    go_enter Tryz.func44,Tryz.ntmps44;go_wp2_with fail;go_ret;exact ⟨rfl,(Below.refl _ _).alloc (Nat.le_refl _) _⟩
  rcases h1 with rfl | rfl | rfl | rfl
  ·have h4:((n:Int) != ways)=true:=by rw [bne_iff_ne];omega
   clear h;go_enter Tryz.func44,Tryz.ntmps44;go_wp2_with fail;go_ret;exact ⟨rfl,(Below.refl _ _).alloc (Nat.le_refl _) _⟩
  ·have h4:((n:Int) != 2*ways)=true:=by rw [bne_iff_ne];omega
   clear h;go_enter Tryz.func44,Tryz.ntmps44;go_wp2_with fail;go_ret;exact ⟨rfl,(Below.refl _ _).alloc (Nat.le_refl _) _⟩
  ·have h4:((n:Int) != 4*ways)=true:=by rw [bne_iff_ne];omega
   clear h;go_enter Tryz.func44,Tryz.ntmps44;go_wp2_with fail;go_ret;exact ⟨rfl,(Below.refl _ _).alloc (Nat.le_refl _) _⟩
  ·have h4:((n:Int) != 8*ways)=true:=by rw [bne_iff_ne];omega
   clear h;go_enter Tryz.func44,Tryz.ntmps44;go_wp2_with fail;go_ret;exact ⟨rfl,(Below.refl _ _).alloc (Nat.le_refl _) _⟩
 ·have q1:(sets != 1)=true:=by rw [bne_iff_ne];omega
  have q2:(sets != 2)=true:=by rw [bne_iff_ne];omega
  have q4:(sets != 4)=true:=by rw [bne_iff_ne];omega
  have q8:(sets != 8)=true:=by rw [bne_iff_ne];omega
  clear h h1;go_enter Tryz.func44,Tryz.ntmps44;go_wp2_with fail;go_ret;exact ⟨rfl,(Below.refl _ _).alloc (Nat.le_refl _) _⟩
theorem cf (v:Value) (t:TlbM) (p:Bool) (w:World) (h:TlbAt w v t):
 Calls Tryz.prog 44 #[v,.bool p] w fun e w'=>e=.returned (.bool (aA t p))∧Below w.heap.size w w':=by
 obtain ⟨a,cap,rfl,hr,he,hs,hw,hl,hlc,hcm,hnil,hsp⟩:=h;obtain ⟨sets,ways,es⟩:=t;simp only at hr he hs hw hl hlc hnil |-;by_cases hsh:(sets=1∨sets=2∨sets=4∨sets=8)∧1<=ways∧ways<=4∧(es.length:Int)=sets*ways
 ·have hv:aA ⟨sets,ways,es⟩ p=bq ⟨sets,ways,es⟩ p 0 es:=by simp only [aA,dm];rw [decide_eq_true hsh,Bool.true_and]
  rw [hv];obtain ⟨h1,h2,h3,h4⟩:=hsh;obtain ⟨b,off,rfl⟩:∃b off,a=some ⟨b,off,none⟩:=by
   rcases hr.2 with h0 | ⟨b,off,rfl,_,_⟩
   ·rw [h0] at h4;rcases h1 with rfl | rfl | rfl | rfl <;> simp at h4 <;> omega
   ·exact ⟨b,off,rfl⟩
  rcases h1 with rfl | rfl | rfl | rfl
  ·exact jD b off cap ways es es.length p w hr he hl rfl h2 h3 h4
  ·exact jf b off cap ways es es.length p w hr he hl rfl h2 h3 h4
  ·exact jk b off cap ways es es.length p w hr he hl rfl h2 h3 h4
  ·exact jv b off cap ways es es.length p w hr he hl rfl h2 h3 h4
 ·have hv:aA ⟨sets,ways,es⟩ p=false:=by simp only [aA,dm];rw [decide_eq_false hsh,Bool.false_and]
  rw [hv];exact iF a es.length cap sets ways p w hl hs hw hsh
section
attribute [local go_sem ↓] Go.wp_at_zero Go.wp_at_succ
theorem TlbAt.keep {w w':World} {v:Value} {t:TlbM} (h:TlbAt w v t) (hb:Below w.heap.size w w'):TlbAt w' v t:=by
 obtain ⟨a,cap,rfl,hr,r⟩:=h;exact ⟨a,cap,rfl,hr.keep hb,r⟩
def cn (t:TlbM):Bool:=aA t true || aA t false
def dv (x:EntM) (va asid:Int):Bool:=x.valid && (x.tag == bP va x.level) && (x.glob || x.asid == asid)
theorem iB (v:Value) (t:TlbM) (w:World) (h:TlbAt w v t):
 Calls Tryz.prog 48 #[v] w fun e w'=>e=.returned (.bool (cn t))∧Below w.heap.size w w':=by
 have HT:Hid (TlbAt w v t):=h;obtain ⟨a,cap,rfl,_⟩:=h;have a1:=bm w #[.int .i64 t.sets,.int .i64 t.ways,.slice a t.es.length cap] 34;unfold cn;obtain ⟨p,hp⟩:∃p,aA t true=p:=⟨_,rfl⟩;obtain ⟨q,hq⟩:∃q,aA t false=q:=⟨_,rfl⟩;rw [hp,hq];have HP:Hid (aA t true=p):=hp;have HQ:Hid (aA t false=q):=hq;clear hp hq;go_enter Tryz.func48,Tryz.ntmps48;go_wp2_with fail;generalize w.alloc (Obj.cells #[.int .i64 t.sets,.int .i64 t.ways,.slice a t.es.length cap] 34)=v1 at a1 |-;obtain ⟨l1,c1,n1⟩:=a1;have c10:v1.cell? ⟨w.heap.size,0,none⟩=some (.int .i64 t.sets):=c1 0;have c11:v1.cell? ⟨w.heap.size,1,none⟩=some (.int .i64 t.ways):=c1 1;have c12:v1.cell? ⟨w.heap.size,2,none⟩=some (.slice a t.es.length cap):=c1 2;refine (cf _ t true v1 (HT.out.keep n1)).mono ?_;rw [HP.out];rintro e v2 ⟨rfl,n2⟩;have d10:=Below.cell2 n2 c10 l1;have d11:=Below.cell2 n2 c11 l1;have d12:=Below.cell2 n2 c12 l1;have n12:=Below.step n1 n2 (Nat.le_refl _);clear c1 c10 c11 c12 n1 n2;cases p
 ·go_wp2_with fail;refine (cf _ t false v2 (HT.out.keep n12)).mono ?_;rw [HQ.out];rintro e v3 ⟨rfl,n3⟩;have n13:=Below.step n12 n3 (Nat.le_refl _);clear d10 d11 d12 n3;go_wp2_with fail;go_ret;exact ⟨ah (by simp),n13⟩
 ·go_wp2_with fail;go_ret;exact ⟨ah (by simp),n12⟩
theorem jU (x:EntM) (va asid:Int) (w:World) (hx:bf x) (hlv:x.valid=true->0<=x.level∧x.level<=2) (hv0:0<=va) (hv1:va<=18446744073709551615):
 Calls Tryz.prog 49 #[cV x,.int .u64 va,.int .u64 asid] w fun e w'=>e=.returned (.bool (dv x va asid))∧Below w.heap.size w w':=by
 obtain ⟨v,lv,tg,asd,gl,pt⟩:=x;unfold cV dv;simp only at hlv |-;have n1:=(Below.refl w.heap.size w).alloc (Nat.le_refl _) (Obj.cells #[.bool v,.int .i64 lv,.int .u64 tg,.int .u64 asd,.bool gl,.int .u64 pt] 74);cases v
 ·go_enter Tryz.func49,Tryz.ntmps49;go_wp2_with fail;go_quiet (fail);go_wp2_with fail;go_ret;exact ⟨ah (by simp),below_drewN n1 nq⟩
 obtain ⟨hl0,hl2⟩:=hlv rfl;obtain ⟨tv,htv⟩:∃tv,bP va lv=tv:=⟨_,rfl⟩;rw [htv];have HC:Hid (∀w:World,Calls Tryz.prog 57 #[.int .u64 va,.int .i64 lv] w fun e w'=>e=.returned (.int .u64 tv)∧∃n,w'=w.drewN n):=fun w=>by
  have:=jl va lv w hv0 hv1 hl0 hl2;rw [htv] at this;exact this
 clear htv;cases ht:(tg == tv)
 ·go_enter Tryz.func49,Tryz.ntmps49;go_wp2_with fail;go_quiet ((go_at_call 57;exact Calls.quiet_of (HC.out _)));go_wp2_with fail;go_ret;exact ⟨ah (by simp),below_drewN n1 nq⟩
 ·cases gl
  ·go_enter Tryz.func49,Tryz.ntmps49;go_wp2_with fail;go_quiet ((go_at_call 57;exact Calls.quiet_of (HC.out _)));go_wp2_with fail;go_ret;exact ⟨ah (by simp),below_drewN n1 nq⟩
  ·go_enter Tryz.func49,Tryz.ntmps49;go_wp2_with fail;go_quiet ((go_at_call 57;exact Calls.quiet_of (HC.out _)));go_wp2_with fail;go_ret;exact ⟨ah (by simp),below_drewN n1 nq⟩
end
theorem ak {e:TypeId} {size:Nat} {w:World} {base g n cap:Nat} {cs:List Value} (h:w.ownsRow base e size (.slice (some ⟨g,0,none⟩) n cap) n cs) (j:Nat) (u:Value):
 (w.setCell ⟨g,j,none⟩ u).ownsRow base e size (.slice (some ⟨g,0,none⟩) n cap) n (cs.set j u):=by
 obtain ⟨h1,h2⟩:=h;refine ⟨by simpa using h1,?_⟩;rcases h2 with ⟨h2,_⟩ | ⟨g',cap',cur,h2,hb,hg,hc1,hc2,hc3,ht⟩
 ·cases h2
 ·cases h2;refine .inr ⟨g,cap,cur.setIfInBounds j u,rfl,hb,by simp [World.setCell,Array.getElem?_modify,hg],hc1,hc2,by simpa using hc3,?_⟩;subst ht;rw [Array.toList_setIfInBounds,List.take_set]
theorem an {e:TypeId} {size:Nat} {w:World} {base g n cap:Nat} {cs:List Value} (h:w.ownsRow base e size (.slice (some ⟨g,0,none⟩) n cap) n cs) (j:Nat) (u:Value) (hj:cs[j]?=some u):w.cell? ⟨g,j,none⟩=some u:=
 (CurAt.of_own h).1.cell j u hj
theorem ar {e:TypeId} {size:Nat} {w:World} {base g n cap:Nat} {cs:List Value} (h:w.ownsRow base e size (.slice (some ⟨g,0,none⟩) n cap) n cs) (j:Nat):w.frozen? ⟨g,j,none⟩=false:=
 (CurAt.of_own h).1.free j
theorem cN {a b c:World} {r:Option Nat} (h:a.grownBy b r) (k:Below b.heap.size b c):a.grownBy c r:=
 ⟨k.os.trans h.os,k.tape.trans h.tape,k.output.trans h.output,Nat.le_trans h.size k.size,fun i hi hn=>(k.block i (Nat.lt_of_lt_of_le hi h.size)).trans (h.block i hi hn)⟩
theorem lI {a b:World} {r g o:Nat} {x:Option Value} (h:a.grownBy b (some r)) (hc:a.cell? ⟨g,o,none⟩=x) (hg:g<a.heap.size) (hne:g≠r):b.cell? ⟨g,o,none⟩=x:=
 (World.cell?_of_block (h.block g hg (by simpa using hne))).trans hc
theorem iJ {a b:World} {r n size:Nat} {q:Option Addr} {cs:List Value} (h:RowC a q n size cs) (hg:a.grownBy b (some r)) (hr:a.heap.size<=r∨∀x,q=some x->x.block≠r):RowC b q n size cs:=by
 obtain ⟨h1,h2⟩:=h;refine ⟨h1,?_⟩;rcases h2 with h2 | ⟨bk,off,rfl,hlt,hc⟩
 ·exact .inl h2
 ·refine .inr ⟨bk,off,rfl,Nat.lt_of_lt_of_le hlt hg.size,fun i u hu=>?_⟩;exact lI hg (hc i u hu) hlt (by
   rcases hr with hr | hr
   ·omega
   ·exact hr _ rfl)
theorem ga {P:Program} {id:Nat} {Q:Exit->Act->World->Prop} {a:Act} {w:World} {l:List Oper} (n:Nat) (hm:P.follows .mixedOrders=true) (hB:Region.lexTailB .any l.toArray n=true)
 (h:wpStill P l.toArray w.drew (fun a'=>wpList P l.toArray Q (l.drop n) a' w.drew) (l.take n) a):(Code.region id l.toArray true).wp P Q a w:=
 wp_region_still_tail n hm hB h
section
attribute [local go_sem ↓] Go.wp_at_zero Go.wp_at_succ
def ci (va asid l:Int) (x:EntM):Bool:=x.level == l && dv x va asid
def bh (va asid l:Int):Nat->List EntM->Option (Nat × EntM)
 | _,[]=>none
 | i,e::r=>if ci va asid l e=true then some (i,e) else bh va asid l (i+1) r
def cK (l:Int):Option (Nat × EntM)->Option (Bool × Int × Int × Int)
 | none=>none
 | some (i,e)=>some (true,(i:Int),l,e.pte)
def aD (t:TlbM) (va asid:Int):Bool × Int × Int × Int:=
 if cn t=false then (false,0,0,0)
 else ((cK 0 (bh va asid 0 0 t.es)).or ((cK 1 (bh va asid 1 0 t.es)).or (cK 2 (bh va asid 2 0 t.es)))).getD (false,0,0,0)
theorem ey (va asid l:Int):∀(es:List EntM) (i:Nat),(∀(j:Nat) x,es[j]?=some x->ci va asid l x=false)->bh va asid l i es=none
 | [],i,h=>rfl
 | e::r,i,h=>by
  rw [bh,if_neg (by rw [h 0 e rfl];simp)];exact ey va asid l r (i+1) (fun j x hx=>h (j+1) x (by simpa using hx))
theorem ez (va asid l:Int):∀(es:List EntM) (i k:Nat) (x:EntM),es[k]?=some x->ci va asid l x=true->(∀j y,j<k->es[j]?=some y->ci va asid l y=false)->bh va asid l i es=some (i+k,x)
 | e::r,i,0,x,hx,hh,h=>by
  simp at hx;subst hx;rw [bh,if_pos hh];rfl
 | e::r,i,k+1,x,hx,hh,h=>by
  rw [bh,if_neg (by rw [h 0 e (by omega) rfl];simp),ez va asid l r (i+1) k x (by simpa using hx) hh (fun j y hj hy=>h (j+1) y (by omega) (by simpa using hy))];congr 2;omega
theorem ed (t:TlbM) (p:Bool):∀(es:List EntM) (i:Nat),bq t p i es=true->∀j x,es[j]?=some x->aB t p (i+j) x=true
 | e::r,i,h,0,x,hx=>by
  simp at hx;subst hx;simp only [bq,Bool.and_eq_true] at h;exact h.1
 | e::r,i,h,j+1,x,hx=>by
  simp only [bq,Bool.and_eq_true] at h;have:=ed t p r (i+1) h.2 j x (by simpa using hx);rw [show i+(j+1)=i+1+j by omega];exact this
theorem fu {t:TlbM} {p:Bool} {i:Nat} {x:EntM} (h:aB t p i x=true) (hv:x.valid=true):0<=x.level∧x.level<=2:=by
 simp only [aB,Bool.or_eq_true,Bool.and_eq_true] at h;rcases h with h | h
 ·rw [hv] at h;simp at h
 ·have:=h.1;simp only [ay,Bool.and_eq_true,decide_eq_true_eq] at this;exact ⟨this.1.1.1.1.1.2,this.1.1.1.1.2⟩
theorem cB {t:TlbM} (h:cn t=true) (j:Nat) (x:EntM) (hx:t.es[j]?=some x) (hv:x.valid=true):0<=x.level∧x.level<=2:=by
 simp only [cn,aA,Bool.or_eq_true,Bool.and_eq_true] at h;rcases h with h | h
 ·exact fu (ed t true t.es 0 h.2 j x hx) hv
 ·exact fu (ed t false t.es 0 h.2 j x hx) hv
theorem im (t:TlbM) (va asid:Int) (l k:Nat) (x:EntM) (he:cn t=true) (hl:l<=2) (hp:∀l':Nat,l'<l->bh va asid l' 0 t.es=none) (hf:bh va asid l 0 t.es=some (k,x)):
 aD t va asid=(true,(k:Int),(l:Int),x.pte):=by
 unfold aD;rw [if_neg (by rw [he];simp)];rcases (show l=0∨l=1∨l=2 by omega) with rfl | rfl | rfl
 ·have hf':bh va asid 0 0 t.es=some (k,x):=hf;rw [hf'];rfl
 ·have h0:bh va asid 0 0 t.es=none:=hp 0 (by omega);have hf':bh va asid 1 0 t.es=some (k,x):=hf;rw [h0,hf'];rfl
 ·have h0:bh va asid 0 0 t.es=none:=hp 0 (by omega);have h1:bh va asid 1 0 t.es=none:=hp 1 (by omega);have hf':bh va asid 2 0 t.es=some (k,x):=hf;rw [h0,h1,hf'];rfl
theorem fe (t:TlbM) (va asid:Int) (he:cn t=true) (hp:∀l':Nat,l'<3->bh va asid l' 0 t.es=none):aD t va asid=(false,0,0,0):=by
 have h0:bh va asid 0 0 t.es=none:=hp 0 (by omega);have h1:bh va asid 1 0 t.es=none:=hp 1 (by omega);have h2:bh va asid 2 0 t.es=none:=hp 2 (by omega);unfold aD;rw [if_neg (by rw [he];simp),h0,h1,h2];rfl
theorem bO (v:Value) (t:TlbM) (va asid:Int) (w:World) (h:TlbAt w v t) (hv0:0<=va) (hv1:va<=18446744073709551615):
 Calls Tryz.prog 23 #[v,.int .u64 va,.int .u64 asid] w fun e w'=>
  e=.returned (.agg #[.bool (aD t va asid).1,.int .i64 (aD t va asid).2.1,.int .i64 (aD t va asid).2.2.1,.int .u64 (aD t va asid).2.2.2])∧Below w.heap.size w w':=by
 have HT:Hid (TlbAt w v t):=h;obtain ⟨a,cap,rfl,hr,he,hs,hw,hl,hlc,hcm,hnil,hsp⟩:=h;obtain ⟨⟨x1,x2,x3,x4⟩,hX⟩:∃X,aD t va asid=X:=⟨_,rfl⟩;rw [hX];simp only;have HX:Hid (aD t va asid=(x1,x2,x3,x4)):=hX;obtain ⟨eb,heb⟩:∃eb,cn t=eb:=⟨_,rfl⟩;have HEb:Hid (cn t=eb):=heb;obtain ⟨n,hn⟩:∃n,t.es.length=n:=⟨_,rfl⟩;have HN:Hid (t.es.length=n):=hn;rw [hn] at hr hl hlc hnil |-;have HR:Hid (RowC w a n 6 (al t.es)):=hr;have HE:Hid (∀e∈t.es,bf e):=he;have n1:=((Below.refl w.heap.size w).alloc (Nat.le_refl _) (Obj.cells #[.int .i64 t.sets,.int .i64 t.ways,.slice a n cap] 34)).alloc (by simp) (Obj.cells #[.bool false,.int .i64 0,.int .i64 0,.int .u64 0] 58);have H1:Hid (((w.alloc (Obj.cells #[.int .i64 t.sets,.int .i64 t.ways,.slice a n cap] 34)).alloc (Obj.cells #[.bool false,.int .i64 0,.int .i64 0,.int .u64 0] 58)).heap[w.heap.size+1]?=some (.cells #[.bool false,.int .i64 0,.int .i64 0,.int .u64 0] 58 (0,0))):=by
  have:=heap_alloc_new (w.alloc (Obj.cells #[.int .i64 t.sets,.int .i64 t.ways,.slice a n cap] 34)) (Obj.cells #[.bool false,.int .i64 0,.int .i64 0,.int .u64 0] 58);simp only [World.size_alloc] at this;exact this
 have H2:Hid (((w.alloc (Obj.cells #[.int .i64 t.sets,.int .i64 t.ways,.slice a n cap] 34)).alloc (Obj.cells #[.bool false,.int .i64 0,.int .i64 0,.int .u64 0] 58)).cell? ⟨w.heap.size,2,none⟩=some (.slice a n cap)):=by
  show _=_;simp
 have l1:w.heap.size+1<((w.alloc (Obj.cells #[.int .i64 t.sets,.int .i64 t.ways,.slice a n cap] 34)).alloc (Obj.cells #[.bool false,.int .i64 0,.int .i64 0,.int .u64 0] 58)).heap.size:=by simp
 clear hX heb hn hr he hs hw hnil hsp;go_enter Tryz.func23,Tryz.ntmps23;go_wp2_with fail;generalize (w.alloc (Obj.cells #[.int .i64 t.sets,.int .i64 t.ways,.slice a n cap] 34)).alloc (Obj.cells #[.bool false,.int .i64 0,.int .i64 0,.int .u64 0] 58)=v1 at n1 H1 H2 l1 |-;have HTn:Hid (TlbAt w (.agg #[.int .i64 t.sets,.int .i64 t.ways,.slice a n cap]) t):=by have:=HT.out;rw [HN.out] at this;exact this
 refine (iB _ t v1 (HTn.out.keep n1)).mono ?_;rw [HEb.out];rintro e v2 ⟨rfl,n2⟩;have n12:=Below.step n1 n2 (Nat.le_refl _);have K1:Hid (v2.heap[w.heap.size+1]?=some (.cells #[.bool false,.int .i64 0,.int .i64 0,.int .u64 0] 58 (0,0))):=aC H1.out n2 l1;have K2:v2.cell? ⟨w.heap.size,2,none⟩=some (.slice a n cap):=Below.cell2 n2 H2.out (by omega);have l2:w.heap.size+1<v2.heap.size:=Nat.lt_of_lt_of_le l1 n2.size;clear n1 n2 H1 H2 l1;cases eb
 ·obtain ⟨⟨d0,d1,d2,d3⟩,e0,e1,e2,e3⟩:=ag K1.out;have hz:(x1,x2,x3,x4)=(false,0,0,0):=by rw [<-HX.out];unfold aD;rw [if_pos HEb.out]
  cases hz;go_wp2_with fail;exact bodyPost_ret (v:=.agg #[.bool false,.int .i64 0,.int .i64 0,.int .u64 0]) (by simp [results,Tryz.results23,go_sem,d0,d1,d2,d3]) rfl ⟨rfl,dS n12 (by omega) _ _ _ _⟩
 ·go_wp2_with fail;go_loopw [7] (fun lev wr=>∃l:Nat,l<=3∧lev=.int .i64 l∧(∀l':Nat,l'<l->bh va asid l' 0 t.es=none)∧Below v2.heap.size v2 wr) (fun lev _=>3-(intOf lev).toNat)
  case atStart=>exact ⟨0,by omega,rfl,fun l' h=>absurd h (by omega),Below.refl _ _⟩
  case round=>
   obtain ⟨l,hl3,rfl,hprev,hb⟩:=hrel;have HPv:Hid (∀l':Nat,l'<l->bh va asid l' 0 t.es=none):=hprev;clear hprev;by_cases hlt:l<=2
   ·have hlt':decide ((l:Int)<=2)=true:=by simp;omega
    go_wp2_with fail;go_loopw [8] (fun i wq=>∃k:Nat,k<=n∧i=.int .i64 k∧(∀j x,j<k->t.es[j]?=some x->ci va asid l x=false)∧Below v2.heap.size v2 wq) (fun i _=>n-(intOf i).toNat)
    case atStart=>exact ⟨0,Nat.zero_le _,rfl,fun j x hj=>absurd hj (by omega),hb⟩
    case round=>
     obtain ⟨k,hk,rfl,hall,hbq⟩:=hrel;have HA:Hid (∀j x,j<k->t.es[j]?=some x->ci va asid l x=false):=hall;clear hall hb;have d12:=Below.cell2 hbq K2 (by omega);have l3:w.heap.size+1<wr.heap.size:=Nat.lt_of_lt_of_le l2 hbq.size;have n1q:=Below.step n12 hbq (Nat.le_refl _);by_cases hkn:k<n
     ·have hx:∃x:EntM,t.es[k]?=some x:=⟨_,List.getElem?_eq_getElem (by have:=HN.out;omega)⟩;obtain ⟨⟨v,lv,tg,asd,gl,pt⟩,hx⟩:=hx;have hok:bf ⟨v,lv,tg,asd,gl,pt⟩:=HE.out _ (List.mem_of_getElem? hx);have hlv:=cB HEb.out k _ hx;obtain ⟨b,off,rfl⟩:∃b off,a=some ⟨b,off,none⟩:=by
       rcases HR.out.2 with h0 | ⟨b,off,rfl,_,_⟩
       ·omega
       ·exact ⟨b,off,rfl⟩
      have HRr:=RowC.keep HR.out n1q;have g0:wr.cell? ⟨b,off+k*6,none⟩=some (.bool v):=aL HRr HN.out k _ hx 0 _ (by omega) rfl;have g1:wr.cell? ⟨b,off+k*6+1,none⟩=some (.int .i64 lv):=aL HRr HN.out k _ hx 1 _ (by omega) rfl;have g2:wr.cell? ⟨b,off+k*6+2,none⟩=some (.int .u64 tg):=aL HRr HN.out k _ hx 2 _ (by omega) rfl;have g3:wr.cell? ⟨b,off+k*6+3,none⟩=some (.int .u64 asd):=aL HRr HN.out k _ hx 3 _ (by omega) rfl;have g4:wr.cell? ⟨b,off+k*6+4,none⟩=some (.bool gl):=aL HRr HN.out k _ hx 4 _ (by omega) rfl;have g5:wr.cell? ⟨b,off+k*6+5,none⟩=some (.int .u64 pt):=aL HRr HN.out k _ hx 5 _ (by omega) rfl;have HXk:Hid (t.es[k]?=some ⟨v,lv,tg,asd,gl,pt⟩):=hx;have HLv:Hid (v=true->0<=lv∧lv<=2):=hlv;have HPt:Hid (ci va asid l ⟨v,lv,tg,asd,gl,pt⟩=false->∀j x,j<k+1->t.es[j]?=some x->ci va asid l x=false):=fun h j x hj hx'=>by
       by_cases e:j=k
       ·subst e;rw [hx] at hx';cases hx';exact h
       ·exact HA.out j x (by omega) hx'
      clear hx HRr hlv;obtain ⟨fv,hfv⟩:∃fv,dv ⟨v,lv,tg,asd,gl,pt⟩ va asid=fv:=⟨_,rfl⟩;have HF:Hid (dv ⟨v,lv,tg,asd,gl,pt⟩ va asid=fv):=hfv;clear hfv;cases hq:(lv == (l:Int))
      ·go_wp2_with fail;go_roundw
       case rel=>exact ⟨k+1,by omega,by go_num,HPt.out (by simp [ci,hq]),hbq⟩
       case measure=>simp [intOf];omega
      ·have hq':lv=(l:Int):=by simpa using hq
       subst hq';clear hq;go_wp2_with fail;refine (jU ⟨v,(l:Int),tg,asd,gl,pt⟩ va asid wr hok HLv.out hv0 hv1).mono ?_;rw [HF.out];rintro e v5 ⟨rfl,n5⟩;have hb5:=Below.step hbq n5 (Nat.le_refl _);have n15:=Below.step n1q n5 (Nat.le_refl _);have p5:v5.cell? ⟨b,off+k*6+5,none⟩=some (.int .u64 pt):=Below.cell2 n5 g5 (by
        rcases HR.out.2 with h0 | ⟨b',off',e,hlt',_⟩
        ·omega
        ·cases e;exact Nat.lt_of_lt_of_le hlt' n1q.size)
       have p12:=Below.cell2 n5 d12 (by omega);obtain ⟨⟨d0,d1,d2,d3⟩,e0,e1,e2,e3⟩:=ag (aC K1.out hb5 l2);clear g0 g1 g2 g3 g4 g5 d12 n5;cases fv
       ·clear d0 d1 d2 d3 e0 e1 e2 e3 p5;go_wp2_with fail;go_roundw
        case rel=>exact ⟨k+1,by omega,by go_num,HPt.out (by simp [ci,HF.out]),hb5⟩
        case measure=>simp [intOf];omega
       ·have hh:ci va asid l ⟨v,(l:Int),tg,asd,gl,pt⟩=true:=by simp [ci,HF.out]
        have hfind:=ez va asid l t.es 0 k _ HXk.out hh HA.out;have HV:Hid ((x1,x2,x3,x4)=(true,(k:Int),(l:Int),pt)):=by
         show _=_;rw [<-HX.out];exact im t va asid l k _ HEb.out hlt HPv.out (by rw [hfind,Nat.zero_add])
        clear hh hfind;have hV:=HV.out;cases hV;go_wp2_with fail;exact bodyPost_ret (v:=.agg #[.bool true,.int .i64 k,.int .i64 l,.int .u64 x4]) (by simp [results,Tryz.results23,go_sem,d0,d1,d2,d3]) rfl ⟨rfl,dS n15 (by omega) _ _ _ _⟩
     ·have hkn':k=n:=by omega
      have HF:Hid (bh va asid l 0 t.es=none):=ey va asid l t.es 0 (fun j x hx=>HA.out j x (by have h1:=(List.getElem?_eq_some_iff.1 hx).1;have h2:=HN.out;omega) hx);go_wp2_with fail;go_roundw
      case rel=>exact ⟨l+1,by omega,by go_num,fun l' h=>by
       by_cases e:l'=l
       ·subst e;exact HF.out
       ·exact HPv.out l' (by omega),hbq⟩
      case measure=>simp [intOf];omega
   ·obtain ⟨⟨d0,d1,d2,d3⟩,e0,e1,e2,e3⟩:=ag (aC K1.out hb l2);have n14:=Below.step n12 hb (Nat.le_refl _);have hz:(x1,x2,x3,x4)=(false,0,0,0):=by
     rw [<-HX.out];exact fe t va asid HEb.out (fun l' h=>HPv.out l' (by omega))
    cases hz;clear K2;go_wp2_with fail;exact bodyPost_ret (v:=.agg #[.bool false,.int .i64 0,.int .i64 0,.int .u64 0]) (by simp [results,Tryz.results23,go_sem,d0,d1,d2,d3]) rfl ⟨rfl,dS n14 (by omega) _ _ _ _⟩
end
structure KM where
 i:TlbM
 d:TlbM
 p:TlbM
def lK:TlbM:=⟨0,0,[]⟩
def k0M:KM:=⟨lK,lK,lK⟩
def bn (k:KM):Bool:=aA k.i false && aA k.d false && aA k.p true
def bB (level va satp pte:Int):EntM:=⟨true,level,bP va level,au satp,aI pte 32,pte⟩
def dK (t:TlbM) (e:EntM):Bool:=(aA t true && ay e true) || (aA t false && ay e false)
def bD (t:TlbM) (e:EntM):Nat:=(e.tag%t.sets*t.ways).toNat
def cG (t:TlbM) (e:EntM) (pick:Int):Nat:=(dY t.es (bD t e) 0 t.ways.toNat).getD (pick%t.ways).toNat
def be (t:TlbM) (e:EntM) (pick:Int):TlbM:=
 if dK t e=true∧0<=pick∧pick<=255 then ⟨t.sets,t.ways,t.es.set (bD t e+cG t e pick) e⟩ else t
def aR (va satp pick:Int):List bF->TlbM->TlbM
 | [],p=>p
 | r::rs,p=>aR va satp pick rs (if aH r.2.2 r.1=1 then be p (bB r.1 va satp r.2.2) pick else p)
def aK (zs:List Int) (satp va:Int) (up:Bool × Int × Int × Int):Int × Int × Int × List bF:=
 if up.1=true then bb zs va (up.2.2.1-1).toNat (bj up.2.2.2) else aQ zs satp va
def iN (k:KM) (kind:Int) (t:TlbM):KM:=if kind=0 then ⟨t,k.d,k.p⟩ else ⟨k.i,t,k.p⟩
def cj (k:KM) (kind:Int):TlbM:=if kind=0 then k.i else k.d
def aX (zs:List Int) (mode:Int) (sum mxr:Bool) (satp:Int) (k:KM) (kind va pick:Int):(Int × Int) × KM:=
 if bn k=false∨kind<0∨2<kind∨mode<0∨2<mode∨pick<0∨255<pick then ((63,0),k0M)
 else if onM mode satp=false then ((0,va),k)
 else if bH va=false then ((ck kind,0),k)
 else if (aD (cj k kind) va (au satp)).1=true then (ct (aD (cj k kind) va (au satp)).2.2.2 (aD (cj k kind) va (au satp)).2.2.1 mode sum mxr kind va,k)
 else
  let r:=aK zs satp va (aD k.p va (au satp))
  let a:=bx r mode sum mxr kind va
  let k':KM:=⟨k.i,k.d,aR va satp pick r.2.2.2 k.p⟩
  (a,if a.1=0 then iN k' kind (be (cj k kind) (bB r.2.1 va satp r.2.2.1) pick) else k')
theorem cP {t:TlbM} {p:Bool} (h:aA t p=true):(t.sets=1∨t.sets=2∨t.sets=4∨t.sets=8)∧1<=t.ways∧t.ways<=4∧(t.es.length:Int)=t.sets*t.ways:=by
 simp only [aA,Bool.and_eq_true,dm,decide_eq_true_eq] at h;exact h.1
theorem eX {t:TlbM} {p:Bool} (h:aA t p=true) (j:Nat) (x:EntM) (hx:t.es[j]?=some x):aB t p j x=true:=by
 simp only [aA,Bool.and_eq_true] at h;have:=ed t p t.es 0 h.2 j x hx;simpa using this
theorem kY {t:TlbM} {p:Bool} (h:dm t=true) (hp:∀(j:Nat) x,t.es[j]?=some x->aB t p j x=true):aA t p=true:=by
 simp only [aA,Bool.and_eq_true];exact ⟨h,bI t p t.es 0 (fun j x hx=>by simpa using hp j x hx)⟩
theorem cX {t:TlbM} {p:Bool} (h:aA t p=true):cn t=true:=by
 cases p <;> simp [cn,h]
theorem js (es:List EntM) (first:Nat):∀(left w r:Nat),dY es first w left=some r->w<=r∧r<w+left
 | 0,w,r,h=>by simp [dY] at h
 | left+1,w,r,h=>by
  rw [dY] at h;split at h
  ·cases h;omega
  ·have:=js es first left (w+1) r h
   omega
theorem km (t:TlbM) (e:EntM) (pick:Int) (hw:1<=t.ways) (hw':t.ways<=4):(cG t e pick:Int)<t.ways:=by
 unfold cG;cases h:dY t.es (bD t e) 0 t.ways.toNat with
 | none=>
  simp only [Option.getD_none];have h1:0<=pick%t.ways:=Int.emod_nonneg _ (by omega);have h2:pick%t.ways<t.ways:=Int.emod_lt_of_pos _ (by omega);omega
 | some r=>
  simp only [Option.getD_some];have:=js _ _ _ _ _ h;omega
theorem gh {t:TlbM} {e:EntM} (ht:0<=e.tag) (hs:t.sets=1∨t.sets=2∨t.sets=4∨t.sets=8) (hw:1<=t.ways):(bD t e:Int)=e.tag%t.sets*t.ways:=by
 unfold bD;have:0<=e.tag%t.sets:=Int.emod_nonneg _ (by omega);have:=Int.mul_nonneg this (by omega:0<=t.ways);omega
theorem mp {t:TlbM} {p:Bool} {e:EntM} {pick:Int} (hv:aA t p=true) (ht:0<=e.tag):bD t e+cG t e pick<t.es.length:=by
 obtain ⟨hs,hw,hw',hl⟩:=cP hv;have h1:=gh (e:=e) ht hs hw;have h2:=km t e pick hw hw';have h3:e.tag%t.sets<t.sets:=Int.emod_lt_of_pos _ (by omega);have h4:0<=e.tag%t.sets:=Int.emod_nonneg _ (by omega);have h5:(e.tag%t.sets+1)*t.ways<=t.sets*t.ways:=Int.mul_le_mul_of_nonneg_right (by omega) (by omega);rw [Int.add_mul] at h5;omega
theorem lL {t:TlbM} {p:Bool} {e:EntM} {pick:Int} (hv:aA t p=true) (ht:0<=e.tag):((bD t e+cG t e pick:Nat):Int)/t.ways=e.tag%t.sets:=by
 obtain ⟨hs,hw,hw',hl⟩:=cP hv;have h1:=gh (e:=e) ht hs hw;have h2:=km t e pick hw hw';rw [show ((bD t e+cG t e pick:Nat):Int)=(cG t e pick:Int)+(e.tag%t.sets)*t.ways by omega,Int.add_mul_ediv_right _ _ (by omega)];rw [Int.ediv_eq_zero_of_lt (by omega) h2];omega
theorem kG {e:EntM} {p:Bool} (h:ay e p=true):aH e.pte e.level=cM p:=by
 simp only [ay,Bool.and_eq_true,beq_iff_eq] at h;exact h.2
theorem iO (t:TlbM) (e:EntM) (pick:Int) (p:Bool) (hv:aA t p=true) (hg:ay e p=true) (ht:0<=e.tag):aA (be t e pick) p=true:=by
 unfold be;split
 ·have hs:=cP hv;refine kY ?_ ?_
  ·simp only [dm,decide_eq_true_eq,List.length_set];exact hs
  ·intro j x hx;simp only [List.getElem?_set] at hx;split at hx
   ·rename_i hj;split at hx
    ·cases hx;subst hj;simp only [aB,Bool.or_eq_true,Bool.and_eq_true,beq_iff_eq];exact .inr ⟨hg,(lL (pick:=pick) hv ht).symm⟩
    ·cases hx
   ·exact eX hv j x hx
 ·exact hv
section
attribute [local go_sem ↓] Go.wp_at_zero Go.wp_at_succ
theorem dx:∀(l:List EntM) (k:Nat) (e:EntM),k<l.length->al (l.set k e)=((((((al l).set (k*6) (.bool e.valid)).set (k*6+1) (.int .i64 e.level)).set (k*6+2) (.int .u64 e.tag)).set (k*6+3) (.int .u64 e.asid)).set (k*6+4) (.bool e.glob)).set (k*6+5) (.int .u64 e.pte)
 | x::r,0,e,h=>by simp [al,cJ]
 | x::r,k+1,e,h=>by
  have ih:=dx r k e (by simpa using h);rw [List.set_cons_succ];simp only [al,ih];rw [show (k+1)*6=(cJ x).length+k*6 by simp [cJ];omega];simp only [Nat.add_assoc];rw [List.set_append_right _ _ (by simp [cJ]),List.set_append_right _ _ (by omega),List.set_append_right _ _ (by omega),List.set_append_right _ _ (by omega),List.set_append_right _ _ (by omega),List.set_append_right _ _ (by omega)];simp
end
section
attribute [local go_sem ↓] Go.wp_at_zero Go.wp_at_succ
theorem eM (a:Option Addr) (n cap:Nat) (left:Int) (w:World) (hn:(n:Int)<=9223372036854775807) (h0:0<=left) (h1:left<=1048576):
 Calls Tryz.prog 43 #[.slice a n cap,.int .i64 left] w fun e w'=>e=.returned (.int .i64 (if left<n then -1 else left-n))∧w'=w:=by
 by_cases h:left<n
 ·rw [if_pos h];go_enter Tryz.func43,Tryz.ntmps43;go_wp2_with fail;go_ret;exact ⟨rfl,rfl⟩
 ·rw [if_neg h];go_enter Tryz.func43,Tryz.ntmps43;go_wp2_with fail;go_ret;exact ⟨rfl,rfl⟩
theorem iY (v:Bool) (l t a:Int) (g:Bool) (p:Int) (w:World):
 Calls Tryz.prog 78 #[.agg #[.bool v,.int .i64 l,.int .u64 t,.int .u64 a,.bool g,.int .u64 p]] w fun e w'=>e=.returned (.agg #[.bool v,.int .i64 l,.int .u64 t,.int .u64 a,.bool g,.int .u64 p])∧Below w.heap.size w w':=by
 go_enter Tryz.func78,Tryz.ntmps78;go_wp2_with fail;exact bodyPost_ret (v:=.agg #[.bool v,.int .i64 l,.int .u64 t,.int .u64 a,.bool g,.int .u64 p]) (by simp [results,Tryz.results78,go_sem]) rfl ⟨rfl,(((Below.refl _ _).alloc (Nat.le_refl _) _).alloc (by simp) _).alloc (by simp;omega) _⟩
theorem lA (es:List EntM) (ys:List Value) (k n:Nat) (x:EntM) (hx:es[k]?=some x) (hy:ys.length=n*6) (hk:k<n) (hn:es.length=n) (h:∀t,t<k*6->ys[t]?=(al es)[t]?):
 ∀t,t<(k+1)*6->((((((ys.set (k*6) (.bool x.valid)).set (k*6+1) (.int .i64 x.level)).set (k*6+2) (.int .u64 x.tag)).set (k*6+3) (.int .u64 x.asid)).set (k*6+4) (.bool x.glob)).set (k*6+5) (.int .u64 x.pte))[t]?=(al es)[t]?:=by
 intro t ht;obtain ⟨hk',rfl⟩:=List.getElem?_eq_some_iff.1 hx;have hj:=fun j hj=>dU es k j hk' hj;by_cases h0:t<k*6
 ·simp only [List.getElem?_set];rw [if_neg (by omega),if_neg (by omega),if_neg (by omega),if_neg (by omega),if_neg (by omega),if_neg (by omega)];exact h t h0
 ·rcases (show t=k*6∨t=k*6+1∨t=k*6+2∨t=k*6+3∨t=k*6+4∨t=k*6+5 by omega) with rfl | rfl | rfl | rfl | rfl | rfl
  ·have h6:(al es)[k*6]?=(cJ es[k])[0]?:=hj 0 (by omega);rw [h6,List.getElem?_set_ne (by omega),List.getElem?_set_ne (by omega),List.getElem?_set_ne (by omega),List.getElem?_set_ne (by omega),List.getElem?_set_ne (by omega),List.getElem?_set_self (by omega)];rfl
  ·rw [hj 1 (by omega),List.getElem?_set_ne (by omega),List.getElem?_set_ne (by omega),List.getElem?_set_ne (by omega),List.getElem?_set_ne (by omega),List.getElem?_set_self (by simp;omega)];rfl
  ·rw [hj 2 (by omega),List.getElem?_set_ne (by omega),List.getElem?_set_ne (by omega),List.getElem?_set_ne (by omega),List.getElem?_set_self (by simp;omega)];rfl
  ·rw [hj 3 (by omega),List.getElem?_set_ne (by omega),List.getElem?_set_ne (by omega),List.getElem?_set_self (by simp;omega)];rfl
  ·rw [hj 4 (by omega),List.getElem?_set_ne (by omega),List.getElem?_set_self (by simp;omega)];rfl
  ·rw [hj 5 (by omega),List.getElem?_set_self (by simp;omega)];rfl
theorem io (a:Option Addr) (n cap:Nat) (es:List EntM) (w:World) (h:RowC w a n 6 (al es)) (hn:es.length=n) (hl:n<=1048576):
 Calls Tryz.prog 59 #[.slice a n cap] w fun e w'=>
  e=.returned (.slice (some ⟨w.heap.size,0,none⟩) n n)∧w'.ownsRow w.heap.size 74 6 (.slice (some ⟨w.heap.size,0,none⟩) n n) n (al es)∧Below w.heap.size w w':=by
 obtain ⟨i0,hi,hz0,hz1,hz2⟩:=info_parts Tryz.infoEnt;have HR:Hid (RowC w a n 6 (al es)):=h;clear h;go_enter Tryz.func59,Tryz.ntmps59;go_wp2_with (at_make;refine wpList_make_full _ rfl _ _ 32 rfl w.heap.size 74 i0 (.agg #[.bool false,.int .i64 0,.int .u64 0,.int .u64 0,.bool false,.int .u64 0]) 6 Tryz.underlying32 hi hz0 hz1 _ _ _ _ n rfl rfl rfl rfl ?b2 ?b3 (Nat.le_refl _) ?_)
 case b2=>rw [hz2];omega
 case b3=>unfold maxLen;omega
 intro w0 hown0 hgrow0;have hn0:Below w.heap.size w w0:=(Below.refl _ _).grown hgrow0 (Nat.le_refl _) (fun k h=>by cases h);have HO0:Hid _:=hown0;clear hown0 hgrow0;go_wp2_with fail;go_loopw [4] (fun i wr=>∃(k:Nat) (ys:List Value),k<=n∧i=.int .i64 k∧(∀t,t<k*6->ys[t]?=(al es)[t]?)∧wr.ownsRow w.heap.size 74 6 (.slice (some ⟨w.heap.size,0,none⟩) n n) n ys∧Below w.heap.size w wr) (fun i _=>n-(intOf i).toNat)
 case atStart=>exact ⟨0,_,Nat.zero_le _,rfl,fun t ht=>absurd ht (by omega),HO0.out,hn0⟩
 case round=>
  obtain ⟨k,ys,hk,rfl,hyz,hO,hb⟩:=hrel;have HO:Hid (wr.ownsRow w.heap.size 74 6 (.slice (some ⟨w.heap.size,0,none⟩) n n) n ys):=hO;have HZ:Hid (∀t,t<k*6->ys[t]?=(al es)[t]?):=hyz;have hyl:ys.length=n*6:=hO.1;clear hO hyz;by_cases hlt:k<n
  ·obtain ⟨x,hx⟩:∃x,es[k]?=some x:=⟨_,List.getElem?_eq_getElem (by omega)⟩;obtain ⟨b,off,rfl,hbb⟩:∃b off,a=some ⟨b,off,none⟩∧b<w.heap.size:=by
    rcases HR.out.2 with h | ⟨b,off,h,h2,_⟩
    ·omega
    ·exact ⟨b,off,h,h2⟩
   have CE:∀j u,j<6->(cJ x)[j]?=some u->wr.cell? ⟨b,off+(k*6+j),none⟩=some u:=fun j u hj hu=>
    Below.cell2 hb (aL HR.out hn k x hx j u hj hu) hbb
   obtain ⟨vv,lv,tg,asd,gl,pt⟩:=x;have g0:wr.cell? ⟨b,off+k*6,none⟩=some (.bool vv):=CE 0 _ (by omega) rfl;have g1:wr.cell? ⟨b,off+k*6+1,none⟩=some (.int .i64 lv):=CE 1 _ (by omega) rfl;have g2:wr.cell? ⟨b,off+k*6+2,none⟩=some (.int .u64 tg):=CE 2 _ (by omega) rfl;have g3:wr.cell? ⟨b,off+k*6+3,none⟩=some (.int .u64 asd):=CE 3 _ (by omega) rfl;have g4:wr.cell? ⟨b,off+k*6+4,none⟩=some (.bool gl):=CE 4 _ (by omega) rfl;have g5:wr.cell? ⟨b,off+k*6+5,none⟩=some (.int .u64 pt):=CE 5 _ (by omega) rfl;have HX:Hid (es[k]?=some ⟨vv,lv,tg,asd,gl,pt⟩):=hx;clear CE hx;go_wp2_with fail;refine (iY vv lv tg asd gl pt wr).mono ?_;rintro e v2 ⟨rfl,n2⟩;have O2:Hid (v2.ownsRow w.heap.size 74 6 (.slice (some ⟨w.heap.size,0,none⟩) n n) n ys):=ae HO.out n2;have A2:=Below.step hb n2 (Nat.le_refl _);clear g0 g1 g2 g3 g4 g5 HO hb n2;have y0:=an O2.out (k*6) _ (List.getElem?_eq_getElem (by omega));have y1:=an O2.out (k*6+1) _ (List.getElem?_eq_getElem (by omega));have y2:=an O2.out (k*6+2) _ (List.getElem?_eq_getElem (by omega));have y3:=an O2.out (k*6+3) _ (List.getElem?_eq_getElem (by omega));have y4:=an O2.out (k*6+4) _ (List.getElem?_eq_getElem (by omega));have y5:=an O2.out (k*6+5) _ (List.getElem?_eq_getElem (by omega));generalize ys[k*6]'_=z0 at y0;generalize ys[k*6+1]'_=z1 at y1;generalize ys[k*6+2]'_=z2 at y2;generalize ys[k*6+3]'_=z3 at y3;generalize ys[k*6+4]'_=z4 at y4;generalize ys[k*6+5]'_=z5 at y5;have r0:=ar O2.out (k*6);have r1:=ar O2.out (k*6+1);have r2:=ar O2.out (k*6+2);have r3:=ar O2.out (k*6+3);have r4:=ar O2.out (k*6+4);have r5:=ar O2.out (k*6+5);go_wp2_with fail;go_roundw
   case rel=>
    refine ⟨k+1,_,by omega,by go_num,lA es ys k n _ HX.out hyl hlt hn HZ.out,ak (ak (ak (ak (ak (ak O2.out _ _) _ _) _ _) _ _) _ _) _ _,A2.grown (aj (aj (aj (aj (aj (aj (aO v2 (some w.heap.size)) _ _) _ _) _ _) _ _) _ _) _ _) A2.size (fun q hq=>by cases hq;omega)⟩
   case measure=>simp [intOf];omega
  ·have hyy:ys=al es:=by
    apply List.ext_getElem?;intro t;by_cases ht:t<n*6
    ·exact HZ.out t (by omega)
    ·rw [List.getElem?_eq_none (by omega),List.getElem?_eq_none (by rw [bQ];omega)]
   rw [hyy] at HO;clear HZ hyl hyy;go_wp2_with fail;go_ret;exact ⟨rfl,HO.out,hb⟩
theorem fg (sets ways:Int) (a:Option Addr) (n cap:Nat) (es:List EntM) (w:World) (h:RowC w a n 6 (al es)) (hn:es.length=n) (hl:n<=1048576):
 Calls Tryz.prog 33 #[.agg #[.int .i64 sets,.int .i64 ways,.slice a n cap]] w fun e w'=>(∃x,e=.returned x∧TlbOwn w.heap.size w' x ⟨sets,ways,es⟩)∧Below w.heap.size w w':=by
 have n1:=(((Below.refl w.heap.size w).alloc (Nat.le_refl _) (Obj.cells #[.int .i64 sets,.int .i64 ways,.slice a n cap] 28)).alloc (by simp) (Obj.cells #[.int .i64 0,.int .i64 0,.slice none 0 0] 34)).alloc (by simp;omega) (Obj.cells #[.int .i64 sets,.int .i64 ways,.slice none 0 0] 34);have HR:Hid (RowC (((w.alloc (Obj.cells #[.int .i64 sets,.int .i64 ways,.slice a n cap] 28)).alloc (Obj.cells #[.int .i64 0,.int .i64 0,.slice none 0 0] 34)).alloc (Obj.cells #[.int .i64 sets,.int .i64 ways,.slice none 0 0] 34)) a n 6 (al es)):=h.keep n1;have H2:Hid ((((w.alloc (Obj.cells #[.int .i64 sets,.int .i64 ways,.slice a n cap] 28)).alloc (Obj.cells #[.int .i64 0,.int .i64 0,.slice none 0 0] 34)).alloc (Obj.cells #[.int .i64 sets,.int .i64 ways,.slice none 0 0] 34)).heap[w.heap.size+1]?=some (.cells #[.int .i64 0,.int .i64 0,.slice none 0 0] 34 (0,0))):=by
  show _=_;rw [heap_alloc_old _ _ (by simp)];have:=heap_alloc_new (w.alloc (Obj.cells #[.int .i64 sets,.int .i64 ways,.slice a n cap] 28)) (Obj.cells #[.int .i64 0,.int .i64 0,.slice none 0 0] 34);simp only [World.size_alloc] at this;exact this
 have H3:Hid ((((w.alloc (Obj.cells #[.int .i64 sets,.int .i64 ways,.slice a n cap] 28)).alloc (Obj.cells #[.int .i64 0,.int .i64 0,.slice none 0 0] 34)).alloc (Obj.cells #[.int .i64 sets,.int .i64 ways,.slice none 0 0] 34)).heap[w.heap.size+1+1]?=some (.cells #[.int .i64 sets,.int .i64 ways,.slice none 0 0] 34 (0,0))):=by
  have:=heap_alloc_new ((w.alloc (Obj.cells #[.int .i64 sets,.int .i64 ways,.slice a n cap] 28)).alloc (Obj.cells #[.int .i64 0,.int .i64 0,.slice none 0 0] 34)) (Obj.cells #[.int .i64 sets,.int .i64 ways,.slice none 0 0] 34);simp only [World.size_alloc] at this;exact this
 have l1:w.heap.size+1+1<(((w.alloc (Obj.cells #[.int .i64 sets,.int .i64 ways,.slice a n cap] 28)).alloc (Obj.cells #[.int .i64 0,.int .i64 0,.slice none 0 0] 34)).alloc (Obj.cells #[.int .i64 sets,.int .i64 ways,.slice none 0 0] 34)).heap.size:=by simp
 clear h;go_enter Tryz.func33,Tryz.ntmps33;go_wp2_with fail;generalize (((w.alloc (Obj.cells #[.int .i64 sets,.int .i64 ways,.slice a n cap] 28)).alloc (Obj.cells #[.int .i64 0,.int .i64 0,.slice none 0 0] 34)).alloc (Obj.cells #[.int .i64 sets,.int .i64 ways,.slice none 0 0] 34))=v1 at n1 HR H2 H3 l1 |-;refine (io a n cap es v1 HR.out hn hl).mono ?_;rintro e v2 ⟨rfl,o2,n2⟩;have O2:Hid (v2.ownsRow v1.heap.size 74 6 (.slice (some ⟨v1.heap.size,0,none⟩) n n) n (al es)):=o2;have A2:=Below.step n1 n2 (Nat.le_refl _);have K2:=aa H2 n2;have K3:=aa H3 n2;obtain ⟨⟨d0,d1,d2⟩,e0,e1,e2⟩:=ai K2.out;obtain ⟨⟨p0,p1,p2⟩,f0,f1,f2⟩:=ai K3.out;clear o2 n1 n2 HR H2 H3;go_wp2_with fail;refine bodyPost_ret (v:=.agg #[.int .i64 sets,.int .i64 ways,.slice (some ⟨v1.heap.size,0,none⟩) n n]) (by simp [results,Tryz.results33,go_sem,d0,d1,d2]) rfl ⟨⟨_,rfl,v1.heap.size,n,by simp only;rw [hn],?_⟩,cA (A2.setCell (p:=⟨w.heap.size+1+1,2,none⟩) (by show w.heap.size<=w.heap.size+1+1;omega) _) (by omega) _ _ _⟩;simp only;rw [hn];exact ax (bg (bg O2.out (aj (aO v2 (some (w.heap.size+1+1))) 2 _) l1) (gb3 _ (w.heap.size+1) _ _ _) (by omega)) (by omega)
theorem fh (sets ways:Int) (a:Option Addr) (n cap:Nat) (left:Int) (w:World) (hn:(n:Int)<=9223372036854775807) (h0:0<=left) (h1:left<=1048576):
 Calls Tryz.prog 17 #[.agg #[.int .i64 sets,.int .i64 ways,.slice a n cap],.int .i64 left] w fun e w'=>e=.returned (.int .i64 (if left<n then -1 else left-n))∧Below w.heap.size w w':=by
 have n1:=(Below.refl w.heap.size w).alloc (Nat.le_refl _) (Obj.cells #[.int .i64 sets,.int .i64 ways,.slice a n cap] 28);by_cases h:left<n
 ·rw [if_pos h];have HS:Hid (∀w,Calls Tryz.prog 43 #[.slice a n cap,.int .i64 left] w fun e w'=>e=.returned (.int .i64 (-1))∧w'=w):=fun w=>by
   have:=eM a n cap left w hn h0 h1;rw [if_pos h] at this;exact this
  clear h;go_enter Tryz.func17,Tryz.ntmps17;go_wp2_with (go_at_call 43;refine (HS.out _).mono ?_;rintro e w' ⟨rfl,rfl⟩);go_ret;exact ⟨rfl,n1⟩
 ·rw [if_neg h];have HS:Hid (∀w,Calls Tryz.prog 43 #[.slice a n cap,.int .i64 left] w fun e w'=>e=.returned (.int .i64 (left-n))∧w'=w):=fun w=>by
   have:=eM a n cap left w hn h0 h1;rw [if_neg h] at this;exact this
  have h':decide (left-(n:Int)<0)=false:=by rw [decide_eq_false_iff_not];omega
  clear h;go_enter Tryz.func17,Tryz.ntmps17;go_wp2_with (go_at_call 43;refine (HS.out _).mono ?_;rintro e w' ⟨rfl,rfl⟩);go_ret;exact ⟨rfl,n1⟩
end
section
attribute [local go_sem ↓] Go.wp_at_zero Go.wp_at_succ
theorem iA (v:Bool) (l t a:Int) (g:Bool) (p:Int) (w:World):
 Calls Tryz.prog 95 #[.agg #[.bool v,.int .i64 l,.int .u64 t,.int .u64 a,.bool g,.int .u64 p],.agg #[.bool v,.int .i64 l,.int .u64 t,.int .u64 a,.bool g,.int .u64 p]] w fun e w'=>e=.returned (.bool true)∧Below w.heap.size w w':=by
 cases v <;> cases g;all_goals
  go_enter Tryz.func95,Tryz.ntmps95;go_wp2_with fail;go_ret;exact ⟨rfl,((Below.refl _ _).alloc (Nat.le_refl _) _).alloc (by simp) _⟩
theorem gH (a b:Option Addr) (n ca cb:Nat) (es:List EntM) (w:World) (h:RowC w a n 6 (al es)) (h':RowC w b n 6 (al es)) (hn:es.length=n) (hl:n<=1048576):
 Calls Tryz.prog 73 #[.slice a n ca,.slice b n cb] w fun e w'=>e=.returned (.bool true)∧Below w.heap.size w w':=by
 have HR:Hid (RowC w a n 6 (al es)):=h;have HR':Hid (RowC w b n 6 (al es)):=h';clear h h';go_enter Tryz.func73,Tryz.ntmps73;go_wp2_with fail;go_loopw [5] (fun i wr=>∃(k:Nat),k<=n∧i=.int .i64 k∧Below w.heap.size w wr) (fun i _=>n-(intOf i).toNat)
 case atStart=>exact ⟨0,Nat.zero_le _,rfl,Below.refl _ _⟩
 case round=>
  obtain ⟨k,hk,rfl,hb⟩:=hrel;by_cases hlt:k<n
  ·obtain ⟨x,hx⟩:∃x:EntM,es[k]?=some x:=⟨_,List.getElem?_eq_getElem (by omega)⟩;have R1:=RowC.keep HR.out hb;have R2:=RowC.keep HR'.out hb;obtain ⟨b1,o1,rfl,lb1⟩:∃b1 o1,a=some ⟨b1,o1,none⟩∧b1<wr.heap.size:=by
    rcases R1.2 with h | ⟨b1,o1,h,h2,_⟩
    ·omega
    ·exact ⟨b1,o1,h,h2⟩
   obtain ⟨b2,o2,rfl,lb2⟩:∃b2 o2,b=some ⟨b2,o2,none⟩∧b2<wr.heap.size:=by
    rcases R2.2 with h | ⟨b2,o2,h,h2,_⟩
    ·omega
    ·exact ⟨b2,o2,h,h2⟩
   obtain ⟨vv,lv,tg,asd,gl,pt⟩:=x;have C1:=fun j u hj hu=>af (aL R1 hn k _ hx j u hj hu) lb1;have C2:=fun j u hj hu=>af (aL R2 hn k _ hx j u hj hu) lb2;have g0:∀u:Lies wr,u.w.cell? ⟨b1,o1+k*6,none⟩=some (.bool vv):=C1 0 _ (by omega) rfl;have g1:∀u:Lies wr,u.w.cell? ⟨b1,o1+k*6+1,none⟩=some (.int .i64 lv):=C1 1 _ (by omega) rfl;have g2:∀u:Lies wr,u.w.cell? ⟨b1,o1+k*6+2,none⟩=some (.int .u64 tg):=C1 2 _ (by omega) rfl;have g3:∀u:Lies wr,u.w.cell? ⟨b1,o1+k*6+3,none⟩=some (.int .u64 asd):=C1 3 _ (by omega) rfl;have g4:∀u:Lies wr,u.w.cell? ⟨b1,o1+k*6+4,none⟩=some (.bool gl):=C1 4 _ (by omega) rfl;have g5:∀u:Lies wr,u.w.cell? ⟨b1,o1+k*6+5,none⟩=some (.int .u64 pt):=C1 5 _ (by omega) rfl;have f0:∀u:Lies wr,u.w.cell? ⟨b2,o2+k*6,none⟩=some (.bool vv):=C2 0 _ (by omega) rfl;have f1:∀u:Lies wr,u.w.cell? ⟨b2,o2+k*6+1,none⟩=some (.int .i64 lv):=C2 1 _ (by omega) rfl;have f2:∀u:Lies wr,u.w.cell? ⟨b2,o2+k*6+2,none⟩=some (.int .u64 tg):=C2 2 _ (by omega) rfl;have f3:∀u:Lies wr,u.w.cell? ⟨b2,o2+k*6+3,none⟩=some (.int .u64 asd):=C2 3 _ (by omega) rfl;have f4:∀u:Lies wr,u.w.cell? ⟨b2,o2+k*6+4,none⟩=some (.bool gl):=C2 4 _ (by omega) rfl;have f5:∀u:Lies wr,u.w.cell? ⟨b2,o2+k*6+5,none⟩=some (.int .u64 pt):=C2 5 _ (by omega) rfl;have ne:=aT wr;clear C1 C2 R1 R2 hx;go_wp2_with fail;refine am (by kernel_rfl) (by kernel_rfl) ?_;repeat (go_big_quiet_step ((go_at_call 95;exact ao _ (iA _ _ _ _ _ _ _))))
   refine wpQuiet_nil ?_;rintro _ ⟨u,rfl⟩;have hb2:=Below.step hb u.h (Nat.le_refl _);generalize u.w=v2 at hb2 |-;clear g0 g1 g2 g3 g4 g5 f0 f1 f2 f3 f4 f5 hb;go_wp2_with fail;go_roundw
   case rel=>exact ⟨k+1,by omega,by go_num,hb2⟩
   case measure=>simp [intOf];omega
  ·clear HR HR';go_wp2_with fail;go_ret;exact ⟨rfl,hb⟩
theorem jT (sets ways:Int) (a b:Option Addr) (n ca cb:Nat) (es:List EntM) (w:World) (h:RowC w a n 6 (al es)) (h':RowC w b n 6 (al es)) (hn:es.length=n) (hl:n<=1048576):
 Calls Tryz.prog 40 #[.agg #[.int .i64 sets,.int .i64 ways,.slice a n ca],.agg #[.int .i64 sets,.int .i64 ways,.slice b n cb]] w fun e w'=>e=.returned (.bool true)∧Below w.heap.size w w':=by
 have n1:=((Below.refl w.heap.size w).alloc (Nat.le_refl _) (Obj.cells #[.int .i64 sets,.int .i64 ways,.slice a n ca] 34)).alloc (by simp) (Obj.cells #[.int .i64 sets,.int .i64 ways,.slice b n cb] 34);have HR:Hid (RowC _ a n 6 (al es)):=RowC.keep h n1;have HR':Hid (RowC _ b n 6 (al es)):=RowC.keep h' n1;clear h h';go_enter Tryz.func40,Tryz.ntmps40;go_wp2_with fail;refine (gH a b n ca cb es _ HR.out HR'.out hn hl).mono ?_;rintro e v2 ⟨rfl,n2⟩;have n12:=Below.step n1 n2 (Nat.le_refl _);clear n1 n2 HR HR';go_wp2_with fail;go_ret;exact ⟨rfl,n12⟩
end
end Go.Proofs.YtfgogedgolgnaaaGreat
