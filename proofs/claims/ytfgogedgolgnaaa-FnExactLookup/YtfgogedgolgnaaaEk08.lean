import Derived.Test.YtfgogedgolgnaaaEk05
namespace Go.Proofs.Ytfgogedgolgnaaa
open Go.RowKit
set_option linter.unusedVariables false
set_option maxHeartbeats 6400000
set_option maxRecDepth 20000
theorem ez (va l:Int) (hl:l=0∨l=1∨l=2):0<=bC va l∧bC va l<=511:=by
 rcases hl with rfl | rfl | rfl <;> simp only [bC] <;> (try simp) <;> omega
theorem fz {t:TlbM} {p:Bool} {va asid l:Int} {q:Nat} {x:EntM} (hv:an t p=true) (hx:t.es[q]?=some x) (hh:bn va asid l x=true):(q:Int)/t.ways=bC va l%t.sets:=by
 have hp:=ft hv q x hx;simp only [bn,cj,Bool.and_eq_true,beq_iff_eq] at hh;obtain ⟨h1,⟨h2,h3⟩,_⟩:=hh;simp only [al,Bool.or_eq_true,Bool.and_eq_true,beq_iff_eq] at hp;rcases hp with hp | hp
 ·rw [h2] at hp;simp at hp
 ·rw [<-hp.2,h3,h1]
theorem dy {t:TlbM} {p:Bool} (hv:an t p=true):(t.sets=1∨t.sets=2∨t.sets=4∨t.sets=8)∧1<=t.ways∧t.ways<=4∧(t.es.length:Int)=t.sets*t.ways:=cC hv
theorem ee {t:TlbM} {p:Bool} {va asid l:Int} {q f:Nat} {x:EntM} (hv:an t p=true) (hx:t.es[q]?=some x) (hf:(f:Int)=bC va l%t.sets*t.ways) (hq:q<f∨(f:Int)+t.ways<=q):bn va asid l x=false:=by
 cases hh:bn va asid l x
 ·rfl
 ·exfalso;have h1:=fz hv hx hh;obtain ⟨_,w1,w4,_⟩:=dy hv;rw [<-h1] at hf;rcases (show t.ways=1∨t.ways=2∨t.ways=3∨t.ways=4 by omega) with hw | hw | hw | hw <;> rw [hw] at hf hq <;> omega
theorem dL {t:TlbM} {p:Bool} {va asid l:Int} {f:Nat} (hv:an t p=true) (hf:(f:Int)=bC va l%t.sets*t.ways)
 (h:∀(j:Nat) x,(j:Int)<t.ways->t.es[f+j]?=some x->bn va asid l x=false):aM va asid l 0 t.es=none:=by
 refine cL va asid l t.es 0 (fun j x hx=>?_);by_cases h1:j<f
 ·exact ee hv hx hf (.inl h1)
 ·by_cases h2:(f:Int)+t.ways<=j
  ·exact ee hv hx hf (.inr h2)
  ·exact h (j-f) x (by omega) (by rw [show f+(j-f)=j by omega];exact hx)
theorem dM {t:TlbM} {p:Bool} {va asid l:Int} {f k:Nat} {x:EntM} (hv:an t p=true) (hf:(f:Int)=bC va l%t.sets*t.ways) (hx:t.es[f+k]?=some x) (hh:bn va asid l x=true)
 (h:∀(j:Nat) y,j<k->t.es[f+j]?=some y->bn va asid l y=false):aM va asid l 0 t.es=some (f+k,x):=by
 have:=cM va asid l t.es 0 (f+k) x hx hh (fun j y hj hy=>by
  by_cases h1:j<f
  ·exact ee hv hy hf (.inl h1)
  ·exact h (j-f) y (by omega) (by rw [show f+(j-f)=j by omega];exact hy))
 rw [Nat.zero_add] at this;exact this
theorem dN (va asid l:Int):∀(es:List EntM) (i k:Nat) (x:EntM),aM va asid l i es=some (k,x)->∃j,k=i+j∧es[j]?=some x∧bn va asid l x=true
 | [],i,k,x,h=>by cases h
 | e::r,i,k,x,h=>by
  rw [aM] at h;split at h
  ·rename_i hh;cases h;exact ⟨0,rfl,rfl,hh⟩
  ·obtain ⟨j,rfl,h2,h3⟩:=dN va asid l r (i+1) k x h;exact ⟨j+1,by omega,by simpa using h2,h3⟩
theorem fd (t:TlbM) (va asid:Int) (h:(bd t va asid).1=true):∃(k:Nat) (x:EntM),t.es[k]?=some x∧(bd t va asid).2.1=(k:Int)∧(bd t va asid).2.2.1=x.level∧(bd t va asid).2.2.2=x.pte∧cj x va asid=true∧x.valid=true:=by
 have key:∀(l:Int) (k:Nat) (x:EntM),aM va asid l 0 t.es=some (k,x)->t.es[k]?=some x∧l=x.level∧cj x va asid=true∧x.valid=true:=by
  intro l k x hf;obtain ⟨j,rfl,h2,h3⟩:=dN va asid l t.es 0 k x hf;simp only [bn,Bool.and_eq_true,beq_iff_eq] at h3;have hv:x.valid=true:=by
   have:=h3.2;simp only [cj,Bool.and_eq_true] at this;exact this.1.1
  exact ⟨by rw [Nat.zero_add];exact h2,h3.1.symm,h3.2,hv⟩
 unfold bd at h |-;split at h
 ·cases h
 ·rename_i he;rw [if_neg he];cases h0:aM va asid 0 0 t.es with
  | some y=>
   obtain ⟨k,x⟩:=y;obtain ⟨a1,a2,a3,a4⟩:=key 0 k x h0;exact ⟨k,x,a1,by simp [bG],by simp [bG,<-a2],by simp [bG],a3,a4⟩
  | none=>
   cases h1:aM va asid 1 0 t.es with
   | some y=>
    obtain ⟨k,x⟩:=y;obtain ⟨a1,a2,a3,a4⟩:=key 1 k x h1;exact ⟨k,x,a1,by simp [bG],by simp [bG,<-a2],by simp [bG],a3,a4⟩
   | none=>
    cases h2:aM va asid 2 0 t.es with
    | some y=>
     obtain ⟨k,x⟩:=y;obtain ⟨a1,a2,a3,a4⟩:=key 2 k x h2;exact ⟨k,x,a1,by simp [bG],by simp [bG,<-a2],by simp [bG],a3,a4⟩
    | none=>
     rw [h0,h1,h2] at h;simp [bG] at h
theorem eA {t:TlbM} {va asid i l pt:Int} (h:bd t va asid=(false,i,l,pt)):(i,l,pt)=(0,0,0):=by
 unfold bd at h;split at h
 ·cases h;rfl
 ·cases h0:aM va asid 0 0 t.es with
  | some y=>simp [h0,bG] at h
  | none=>
   cases h1:aM va asid 1 0 t.es with
   | some y=>simp [h0,h1,bG] at h
   | none=>
    cases h2:aM va asid 2 0 t.es with
    | some y=>simp [h0,h1,h2,bG] at h
    | none=>
     simp [h0,h1,h2,bG] at h;obtain ⟨rfl,rfl,rfl⟩:=h;rfl
theorem dP (lv tg asd va:Int) (gl:Bool) (w:World) (hl:lv=0∨lv=1∨lv=2) (hv0:0<=va) (hv1:va<=18446744073709551615):
 Calls Try.prog 83 #[.agg #[.int .i64 lv,.int .u64 tg,.int .u64 asd,.bool gl],.int .u64 va] w fun e w'=>e=.returned (.bool (tg == bC va lv))∧Below w.heap.size w w':=by
 have n1:=(Below.refl w.heap.size w).alloc (Nat.le_refl _) (Obj.cells #[.int .i64 lv,.int .u64 tg,.int .u64 asd,.bool gl] 116);obtain ⟨tm,htm⟩:∃tm,bC va lv=tm:=⟨_,rfl⟩;have HT:Hid (∀w,Calls Try.prog 94 #[.int .u64 va,.int .i64 lv] w fun e w'=>e=.returned (.int .u64 tm)∧∃n,w'=w.drewN n):=fun w=>by
  have:=eN va lv w hv0 hv1 hl;rw [htm] at this;exact this
 rw [htm];clear htm;go_enter Try.func83,Try.ntmps83;go_wp2_with fail;go_quiet ((go_at_call 94;exact Calls.quiet_of (HT.out _)));go_wp2_with fail;go_ret;exact ⟨rfl,below_drewN n1 nq⟩
theorem eH (lv tg asd va asid:Int) (gl:Bool) (w:World) (hl:lv=0∨lv=1∨lv=2) (hv0:0<=va) (hv1:va<=18446744073709551615):
 Calls Try.prog 95 #[.agg #[.int .i64 lv,.int .u64 tg,.int .u64 asd,.bool gl],.int .u64 va,.int .u64 asid] w fun e w'=>e=.returned (.bool ((tg == bC va lv) && (gl || asd == asid)))∧Below w.heap.size w w':=by
 have n1:=(Below.refl w.heap.size w).alloc (Nat.le_refl _) (Obj.cells #[.int .i64 lv,.int .u64 tg,.int .u64 asd,.bool gl] 116);have H1:Hid ((w.alloc (Obj.cells #[.int .i64 lv,.int .u64 tg,.int .u64 asd,.bool gl] 116)).heap[w.heap.size]?=some (.cells #[.int .i64 lv,.int .u64 tg,.int .u64 asd,.bool gl] 116 (0,0))):=heap_alloc_new w _;obtain ⟨sb,hsb⟩:∃sb,(tg == bC va lv)=sb:=⟨_,rfl⟩;have HS:Hid (∀w,Calls Try.prog 83 #[.agg #[.int .i64 lv,.int .u64 tg,.int .u64 asd,.bool gl],.int .u64 va] w fun e w'=>e=.returned (.bool sb)∧Below w.heap.size w w'):=fun w=>by
  have:=dP lv tg asd va gl w hl hv0 hv1;rw [hsb] at this;exact this
 rw [hsb];clear hsb;cases sb <;> cases gl;all_goals
  go_enter Try.func95,Try.ntmps95;go_wp2_with fail;generalize hv1:w.alloc _=v1 at n1 H1 |-;refine (HS.out v1).mono ?_;rintro e v2 ⟨rfl,n2⟩;have K1:=aF H1.out n2 (Array.getElem?_eq_some_iff.1 H1.out).1;obtain ⟨⟨x0,x1,x2,x3⟩,_,_,_,_⟩:=aG K1;have A2:=Below.step n1 n2 (Nat.le_refl _);go_wp2_with fail;go_ret;exact ⟨aj (by simp),A2⟩
end Go.Proofs.Ytfgogedgolgnaaa
