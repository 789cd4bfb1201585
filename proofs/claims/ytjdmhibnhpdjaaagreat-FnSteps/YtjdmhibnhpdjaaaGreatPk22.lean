import Derived.Test.YtjdmhibnhpdjaaaGreatPk07
namespace Go.Proofs.YtjdmhibnhpdjaaaGreat
open Go.RowKit
set_option linter.unusedVariables false
set_option maxHeartbeats 6400000
set_option maxRecDepth 20000
def ML (n:Nat) (r:RunM):Prop:=r.h.mem.length=n
theorem tH {n:Nat} {c:Prop} [Decidable c] {a b:RunM} (ha:c->ML n a) (hb:¬c->ML n b):ML n (if c then a else b):=by
 by_cases h:c
 ·rw [if_pos h];exact ha h
 ·rw [if_neg h];exact hb h
theorem lG (plain:Bool) (pick kind:Int):∀(ps:List au) (r:RunM),(hU plain pick kind r ps).1.h.mem=r.h.mem
 | [],r=>rfl
 | p::ps,r=>by
  unfold hU;split
  ·exact lG plain pick kind ps _
  ·rfl
theorem tJ (plain:Bool) (pick:Int) (r:RunM) (kind va w:Int):(iu plain pick r kind va w).1.h.mem=r.h.mem:=by
 unfold iu;split
 ·split
  ·exact lG plain pick kind _ r
  ·exact lG plain pick kind _ r
 ·exact lG plain pick kind _ r
theorem Cl {n:Nat} (plain:Bool) (pick:Int) {r:RunM} (kind va w:Int) (h:ML n r):ML n (iu plain pick r kind va w).1:=by
 unfold ML;rw [tJ];exact h
theorem Bg {n:Nat} (plain:Bool) {pick ea w:Int} {r:RunM} (hp:0<=pick∧pick<=255) (hv:inU ea) (hw:1<=w∧w<=8) (hr:ROk r) (h:ML n r) (hc:(iu plain pick r 2 ea w).1.cause=0) (x:Int) (m:Nat):ML n (dy (iu plain pick r 2 ea w) (jt x m)):=by
 have k:=bY plain (kind:=2) hp ⟨by omega,by omega⟩ hv hw hr;have i:=dH (plain:=plain) (pick:=pick) (r:=r) (kind:=2) (va:=ea) (w:=w) hc;have:=(zO (iu plain pick r 2 ea w).2 (iu plain pick r 2 ea w).1.h.mem (jt x m) k.1.h.mem (mY m x) i k.2).1;show (fD (iu plain pick r 2 ea w).1.h.mem (iu plain pick r 2 ea w).2 (jt x m)).length=n;rw [this,tJ];exact h
theorem Ft (h:HartM) (b s:Int):inU (eaM h b s):=by
 unfold eaM inU;omega
theorem EO {n:Nat} {r:RunM} (h:ML n r) (a x:Int):ML n (aU r a x):=h
theorem DP {n:Nat} {r:RunM} (h:ML n r) (a x:Int):ML n (bV r a x):=h
theorem DQ {n:Nat} {r:RunM} {h':HartM} (h:ML n r) (e:h'.mem=r.h.mem):ML n (aR r h'):=by
 unfold ML;show h'.mem.length=n;rw [e];exact h
theorem Fu {n:Nat} (plain:Bool) {pick pc op a b c s word:Int} {r:RunM} (hp:0<=pick∧pick<=255) (hc:0<=c) (hr:ROk r) (h:ML n r):ML n (doM plain pick r pc op a b c s word):=by
 unfold doM fE oT gI;repeat' (with_reducible refine tH (fun _=>?_) (fun _=>?_))
 all_goals try (with_reducible refine EO ?_ _ _)
 all_goals first
  | with_reducible exact h
  | with_reducible exact DP h _ _
  | with_reducible exact Cl plain pick _ _ _ h
  | ((with_reducible refine Bg plain hp (Ft _ _ _) ?_ hr h (by assumption) _ _);first | exact ep c hc | exact ⟨by omega,by omega⟩)
  | ((with_reducible refine DQ h ?_);rfl)
  | (unfold ML;split <;> exact h)
theorem DR (plain:Bool) {pick:Int} {h:HartM} (hp:0<=pick∧pick<=255) (hh:HOk h):(jK plain pick h).h.mem.length=h.mem.length:=by
 have h1:ML h.mem.length (aW plain pick h):=rfl;have k1:=nU plain pick hh;show ML h.mem.length (jK plain pick h);unfold jK gQ;refine tH (fun _=>?_) (fun _=>rfl);unfold eC;generalize aW plain pick h=r at h1 k1 |-;refine tH (fun _=>tH (fun _=>tH (fun _=>?_) (fun _=>h1)) (fun _=>h1)) (fun _=>h1);unfold gJ kS;exact Fu plain hp (by omega) (gx (cz k1 plain hp (by omega) k1.h.pc)) h1
theorem Cm (plain:Bool):∀(ps:List Int) (h:HartM),HOk h->(∀y∈ps,0<=y∧y<=255)->(kT plain ps h).2.mem.length=h.mem.length∧(kT plain ps h).1.length=ps.length∧HOk (kT plain ps h).2
 | [],h,hk,_=>⟨rfl,rfl,hk⟩
 | y::ps,h,hk,hp=>by
  have h1:=hp y (by simp);have:=Cm plain ps (jK plain y h).h (fm plain h1 hk).h (fun z hz=>hp z (by simp [hz]));rw [kT];exact ⟨this.1.trans (DR plain h1 hk),by simp [this.2.1],this.2.2⟩
end Go.Proofs.YtjdmhibnhpdjaaaGreat
