import Derived.Test.YthekickjjaleaaaGreatPack37
import Derived.Test.YthekickjjaleaaaGreatPack35
import Derived.Test.YthekickjjaleaaaGreatPack33
import Derived.Deep.DeepCutAuto
import Derived.Test.YthekickjjaleaaaGreatPack34
namespace Go.Proofs.YthekickjjaleaaaGreat
open Go.RowKit
set_option linter.unusedVariables false
def tO (base:Nat) (w:World) (e:Ending) (t:TlbM):Prop:=∃x,e=.returned (.tuple #[x,.bool true])∧TlbOwn base w x t
def tQ (base:Nat) (w:World) (e:Ending) (t:TlbM):Prop:=∃x,e=.returned (.tuple #[x,.bool true])∧TlbOwn base w x t
set_option maxHeartbeats 3200000 in
theorem i8:(∀(v:Value) (t:TlbM) (x:EntM) (pick:Int) (w:World) (h:TlbAt w v t) (hx:da x) (hp0:0≤pick) (hp1:pick≤255),Calls Tryz.prog 125 #[v,gx x,.int .i64 pick] w fun e w'=>cond (aI t false && aO x false) (tO w.heap.size w' e ⟨t.sets,t.ways,t.es.set (ek t x+gY t x pick) x⟩) (e=.returned (.tuple #[.agg #[.int .i64 0,.int .i64 0,.slice none 0 0],.bool false]))∧Below w.heap.size w w')∧
 (∀(v:Value) (t:TlbM) (x:EntM) (pick:Int) (w:World) (h:TlbAt w v t) (hx:da x) (hp0:0≤pick) (hp1:pick≤255),Calls Tryz.prog 126 #[v,gx x,.int .i64 pick] w fun e w'=>cond (aI t true && aO x true) (tQ w.heap.size w' e ⟨t.sets,t.ways,t.es.set (ek t x+gY t x pick) x⟩) (e=.returned (.tuple #[.agg #[.int .i64 0,.int .i64 0,.slice none 0 0],.bool false]))∧Below w.heap.size w w'):=by
 refine ⟨?_,?_⟩;have mL:Hid True:=trivial
 rotate_left
 have mP:Hid True:=trivial
 rotate_left
 all_goals
  intro v t x pick w h hx hp0 hp1;have HK:Hid (dA t):=TlbAt.ok h;have HT:Hid (TlbAt w v t):=h;obtain ⟨a,cap,rfl,_⟩:=h;obtain ⟨vv,lv,tg,asd,gl,pt⟩:=x;unfold gx;simp only;obtain ⟨sets,ways,es⟩:=t;simp only at *;obtain ⟨n,hn⟩:∃n,es.length=n:=⟨_,rfl⟩;have HN:Hid (es.length=n):=hn;rw [hn] at HT ⊢;have n1:=(((Below.refl w.heap.size w).alloc (Nat.le_refl _) (Obj.cells #[.int .i64 sets,.int .i64 ways,.slice a n cap] 41)).alloc (by simp) (Obj.cells #[.bool vv,.int .i64 lv,.int .u64 tg,.int .u64 asd,.bool gl,.int .u64 pt] 83)).alloc (by simp;omega) (Obj.cells #[.int .i64 0,.int .i64 0,.slice none 0 0] 41);have HT1:Hid (TlbAt (((w.alloc (Obj.cells #[.int .i64 sets,.int .i64 ways,.slice a n cap] 41)).alloc (Obj.cells #[.bool vv,.int .i64 lv,.int .u64 tg,.int .u64 asd,.bool gl,.int .u64 pt] 83)).alloc (Obj.cells #[.int .i64 0,.int .i64 0,.slice none 0 0] 41)) (.agg #[.int .i64 sets,.int .i64 ways,.slice a n cap]) ⟨sets,ways,es⟩):=HT.out.keep n1;have H2:Hid ((((w.alloc (Obj.cells #[.int .i64 sets,.int .i64 ways,.slice a n cap] 41)).alloc (Obj.cells #[.bool vv,.int .i64 lv,.int .u64 tg,.int .u64 asd,.bool gl,.int .u64 pt] 83)).alloc (Obj.cells #[.int .i64 0,.int .i64 0,.slice none 0 0] 41)).heap[w.heap.size+1]?=some (.cells #[.bool vv,.int .i64 lv,.int .u64 tg,.int .u64 asd,.bool gl,.int .u64 pt] 83 (0,0))):=by
   show _=_;rw [heap_alloc_old _ _ (by simp)];have:=heap_alloc_new (w.alloc (Obj.cells #[.int .i64 sets,.int .i64 ways,.slice a n cap] 41)) (Obj.cells #[.bool vv,.int .i64 lv,.int .u64 tg,.int .u64 asd,.bool gl,.int .u64 pt] 83);simp only [World.size_alloc] at this;exact this
  have H3:Hid ((((w.alloc (Obj.cells #[.int .i64 sets,.int .i64 ways,.slice a n cap] 41)).alloc (Obj.cells #[.bool vv,.int .i64 lv,.int .u64 tg,.int .u64 asd,.bool gl,.int .u64 pt] 83)).alloc (Obj.cells #[.int .i64 0,.int .i64 0,.slice none 0 0] 41)).heap[w.heap.size+1+1]?=some (.cells #[.int .i64 0,.int .i64 0,.slice none 0 0] 41 (0,0))):=by
   have:=heap_alloc_new ((w.alloc (Obj.cells #[.int .i64 sets,.int .i64 ways,.slice a n cap] 41)).alloc (Obj.cells #[.bool vv,.int .i64 lv,.int .u64 tg,.int .u64 asd,.bool gl,.int .u64 pt] 83)) (Obj.cells #[.int .i64 0,.int .i64 0,.slice none 0 0] 41);simp only [World.size_alloc] at this;exact this
  have l1:w.heap.size+1+1<(((w.alloc (Obj.cells #[.int .i64 sets,.int .i64 ways,.slice a n cap] 41)).alloc (Obj.cells #[.bool vv,.int .i64 lv,.int .u64 tg,.int .u64 asd,.bool gl,.int .u64 pt] 83)).alloc (Obj.cells #[.int .i64 0,.int .i64 0,.slice none 0 0] 41)).heap.size:=by simp
  clear HT hn;first
   | (replace mL:=mL;obtain ⟨qv,hqv⟩:∃q,aI ⟨sets,ways,es⟩ false=q:=⟨_,rfl⟩)
   | (replace mP:=mP;obtain ⟨qv,hqv⟩:∃q,aI ⟨sets,ways,es⟩ true=q:=⟨_,rfl⟩)
  first
   | (replace mL:=mL;obtain ⟨qg,hqg⟩:∃q,aO ⟨vv,lv,tg,asd,gl,pt⟩ false=q:=⟨_,rfl⟩)
   | (replace mP:=mP;obtain ⟨qg,hqg⟩:∃q,aO ⟨vv,lv,tg,asd,gl,pt⟩ true=q:=⟨_,rfl⟩)
  first
   | (replace mL:=mL;have HQ:Hid (aI ⟨sets,ways,es⟩ false=qv):=hqv)
   | (replace mP:=mP;have HQ:Hid (aI ⟨sets,ways,es⟩ true=qv):=hqv)
  first
   | (replace mL:=mL;have HG:Hid (aO ⟨vv,lv,tg,asd,gl,pt⟩ false=qg):=hqg)
   | (replace mP:=mP;have HG:Hid (aO ⟨vv,lv,tg,asd,gl,pt⟩ true=qg):=hqg)
  first
   | (replace mL:=mL;have HSl:Hid (∀u,Calls Tryz.prog 180 #[.agg #[.bool vv,.int .i64 lv,.int .u64 tg,.int .u64 asd,.bool gl,.int .u64 pt]] u fun e w'=>e=.returned (.tuple #[cz (if qg=true then ⟨vv,lv,tg,asd,gl,pt⟩ else bQ),.bool qg])∧Below u.heap.size u w'):=fun u=>by
        have:=hZ.1 ⟨vv,lv,tg,asd,gl,pt⟩ u hx
        rw [hqg] at this
        exact this)
   | (replace mP:=mP;have HSl:Hid (∀u,Calls Tryz.prog 182 #[.agg #[.bool vv,.int .i64 lv,.int .u64 tg,.int .u64 asd,.bool gl,.int .u64 pt]] u fun e w'=>e=.returned (.tuple #[cz (if qg=true then ⟨vv,lv,tg,asd,gl,pt⟩ else bQ),.bool qg])∧Below u.heap.size u w'):=fun u=>by
        have:=hZ.2 ⟨vv,lv,tg,asd,gl,pt⟩ u hx
        rw [hqg] at this
        exact this)
  obtain ⟨Y,hY⟩:∃Y,es.set (ek ⟨sets,ways,es⟩ ⟨vv,lv,tg,asd,gl,pt⟩+gY ⟨sets,ways,es⟩ ⟨vv,lv,tg,asd,gl,pt⟩ pick) ⟨vv,lv,tg,asd,gl,pt⟩=Y:=⟨_,rfl⟩;have HY:Hid (es.set (ek ⟨sets,ways,es⟩ ⟨vv,lv,tg,asd,gl,pt⟩+gY ⟨sets,ways,es⟩ ⟨vv,lv,tg,asd,gl,pt⟩ pick) ⟨vv,lv,tg,asd,gl,pt⟩=Y):=hY;have HYl:Hid (Y.length=n):=by show _=_;rw [←hY,List.length_set];exact HN.out
  rw [hqv,hqg,hY];clear hqv hqg hY;first
   | (replace mL:=mL;go_enter Tryz.func125,Tryz.ntmps125)
   | (replace mP:=mP;go_enter Tryz.func126,Tryz.ntmps126)
  go_wp2_with fail;generalize (((w.alloc (Obj.cells #[.int .i64 sets,.int .i64 ways,.slice a n cap] 41)).alloc (Obj.cells #[.bool vv,.int .i64 lv,.int .u64 tg,.int .u64 asd,.bool gl,.int .u64 pt] 83)).alloc (Obj.cells #[.int .i64 0,.int .i64 0,.slice none 0 0] 41))=v1 at n1 HT1 H2 H3 l1 ⊢;first
   | (replace mL:=mL;refine (eS.1 _ ⟨sets,ways,es⟩ v1 HT1.out).mono ?_)
   | (replace mP:=mP;refine (eS.2 _ ⟨sets,ways,es⟩ v1 HT1.out).mono ?_)
  rw [HQ.out];rintro e v2 ⟨hc,n2⟩;have A2:=Below.step n1 n2 (Nat.le_refl _);have K2:=ae H2 n2;have K3:=ae H3 n2;have l2:w.heap.size+1+1<v2.heap.size:=Nat.lt_of_lt_of_le l1 n2.size;clear n1 HT1 H2 H3;obtain ⟨⟨c0,c1,c2,c3,c4,c5⟩,_⟩:=fB K2.out;have l0:w.heap.size+1<v2.heap.size:=by omega
  cases qv
  ·dsimp only [cond] at hc;subst hc;first
    | (replace mL:=mL;have n3:=(Below.refl v2.heap.size v2).alloc (Nat.le_refl _) (Obj.cells #[.int .i64 0,.int .i64 0,.slice none 0 0] 120))
    | (replace mP:=mP;have n3:=(Below.refl v2.heap.size v2).alloc (Nat.le_refl _) (Obj.cells #[.int .i64 0,.int .i64 0,.slice none 0 0] 123))
   have A3:=Below.step A2 n3 (Nat.le_refl _);have J3:=ae K3 n3;first
    | (replace mL:=mL;have l3:w.heap.size+1+1<(v2.alloc (Obj.cells #[.int .i64 0,.int .i64 0,.slice none 0 0] 120)).heap.size:=by simp;omega)
    | (replace mP:=mP;have l3:w.heap.size+1+1<(v2.alloc (Obj.cells #[.int .i64 0,.int .i64 0,.slice none 0 0] 123)).heap.size:=by simp;omega)
   go_wp2_with fail;first
    | (replace mL:=mL;generalize v2.alloc (Obj.cells #[.int .i64 0,.int .i64 0,.slice none 0 0] 120)=v3 at n3 A3 J3 l3 ⊢)
    | (replace mP:=mP;generalize v2.alloc (Obj.cells #[.int .i64 0,.int .i64 0,.slice none 0 0] 123)=v3 at n3 A3 J3 l3 ⊢)
   refine (HSl.out v3).mono ?_;rintro e v4 ⟨rfl,n4⟩;have A4:=Below.step A3 n4 (Nat.le_refl _);have J4:=ae J3 n4;have l4:w.heap.size+1+1<v4.heap.size:=Nat.lt_of_lt_of_le l3 n4.size;clear n3 n4 A3 J3 c0 c1 c2 c3 c4 c5;obtain ⟨⟨d0,d1,d2⟩,e0,e1,e2⟩:=ao J4.out;cases qg;first
    | (replace mL:=mL;all_goals
         simp only [cz,bQ,Bool.false_eq_true,if_false,if_true]
         go_wp2_with fail
         exact bodyPost_ret (v:=.tuple #[.agg #[.int .i64 0,.int .i64 0,.slice none 0 0],.bool false]) (by simp [results,Tryz.results125,go_sem,d0,d1,d2,l4]) rfl ⟨rfl,by first | exact (du A4 (by omega) _ _ _).alloc (by simp;omega) _ | exact du (A4.alloc A4.size _) (by omega) _ _ _⟩)
    | (replace mP:=mP;all_goals
         simp only [cz,bQ,Bool.false_eq_true,if_false,if_true]
         go_wp2_with fail
         exact bodyPost_ret (v:=.tuple #[.agg #[.int .i64 0,.int .i64 0,.slice none 0 0],.bool false]) (by simp [results,Tryz.results126,go_sem,d0,d1,d2,l4]) rfl ⟨rfl,by first | exact (du A4 (by omega) _ _ _).alloc (by simp;omega) _ | exact du (A4.alloc A4.size _) (by omega) _ _ _⟩)
  ·dsimp only [cond] at hc;obtain ⟨g,rfl,ho⟩:=hc;have hg:=bV ho;obtain ⟨_,hg1,hg2⟩:=hg;simp only at hg1 hg2 ho ⊢;rw [HN.out] at ho ⊢;first
    | (replace mL:=mL;have n3:=(Below.refl v2.heap.size v2).alloc (Nat.le_refl _) (Obj.cells #[.int .i64 sets,.int .i64 ways,.slice (some ⟨g,0,none⟩) n n] 120))
    | (replace mP:=mP;have n3:=(Below.refl v2.heap.size v2).alloc (Nat.le_refl _) (Obj.cells #[.int .i64 sets,.int .i64 ways,.slice (some ⟨g,0,none⟩) n n] 123))
   first
    | (replace mL:=mL;have H3:Hid ((v2.alloc (Obj.cells #[.int .i64 sets,.int .i64 ways,.slice (some ⟨g,0,none⟩) n n] 120)).heap[v2.heap.size]?=some (.cells #[.int .i64 sets,.int .i64 ways,.slice (some ⟨g,0,none⟩) n n] 120 (0,0))):=heap_alloc_new v2 _)
    | (replace mP:=mP;have H3:Hid ((v2.alloc (Obj.cells #[.int .i64 sets,.int .i64 ways,.slice (some ⟨g,0,none⟩) n n] 123)).heap[v2.heap.size]?=some (.cells #[.int .i64 sets,.int .i64 ways,.slice (some ⟨g,0,none⟩) n n] 123 (0,0))):=heap_alloc_new v2 _)
   first
    | (replace mL:=mL;have O3:Hid ((v2.alloc (Obj.cells #[.int .i64 sets,.int .i64 ways,.slice (some ⟨g,0,none⟩) n n] 120)).ownsRow v1.heap.size 261 6 (.slice (some ⟨g,0,none⟩) n n) n (aE es)):=ak ho n3)
    | (replace mP:=mP;have O3:Hid ((v2.alloc (Obj.cells #[.int .i64 sets,.int .i64 ways,.slice (some ⟨g,0,none⟩) n n] 123)).ownsRow v1.heap.size 271 6 (.slice (some ⟨g,0,none⟩) n n) n (aE es)):=ak ho n3)
   have A3:=Below.step A2 n3 (Nat.le_refl _);have J3:=ae K3 n3;first
    | (replace mL:=mL;have l3:v2.heap.size<(v2.alloc (Obj.cells #[.int .i64 sets,.int .i64 ways,.slice (some ⟨g,0,none⟩) n n] 120)).heap.size:=by simp)
    | (replace mP:=mP;have l3:v2.heap.size<(v2.alloc (Obj.cells #[.int .i64 sets,.int .i64 ways,.slice (some ⟨g,0,none⟩) n n] 123)).heap.size:=by simp)
   clear ho;go_wp2_with fail;first
    | (replace mL:=mL;generalize v2.alloc (Obj.cells #[.int .i64 sets,.int .i64 ways,.slice (some ⟨g,0,none⟩) n n] 120)=v3 at n3 H3 O3 A3 J3 l3 ⊢)
    | (replace mP:=mP;generalize v2.alloc (Obj.cells #[.int .i64 sets,.int .i64 ways,.slice (some ⟨g,0,none⟩) n n] 123)=v3 at n3 H3 O3 A3 J3 l3 ⊢)
   refine (HSl.out v3).mono ?_;rintro e v4 ⟨rfl,n4⟩;have A4:=Below.step A3 n4 (Nat.le_refl _);have J4:=ae J3 n4;have H4:=ae H3 n4;first
    | (replace mL:=mL;have O4:Hid (v4.ownsRow v1.heap.size 261 6 (.slice (some ⟨g,0,none⟩) n n) n (aE es)):=ak O3.out n4)
    | (replace mP:=mP;have O4:Hid (v4.ownsRow v1.heap.size 271 6 (.slice (some ⟨g,0,none⟩) n n) n (aE es)):=ak O3.out n4)
   have l4:v2.heap.size<v4.heap.size:=Nat.lt_of_lt_of_le l3 n4.size;have l4':w.heap.size+1+1<v4.heap.size:=by omega
   clear n3 n4 A3 J3 H3 O3 c0 c1 c2 c3 c4 c5;cases qg
   ·obtain ⟨⟨d0,d1,d2⟩,e0,e1,e2⟩:=ao J4.out;simp only [cz,bQ,Bool.false_eq_true,if_false];go_wp2_with fail;first
     | (replace mL:=mL;exact bodyPost_ret (v:=.tuple #[.agg #[.int .i64 0,.int .i64 0,.slice none 0 0],.bool false]) (by simp [results,Tryz.results125,go_sem,d0,d1,d2,l4']) rfl ⟨rfl,by first | exact (du A4 (by omega) _ _ _).alloc (by simp;omega) _ | exact du (A4.alloc A4.size _) (by omega) _ _ _⟩)
     | (replace mP:=mP;exact bodyPost_ret (v:=.tuple #[.agg #[.int .i64 0,.int .i64 0,.slice none 0 0],.bool false]) (by simp [results,Tryz.results126,go_sem,d0,d1,d2,l4']) rfl ⟨rfl,by first | exact (du A4 (by omega) _ _ _).alloc (by simp;omega) _ | exact du (A4.alloc A4.size _) (by omega) _ _ _⟩)
   ·simp only [cz,if_true];first
     | (replace mL:=mL;have n5:=(Below.refl v4.heap.size v4).alloc (Nat.le_refl _) (Obj.cells #[.int .i64 lv,.int .u64 tg,.int .u64 asd,.bool gl,.bool vv,.int .u64 pt] 261))
     | (replace mP:=mP;have n5:=(Below.refl v4.heap.size v4).alloc (Nat.le_refl _) (Obj.cells #[.int .i64 lv,.int .u64 tg,.int .u64 asd,.bool gl,.bool vv,.int .u64 pt] 271))
    have A5:=Below.step A4 n5 (Nat.le_refl _);have J5:=ae J4 n5;have H5:=ae H4 n5;first
     | (replace mL:=mL;have O5:Hid ((v4.alloc (Obj.cells #[.int .i64 lv,.int .u64 tg,.int .u64 asd,.bool gl,.bool vv,.int .u64 pt] 261)).ownsRow v1.heap.size 261 6 (.slice (some ⟨g,0,none⟩) n n) n (aE es)):=ak O4.out n5)
     | (replace mP:=mP;have O5:Hid ((v4.alloc (Obj.cells #[.int .i64 lv,.int .u64 tg,.int .u64 asd,.bool gl,.bool vv,.int .u64 pt] 271)).ownsRow v1.heap.size 271 6 (.slice (some ⟨g,0,none⟩) n n) n (aE es)):=ak O4.out n5)
    first
     | (replace mL:=mL;have l5:v4.heap.size<(v4.alloc (Obj.cells #[.int .i64 lv,.int .u64 tg,.int .u64 asd,.bool gl,.bool vv,.int .u64 pt] 261)).heap.size:=by simp)
     | (replace mP:=mP;have l5:v4.heap.size<(v4.alloc (Obj.cells #[.int .i64 lv,.int .u64 tg,.int .u64 asd,.bool gl,.bool vv,.int .u64 pt] 271)).heap.size:=by simp)
    clear n5;go_wp2_with fail;first
     | (replace mL:=mL;generalize v4.alloc (Obj.cells #[.int .i64 lv,.int .u64 tg,.int .u64 asd,.bool gl,.bool vv,.int .u64 pt] 261)=v5 at A5 J5 H5 O5 l5 ⊢)
     | (replace mP:=mP;generalize v4.alloc (Obj.cells #[.int .i64 lv,.int .u64 tg,.int .u64 asd,.bool gl,.bool vv,.int .u64 pt] 271)=v5 at A5 J5 H5 O5 l5 ⊢)
    obtain ⟨⟨p0,p1,p2⟩,_,_,_⟩:=ao H5.out;have hsh:=fu HQ.out;simp only at hsh;rw [HN.out] at hsh;first
     | (replace mL:=mL;refine (mS.1 v2.heap.size 0 g n v1.heap.size ⟨sets,ways,es⟩ ⟨vv,lv,tg,asd,gl,pt⟩ pick v5 HN.out (by rw [←HN.out];exact HK.out.2.2.2) hsh.1 hsh.2.1 hsh.2.2.1 hsh.2.2.2 (by omega) (by omega) p0 p1 p2 O5.out hx.2.1.1 hx.2.1.2 hp0 hp1).mono ?_)
     | (replace mP:=mP;refine (mS.2 v2.heap.size 0 g n v1.heap.size ⟨sets,ways,es⟩ ⟨vv,lv,tg,asd,gl,pt⟩ pick v5 HN.out (by rw [←HN.out];exact HK.out.2.2.2) hsh.1 hsh.2.1 hsh.2.2.1 hsh.2.2.2 (by omega) (by omega) p0 p1 p2 O5.out hx.2.1.1 hx.2.1.2 hp0 hp1).mono ?_)
    rintro e v6 ⟨rfl,o6,m6⟩;simp only at o6;rw [HY.out] at o6;first
     | (replace mL:=mL;have O6:Hid (v6.ownsRow v1.heap.size 261 6 (.slice (some ⟨g,0,none⟩) n n) n (aE Y)):=o6)
     | (replace mP:=mP;have O6:Hid (v6.ownsRow v1.heap.size 271 6 (.slice (some ⟨g,0,none⟩) n n) n (aE Y)):=o6)
    first
     | (replace mL:=mL;have H6:Hid (v6.heap[v2.heap.size]?=some (.cells #[.int .i64 sets,.int .i64 ways,.slice (some ⟨g,0,none⟩) n n] 120 (0,0))):=aw H5.out m6 (by omega))
     | (replace mP:=mP;have H6:Hid (v6.heap[v2.heap.size]?=some (.cells #[.int .i64 sets,.int .i64 ways,.slice (some ⟨g,0,none⟩) n n] 123 (0,0))):=aw H5.out m6 (by omega))
    have J6:Hid (v6.heap[w.heap.size+1+1]?=some (.cells #[.int .i64 0,.int .i64 0,.slice none 0 0] 41 (0,0))):=aw J5.out m6 (by omega);have l6:v5.heap.size≤v6.heap.size:=m6.size;have A6:Below w.heap.size w v6:=A5.grown m6 A5.size (fun k hk=>by cases hk;omega);clear o6 m6 p0 p1 p2 H5 J5 O5 A5;obtain ⟨⟨p0,p1,p2⟩,_,_,_⟩:=ao H6.out;go_wp2_with fail;first
     | (replace mL:=mL;refine (lH.1 v2.heap.size 0 g n ⟨sets,ways,Y⟩ v6 HYl.out (by rw [←HN.out];exact HK.out.2.2.2) (by omega) (by omega) p0 p1 p2 (fH O6.out)).mono ?_)
     | (replace mP:=mP;refine (lH.2 v2.heap.size 0 g n ⟨sets,ways,Y⟩ v6 HYl.out (by rw [←HN.out];exact HK.out.2.2.2) (by omega) (by omega) p0 p1 p2 (fH O6.out)).mono ?_)
    rintro e v7 ⟨⟨y,rfl,gy,cy,rfl,oy⟩,n7⟩;simp only at oy ⊢;have J7:=ae J6 n7;have A7:=Below.step A6 n7 (Nat.le_refl _);have gy1:=(bV oy).2.1;simp only at gy1;obtain ⟨⟨d0,d1,d2⟩,e0,e1,e2⟩:=ao J7.out;go_wp2_with fail;first
     | (replace mL:=mL;exact bodyPost_ret (v:=.tuple #[.agg #[.int .i64 sets,.int .i64 ways,.slice (some ⟨gy,0,none⟩) Y.length cy],.bool true]) (by simp [results,Tryz.results125,go_sem,d0,d1,d2]) rfl ⟨⟨_,rfl,gy,cy,rfl,aX (cK oy (gb3 v7 (w.heap.size+1+1) _ _ _) (by omega)) (by omega)⟩,du A7 (by omega) _ _ _⟩)
     | (replace mP:=mP;exact bodyPost_ret (v:=.tuple #[.agg #[.int .i64 sets,.int .i64 ways,.slice (some ⟨gy,0,none⟩) Y.length cy],.bool true]) (by simp [results,Tryz.results126,go_sem,d0,d1,d2]) rfl ⟨⟨_,rfl,gy,cy,rfl,aX (cK oy (gb3 v7 (w.heap.size+1+1) _ _ _) (by omega)) (by omega)⟩,du A7 (by omega) _ _ _⟩)
end Go.Proofs.YthekickjjaleaaaGreat

namespace Go.Proofs.YthekickjjaleaaaGreat
open Go.RowKit
set_option linter.unusedVariables false
theorem lx {base:Nat} {w w':World} {v:Value} {t:TlbM} {g:Nat} (h:TlbOwn base w v t) (hg:w.grownBy w' (some g)) (hb:g<base):TlbOwn base w' v t:=by
 obtain ⟨q,c,rfl,o⟩:=h;exact ⟨q,c,rfl,cK o hg hb⟩
theorem ny {base base':Nat} {w:World} {v:Value} {t:TlbM} (h:TlbOwn base w v t) (hb:base'≤base):TlbOwn base' w v t:=by
 obtain ⟨q,c,rfl,o⟩:=h;exact ⟨q,c,rfl,aX o hb⟩
set_option maxHeartbeats 3200000 in
theorem px (v:Value) (t:TlbM) (x:EntM) (pick:Int) (w:World) (h:TlbAt w v t) (hx:da x) (hpb: -9223372036854775808≤pick∧pick≤9223372036854775807):
 Calls Tryz.prog 47 #[v,gx x,.int .i64 pick] w fun e w'=>(∃y,e=.returned y∧TlbOwn w.heap.size w' y (cE t x pick))∧Below w.heap.size w w':=by
 have HT:Hid (TlbAt w v t):=h;obtain ⟨a,cap,rfl,_⟩:=h;obtain ⟨vv,lv,tg,asd,gl,pt⟩:=x;unfold gx;simp only;obtain ⟨sets,ways,es⟩:=t;simp only at *;obtain ⟨n,hn⟩:∃n,es.length=n:=⟨_,rfl⟩;rw [hn] at HT ⊢;clear hn;have n1:=(((Below.refl w.heap.size w).alloc (Nat.le_refl _) (Obj.cells #[.int .i64 sets,.int .i64 ways,.slice a n cap] 41)).alloc (by simp) (Obj.cells #[.bool vv,.int .i64 lv,.int .u64 tg,.int .u64 asd,.bool gl,.int .u64 pt] 83)).alloc (by simp;omega) (Obj.cells #[.int .i64 0,.int .i64 0,.slice none 0 0] 41);have HT1:Hid (TlbAt (((w.alloc (Obj.cells #[.int .i64 sets,.int .i64 ways,.slice a n cap] 41)).alloc (Obj.cells #[.bool vv,.int .i64 lv,.int .u64 tg,.int .u64 asd,.bool gl,.int .u64 pt] 83)).alloc (Obj.cells #[.int .i64 0,.int .i64 0,.slice none 0 0] 41)) (.agg #[.int .i64 sets,.int .i64 ways,.slice a n cap]) ⟨sets,ways,es⟩):=HT.out.keep n1;have H1:Hid ((((w.alloc (Obj.cells #[.int .i64 sets,.int .i64 ways,.slice a n cap] 41)).alloc (Obj.cells #[.bool vv,.int .i64 lv,.int .u64 tg,.int .u64 asd,.bool gl,.int .u64 pt] 83)).alloc (Obj.cells #[.int .i64 0,.int .i64 0,.slice none 0 0] 41)).heap[w.heap.size]?=some (.cells #[.int .i64 sets,.int .i64 ways,.slice a n cap] 41 (0,0))):=by
  show _=_;rw [heap_alloc_old _ _ (by simp;omega),heap_alloc_old _ _ (by simp)];exact heap_alloc_new w _
 have H2:Hid ((((w.alloc (Obj.cells #[.int .i64 sets,.int .i64 ways,.slice a n cap] 41)).alloc (Obj.cells #[.bool vv,.int .i64 lv,.int .u64 tg,.int .u64 asd,.bool gl,.int .u64 pt] 83)).alloc (Obj.cells #[.int .i64 0,.int .i64 0,.slice none 0 0] 41)).heap[w.heap.size+1]?=some (.cells #[.bool vv,.int .i64 lv,.int .u64 tg,.int .u64 asd,.bool gl,.int .u64 pt] 83 (0,0))):=by
  show _=_;rw [heap_alloc_old _ _ (by simp)];have:=heap_alloc_new (w.alloc (Obj.cells #[.int .i64 sets,.int .i64 ways,.slice a n cap] 41)) (Obj.cells #[.bool vv,.int .i64 lv,.int .u64 tg,.int .u64 asd,.bool gl,.int .u64 pt] 83);simp only [World.size_alloc] at this;exact this
 have H3:Hid ((((w.alloc (Obj.cells #[.int .i64 sets,.int .i64 ways,.slice a n cap] 41)).alloc (Obj.cells #[.bool vv,.int .i64 lv,.int .u64 tg,.int .u64 asd,.bool gl,.int .u64 pt] 83)).alloc (Obj.cells #[.int .i64 0,.int .i64 0,.slice none 0 0] 41)).heap[w.heap.size+1+1]?=some (.cells #[.int .i64 0,.int .i64 0,.slice none 0 0] 41 (0,0))):=by
  have:=heap_alloc_new ((w.alloc (Obj.cells #[.int .i64 sets,.int .i64 ways,.slice a n cap] 41)).alloc (Obj.cells #[.bool vv,.int .i64 lv,.int .u64 tg,.int .u64 asd,.bool gl,.int .u64 pt] 83)) (Obj.cells #[.int .i64 0,.int .i64 0,.slice none 0 0] 41);simp only [World.size_alloc] at this;exact this
 have l1:w.heap.size+1+1<(((w.alloc (Obj.cells #[.int .i64 sets,.int .i64 ways,.slice a n cap] 41)).alloc (Obj.cells #[.bool vv,.int .i64 lv,.int .u64 tg,.int .u64 asd,.bool gl,.int .u64 pt] 83)).alloc (Obj.cells #[.int .i64 0,.int .i64 0,.slice none 0 0] 41)).heap.size:=by simp
 obtain ⟨kp,hkp⟩:∃kp,decide (0≤pick∧pick≤255)=kp:=⟨_,rfl⟩;have HKp:Hid (∀u:World,Calls Tryz.prog 92 #[.int .i64 pick] u fun e w'=>e=.returned (.bool kp)∧w'=u):=fun u=>by
  have:=qI pick u;rw [hkp] at this;exact this
 have HKp':Hid (decide (0≤pick∧pick≤255)=kp):=hkp;obtain ⟨qL,hqL⟩:∃q,(aI ⟨sets,ways,es⟩ false && aO ⟨vv,lv,tg,asd,gl,pt⟩ false)=q:=⟨_,rfl⟩;obtain ⟨qP,hqP⟩:∃q,(aI ⟨sets,ways,es⟩ true && aO ⟨vv,lv,tg,asd,gl,pt⟩ true)=q:=⟨_,rfl⟩;obtain ⟨Y,hY⟩:∃Y,es.set (ek ⟨sets,ways,es⟩ ⟨vv,lv,tg,asd,gl,pt⟩+gY ⟨sets,ways,es⟩ ⟨vv,lv,tg,asd,gl,pt⟩ pick) ⟨vv,lv,tg,asd,gl,pt⟩=Y:=⟨_,rfl⟩;obtain ⟨R,hR⟩:∃R,cE ⟨sets,ways,es⟩ ⟨vv,lv,tg,asd,gl,pt⟩ pick=R:=⟨_,rfl⟩;have HRt:Hid ((qL=true∨qP=true)→kp=true→R=⟨sets,ways,Y⟩):=fun h1 h2=>by
  rw [h2] at hkp;rw [←hR,←hY];unfold cE;rw [if_pos];refine ⟨?_,by simpa using hkp⟩;unfold iT;rw [hqL,hqP];rcases h1 with h1 | h1 <;> rw [h1] <;> simp
 have HRf:Hid ((qL=false∧qP=false)∨kp=false→R=⟨sets,ways,es⟩):=fun h1=>by
  rw [←hR];unfold cE;rw [if_neg];rintro ⟨h2,h3⟩;rcases h1 with h1 | h1
  ·unfold iT at h2;rw [hqL,hqP,h1.1,h1.2] at h2;cases h2
  ·rw [h1] at hkp;simp at hkp;omega
 have HL:Hid (kp=true→∀u,TlbAt u (.agg #[.int .i64 sets,.int .i64 ways,.slice a n cap]) ⟨sets,ways,es⟩→Calls Tryz.prog 125 #[.agg #[.int .i64 sets,.int .i64 ways,.slice a n cap],.agg #[.bool vv,.int .i64 lv,.int .u64 tg,.int .u64 asd,.bool gl,.int .u64 pt],.int .i64 pick] u fun e w'=>cond qL (tO u.heap.size w' e ⟨sets,ways,Y⟩) (e=.returned (.tuple #[.agg #[.int .i64 0,.int .i64 0,.slice none 0 0],.bool false]))∧Below u.heap.size u w'):=fun hk u hu=>by
  rw [hk] at hkp;have hk2:0≤pick∧pick≤255:=by simpa using hkp
  have:=i8.1 _ ⟨sets,ways,es⟩ ⟨vv,lv,tg,asd,gl,pt⟩ pick u hu hx hk2.1 hk2.2;rw [hqL,hY] at this;exact this
 have HP:Hid (kp=true→∀u,TlbAt u (.agg #[.int .i64 sets,.int .i64 ways,.slice a n cap]) ⟨sets,ways,es⟩→Calls Tryz.prog 126 #[.agg #[.int .i64 sets,.int .i64 ways,.slice a n cap],.agg #[.bool vv,.int .i64 lv,.int .u64 tg,.int .u64 asd,.bool gl,.int .u64 pt],.int .i64 pick] u fun e w'=>cond qP (tQ u.heap.size w' e ⟨sets,ways,Y⟩) (e=.returned (.tuple #[.agg #[.int .i64 0,.int .i64 0,.slice none 0 0],.bool false]))∧Below u.heap.size u w'):=fun hk u hu=>by
  rw [hk] at hkp;have hk2:0≤pick∧pick≤255:=by simpa using hkp
  have:=i8.2 _ ⟨sets,ways,es⟩ ⟨vv,lv,tg,asd,gl,pt⟩ pick u hu hx hk2.1 hk2.2;rw [hqP,hY] at this;exact this
 have HC:Hid (∀u,TlbAt u (.agg #[.int .i64 sets,.int .i64 ways,.slice a n cap]) ⟨sets,ways,es⟩→Calls Tryz.prog 89 #[.agg #[.int .i64 sets,.int .i64 ways,.slice a n cap]] u fun e w'=>(∃y,e=.returned y∧TlbOwn u.heap.size w' y ⟨sets,ways,es⟩)∧Below u.heap.size u w'):=fun u hu=>jV _ ⟨sets,ways,es⟩ u hu;rw [hR];clear hkp hqL hqP hY hR HT HKp';go_enter Tryz.func47,Tryz.ntmps47;go_wp2_with fail;generalize (((w.alloc (Obj.cells #[.int .i64 sets,.int .i64 ways,.slice a n cap] 41)).alloc (Obj.cells #[.bool vv,.int .i64 lv,.int .u64 tg,.int .u64 asd,.bool gl,.int .u64 pt] 83)).alloc (Obj.cells #[.int .i64 0,.int .i64 0,.slice none 0 0] 41))=v1 at n1 HT1 H1 H2 H3 l1 ⊢;refine (HKp.out v1).mono ?_;rintro e w' ⟨rfl,rfl⟩;rename World=>v1;obtain ⟨⟨c0,c1,c2⟩,_,_,_⟩:=ao H1.out;obtain ⟨⟨b0,b1,b2,b3,b4,b5⟩,_⟩:=fB H2.out;cases kp
 ·have hr:=HRf.out (.inr (by trivial));subst hr;go_wp2_with fail;refine (HC.out v1 HT1.out).mono ?_;rintro e v2 ⟨⟨y,rfl,hy⟩,n2⟩;have J2:=ae H3 n2;have A2:=Below.step n1 n2 (Nat.le_refl _);have hy2:=hy;obtain ⟨gy,cy,rfl,_⟩:=hy2;obtain ⟨⟨d0,d1,d2⟩,e0,e1,e2⟩:=ao J2.out;simp only at hy ⊢;go_wp2_with fail;exact bodyPost_ret (v:=.agg #[.int .i64 sets,.int .i64 ways,.slice (some ⟨gy,0,none⟩) es.length cy]) (by simp [results,Tryz.results47,go_sem,d0,d1,d2]) rfl ⟨⟨_,rfl,ny (lx hy (gb3 v2 (w.heap.size+1+1) _ _ _) (by omega)) (by omega)⟩,du A2 (by omega) _ _ _⟩
 ·go_wp2_with fail;refine (HL.out (by trivial) v1 HT1.out).mono ?_;rintro e v2 ⟨hc,n2⟩;have A2:=Below.step n1 n2 (Nat.le_refl _);have K1:=ae H1 n2;have K2:=ae H2 n2;have J2:=ae H3 n2;have T2:TlbAt v2 (.agg #[.int .i64 sets,.int .i64 ways,.slice a n cap]) ⟨sets,ways,es⟩:=HT1.out.keep n2;have l2:w.heap.size+1+1<v2.heap.size:=Nat.lt_of_lt_of_le l1 n2.size;have n2':=n2.size;clear n2 n1 HT1 H1 H2 H3 c0 c1 c2 b0 b1 b2 b3 b4 b5 HL;cases qL
  ·dsimp only [cond] at hc;subst hc;have n3:=(Below.refl v2.heap.size v2).alloc (Nat.le_refl _) (Obj.cells #[.int .i64 0,.int .i64 0,.slice none 0 0] 41);have A3:=Below.step A2 n3 (Nat.le_refl _);have P1:=ae K1 n3;have P2:=ae K2 n3;have J3:=ae J2 n3;have T3:=T2.keep n3;have m0:w.heap.size<v2.heap.size:=by omega
   have m1:w.heap.size+1<v2.heap.size:=by omega
   have l3:w.heap.size+1+1<(v2.alloc (Obj.cells #[.int .i64 0,.int .i64 0,.slice none 0 0] 41)).heap.size:=by simp;omega
   obtain ⟨⟨c0,c1,c2⟩,_,_,_⟩:=ao K1.out;obtain ⟨⟨b0,b1,b2,b3,b4,b5⟩,_⟩:=fB K2.out;go_wp2_with fail;generalize v2.alloc (Obj.cells #[.int .i64 0,.int .i64 0,.slice none 0 0] 41)=v3 at n3 A3 P1 P2 J3 T3 l3 ⊢;refine (HP.out (by trivial) v3 T3).mono ?_;rintro e v4 ⟨hc,n4⟩;have A4:=Below.step A3 n4 (Nat.le_refl _);have J4:=ae J3 n4;have R1:=ae P1 n4;have T4:=T3.keep n4;have l4:w.heap.size+1+1<v4.heap.size:=Nat.lt_of_lt_of_le l3 n4.size;have n34:=Below.step n3 n4 (Nat.le_refl _);have q34:=n34.size;have n4s:=n4.size;have n3s:=n3.size;clear n3 n4 n34 A3 J3 P1 P2 T3 K1 K2 J2 T2 A2 c0 c1 c2 b0 b1 b2 b3 b4 b5;cases qP
   ·dsimp only [cond] at hc;subst hc;have hr:=HRf.out (.inl ⟨by trivial,by trivial⟩);subst hr;have n5:=(Below.refl v4.heap.size v4).alloc (Nat.le_refl _) (Obj.cells #[.int .i64 0,.int .i64 0,.slice none 0 0] 41);have A5:=Below.step A4 n5 (Nat.le_refl _);have J5:=ae J4 n5;have T5:=T4.keep n5;have l5:w.heap.size+1+1<(v4.alloc (Obj.cells #[.int .i64 0,.int .i64 0,.slice none 0 0] 41)).heap.size:=by simp;omega
    have m2:w.heap.size<v4.heap.size:=by omega
    obtain ⟨⟨c0,c1,c2⟩,_,_,_⟩:=ao R1.out;go_wp2_with fail;generalize v4.alloc (Obj.cells #[.int .i64 0,.int .i64 0,.slice none 0 0] 41)=v5 at n5 A5 J5 T5 l5 ⊢;refine (HC.out v5 T5).mono ?_;rintro e v6 ⟨⟨y,rfl,hy⟩,n6⟩;have J6:=ae J5 n6;have A6:=Below.step A5 n6 (Nat.le_refl _);have hy2:=hy;obtain ⟨gy,cy,rfl,_⟩:=hy2;obtain ⟨⟨d0,d1,d2⟩,e0,e1,e2⟩:=ao J6.out;simp only at hy ⊢;go_wp2_with fail;exact bodyPost_ret (v:=.agg #[.int .i64 sets,.int .i64 ways,.slice (some ⟨gy,0,none⟩) es.length cy]) (by simp [results,Tryz.results47,go_sem,d0,d1,d2]) rfl ⟨⟨_,rfl,ny (lx hy (gb3 v6 (w.heap.size+1+1) _ _ _) (by omega)) (by omega)⟩,du A6 (by omega) _ _ _⟩
   ·dsimp only [cond] at hc;have hr:=HRt.out (.inr (by trivial)) (by trivial);subst hr;obtain ⟨y,rfl,hy⟩:=hc;have hy2:=hy;obtain ⟨gy,cy,rfl,oy⟩:=hy2;have hgy:=(bV oy).2.2;simp only at hy hgy ⊢;obtain ⟨⟨d0,d1,d2⟩,e0,e1,e2⟩:=ao J4.out;go_wp2_with fail;exact bodyPost_ret (v:=.agg #[.int .i64 sets,.int .i64 ways,.slice (some ⟨gy,0,none⟩) Y.length cy]) (by simp [results,Tryz.results47,go_sem,d0,d1,d2,l4]) rfl ⟨⟨_,rfl,ny (TlbOwn.keep (lx hy (gb3 v4 (w.heap.size+1+1) _ _ _) (by omega)) ((Below.refl _ _).alloc (Nat.le_refl _) _)) (by omega)⟩,(du A4 (by omega) _ _ _).alloc (by simp;omega) _⟩
  ·dsimp only [cond] at hc;have hr:=HRt.out (.inl (by trivial)) (by trivial);subst hr;obtain ⟨y,rfl,hy⟩:=hc;have hy2:=hy;obtain ⟨gy,cy,rfl,oy⟩:=hy2;have hgy:=(bV oy).2.2;simp only at hy hgy ⊢;obtain ⟨⟨d0,d1,d2⟩,e0,e1,e2⟩:=ao J2.out;go_wp2_with fail;exact bodyPost_ret (v:=.agg #[.int .i64 sets,.int .i64 ways,.slice (some ⟨gy,0,none⟩) Y.length cy]) (by simp [results,Tryz.results47,go_sem,d0,d1,d2,l2]) rfl ⟨⟨_,rfl,ny (TlbOwn.keep (lx hy (gb3 v2 (w.heap.size+1+1) _ _ _) (by omega)) ((Below.refl _ _).alloc (Nat.le_refl _) _)) (by omega)⟩,(du A2 (by omega) _ _ _).alloc (by simp;omega) _⟩
end Go.Proofs.YthekickjjaleaaaGreat

namespace Go.Proofs.YthekickjjaleaaaGreat
open Go.RowKit
set_option linter.unusedVariables false
attribute [local go_sem ↓] Go.wp_at_zero Go.wp_at_succ
def pw (z0:Nat) (z1:Bool):Prop:=∀(b o g n:Nat) (t:TlbM) (va asid:Int) (w:World) (hn:t.es.length=n) (hn1:n≤1048576) (hv:aI t z1=true) (hbl:b<w.heap.size)
 (c0:w.cell? ⟨b,o,none⟩=some (.int .i64 t.sets)) (c1:w.cell? ⟨b,o+1,none⟩=some (.int .i64 t.ways)) (c2:w.cell? ⟨b,o+2,none⟩=some (.slice (some ⟨g,0,none⟩) n n)) (hr:RowC w (some ⟨g,0,none⟩) n 6 (aE t.es)) (hv0:0≤va) (hv1:va≤18446744073709551615),Calls Tryz.prog z0 #[.pointer (some ⟨b,o,none⟩),.int .u64 va,.int .u64 asid] w fun e w'=>e=.returned (.tuple #[.int .i64 (aY t va asid).2.1,.bool (aY t va asid).1])∧Below w.heap.size w w'
set_option maxRecDepth 20000 in
set_option maxHeartbeats 3200000 in
theorem qm:pw 166 false∧pw 174 true:=by
 refine ⟨?_,?_⟩;have mL:Hid True:=trivial
 rotate_left
 have mP:Hid True:=trivial
 rotate_left
 all_goals
  intro b o g n t va asid w hn hn1 hv hbl c0 c1 c2 hr hv0 hv1;obtain ⟨hs4,hw1,hw4,hnw⟩:=r8 hv;first
   | (replace mL:=mL;have HV:Hid (aI t false=true):=hv)
   | (replace mP:=mP;have HV:Hid (aI t true=true):=hv)
  have HEi:Hid (cN t=true):=eR hv;have HR:Hid (RowC w (some ⟨g,0,none⟩) n 6 (aE t.es)):=hr;have HN:Hid (t.es.length=n):=hn;have HNw:Hid ((n:Int)=t.sets*t.ways):=by show _=_;rw [←hn];exact hnw
  obtain ⟨X,hX⟩:∃X,aY t va asid=X:=⟨_,rfl⟩;have HX:Hid (aY t va asid=X):=hX;rw [hX];clear hX hv hr hnw hn;obtain ⟨sets,ways,es⟩:=t;simp only at *;first
   | (replace mL:=mL;go_enter Tryz.func166,Tryz.ntmps166)
   | (replace mP:=mP;go_enter Tryz.func174,Tryz.ntmps174)
  go_wp2_with fail;go_loopw [12] (fun i wr=>∃l:Nat,l≤3∧i=.int .i64 l∧Hid (∀l':Nat,l'<l→de va asid l' 0 es=none)∧Below w.heap.size w wr) (fun i _=>3-(intOf i).toNat)
  case atStart=>exact ⟨0,by omega,rfl,fun l' h=>absurd h (by omega),Below.refl _ _⟩
  case round=>
   obtain ⟨l,hl,rfl,HF,hb⟩:=hrel;by_cases hlt:l<3
   ·have hl3:(l:Int)=0∨(l:Int)=1∨(l:Int)=2:=by omega
    obtain ⟨tm,htm⟩:∃tm,ev va l=tm:=⟨_,rfl⟩;have htb:=r6 va l hl3;rw [htm] at htb;obtain ⟨sx,hsx⟩:∃sx,tm%sets=sx:=⟨_,rfl⟩;have hsb:0≤sx∧sx<sets:=by rw [←hsx];exact ⟨Int.emod_nonneg _ (by omega),Int.emod_lt_of_pos _ (by omega)⟩
    obtain ⟨f,hf⟩:∃f:Nat,(f:Int)=sx*ways:=⟨(sx*ways).toNat,Int.toNat_of_nonneg (Int.mul_nonneg hsb.1 (by omega))⟩;have hfn:(f:Int)+ways≤n:=by
     rw [HNw.out,hf];have:(sx+1)*ways≤sets*ways:=Int.mul_le_mul_of_nonneg_right (by omega) (by omega);rw [Int.add_mul,Int.one_mul] at this;exact this
    have HFi:Hid ((f:Int)=ev va l%sets*ways):=by show _=_;rw [htm,hsx];exact hf
    have HWm:Hid (sx*ways=(f:Int)):=hf.symm;have r0:wr.cell? ⟨b,o,none⟩=some (.int .i64 sets):=Below.cell2 hb c0 hbl;have r1:wr.cell? ⟨b,o+1,none⟩=some (.int .i64 ways):=Below.cell2 hb c1 hbl;have HTg:Hid (∀u,Calls Tryz.prog 204 #[.int .u64 va,.int .i64 l] u fun e w'=>e=.returned (.int .u64 tm)∧∃q,w'=u.drewN q):=fun u=>by
     have:=vf va l u hv0 hv1 hl3;rw [htm] at this;exact this
    first
     | (replace mL:=mL;have HSt:Hid (∀q,Calls Tryz.prog 206 #[.pointer (some ⟨b,o,none⟩),.int .u64 tm] (wr.drewN q) fun e w'=>e=.returned (.int .i64 sx)∧w'=wr.drewN q):=fun q=>by
          have:=me b o sets tm (wr.drewN q) hs4 r0 htb.1 (by omega)
          rw [hsx] at this
          exact this)
     | (replace mP:=mP;have HSt:Hid (∀q,Calls Tryz.prog 208 #[.pointer (some ⟨b,o,none⟩),.int .u64 tm] (wr.drewN q) fun e w'=>e=.returned (.int .i64 sx)∧w'=wr.drewN q):=fun q=>by
          have:=mf b o sets tm (wr.drewN q) hs4 r0 htb.1 (by omega)
          rw [hsx] at this
          exact this)
    clear htm hsx;go_wp2_with fail;go_cut [9] (fun s9 wx=>s9=.int .i64 f∧∃q,wx=wr.drewN q)
    case first=>
     first
      | (replace mL:=mL;go_quiet (first
           | (go_at_call 204;exact Calls.quiet_of (HTg.out _))
           | (go_at_call 206;exact Calls.quiet_of_same (HSt.out _))))
      | (replace mP:=mP;go_quiet (first
           | (go_at_call 204;exact Calls.quiet_of (HTg.out _))
           | (go_at_call 208;exact Calls.quiet_of_same (HSt.out _))))
     go_wp2_with fail;go_meet;exact ⟨by rw [HWm.out],nq,rfl⟩
    case rest=>
     obtain ⟨rfl,q,rfl⟩:=hcut;have hb2:Below w.heap.size w (wr.drewN q):=below_drewN hb q;generalize wr.drewN q=v2 at hb2 ⊢;clear r0 r1 hb HTg HSt HWm hsb hf;go_wp2_with fail;rename_i wr0;go_loopw [10] (fun i wr=>∃q:Nat,f≤q∧(q:Int)≤f+ways∧i=.int .i64 q∧Hid (∀(q':Nat) x,f≤q'→q'<q→es[q']?=some x→fm va asid l x=false)∧Below w.heap.size w wr) (fun i _=>f+4-(intOf i).toNat)
     case atStart=>exact ⟨f,Nat.le_refl _,by omega,rfl,fun q' x h h'=>absurd h' (by omega),hb2⟩
     case round=>
      obtain ⟨q,hq1,hq2,rfl,HQ,hb3⟩:=hrel;have r1:wr.cell? ⟨b,o+1,none⟩=some (.int .i64 ways):=Below.cell2 hb3 c1 hbl;have r2:wr.cell? ⟨b,o+2,none⟩=some (.slice (some ⟨g,0,none⟩) n n):=Below.cell2 hb3 c2 hbl;by_cases hqt:(q:Int)<f+ways
      ·have hqn:q<n:=by omega
       obtain ⟨⟨vv,lv,tg,asd,gl,pt⟩,hx⟩:∃x,es[q]?=some x:=⟨_,List.getElem?_eq_getElem (by rw [HN.out];exact hqn)⟩;have HXq:Hid (es[q]?=some ⟨vv,lv,tg,asd,gl,pt⟩):=hx;have CE:∀j u,j<6→(eC ⟨vv,lv,tg,asd,gl,pt⟩)[j]?=some u→wr.cell? ⟨g,q*6+j,none⟩=some u:=fun j u hj hu=>iO (HR.out.keep hb3) HN.out q _ hx j u hj hu;have g0:wr.cell? ⟨g,q*6,none⟩=some (.int .i64 lv):=CE 0 _ (by omega) rfl;have g1:wr.cell? ⟨g,q*6+1,none⟩=some (.int .u64 tg):=CE 1 _ (by omega) rfl;have g2:wr.cell? ⟨g,q*6+2,none⟩=some (.int .u64 asd):=CE 2 _ (by omega) rfl;have g3:wr.cell? ⟨g,q*6+3,none⟩=some (.bool gl):=CE 3 _ (by omega) rfl;have g4:wr.cell? ⟨g,q*6+4,none⟩=some (.bool vv):=CE 4 _ (by omega) rfl;have HNx:Hid (fm va asid l ⟨vv,lv,tg,asd,gl,pt⟩=false→∀(q':Nat) x,f≤q'→q'<q+1→es[q']?=some x→fm va asid l x=false):=fun h q' x h1 h2 h3=>by
        by_cases e:q'=q
        ·subst e;rw [HXq.out] at h3;cases h3;exact h
        ·exact HQ.out q' x h1 (by omega) h3
       clear CE hx;cases vv
       ·go_wp2_with fail;go_roundw
        case rel=>exact ⟨q+1,by omega,by omega,by go_num,HNx.out (by simp [fm,fS]),hb3⟩
        case measure=>simp [intOf];omega
       ·by_cases hlv:lv=l
        ·subst hlv;obtain ⟨fb,hfb⟩:∃fb,((tg == ev va l) && (gl || asd == asid))=fb:=⟨_,rfl⟩;have HFt:Hid (∀u,Calls Tryz.prog 210 #[.agg #[.int .i64 l,.int .u64 tg,.int .u64 asd,.bool gl],.int .u64 va,.int .u64 asid] u fun e w'=>e=.returned (.bool fb)∧Below u.heap.size u w'):=fun u=>by
          have:=vS l tg asd va asid gl u hl3 hv0 hv1;rw [hfb] at this;exact this
         have HHb:Hid (fm va asid l ⟨true,l,tg,asd,gl,pt⟩=fb):=by
          show _=_;rw [←hfb];simp [fm,fS]
         clear hfb;go_wp2_with fail;refine (HFt.out wr).mono ?_;rintro e v5 ⟨rfl,n5⟩;have A5:=Below.step hb3 n5 (Nat.le_refl _);cases fb
         ·go_wp2_with fail;go_roundw
          case rel=>exact ⟨q+1,by omega,by omega,by go_num,HNx.out HHb.out,A5⟩
          case measure=>simp [intOf];omega
         ·have hx:X=(true,(q:Int),(l:Int),pt):=by
           rw [←HX.out];have hfi:=uD (t:=⟨sets,ways,es⟩) (k:=q-f) HV.out HFi.out (by simp only;rw [show f+(q-f)=q by omega];exact HXq.out) HHb.out (fun j y hj hy=>HQ.out (f+j) y (by omega) (by omega) hy);rw [show f+(q-f)=q by omega] at hfi;exact tz ⟨sets,ways,es⟩ va asid l q _ HEi.out (by omega) HF.out hfi
          subst hx;go_wp2_with fail;first
           | (replace mL:=mL;exact bodyPost_ret (v:=.tuple #[.int .i64 q,.bool true]) (by simp [results,Tryz.results166,go_sem]) rfl ⟨rfl,A5⟩)
           | (replace mP:=mP;exact bodyPost_ret (v:=.tuple #[.int .i64 q,.bool true]) (by simp [results,Tryz.results174,go_sem]) rfl ⟨rfl,A5⟩)
        ·have hlv':(lv == (l:Int))=false:=by simpa using hlv
         go_wp2_with fail;go_roundw
         case rel=>exact ⟨q+1,by omega,by omega,by go_num,HNx.out (by simp [fm,hlv]),hb3⟩
         case measure=>simp [intOf];omega
      ·have hqe:(q:Int)=f+ways:=by omega
       have hnn:de va asid l 0 es=none:=uC (t:=⟨sets,ways,es⟩) HV.out HFi.out (fun j x hj hx=>HQ.out (f+j) x (by omega) (by simp only at hj;omega) hx);have HNn:Hid (de va asid l 0 es=none):=hnn;clear hnn;go_wp2_with fail;go_roundw
       case rel=>exact ⟨l+1,by omega,by go_num,fun l' hl'=>by
        by_cases e:l'=l
        ·subst e;exact HNn.out
        ·exact HF.out l' (by omega),hb3⟩
       case measure=>simp [intOf];omega
   ·have hl3:l=3:=by omega
    subst hl3;have hx:X=(false,0,0,0):=by
     rw [←HX.out];exact lS _ va asid HEi.out HF.out
    subst hx;go_wp2_with fail;first
     | (replace mL:=mL;exact bodyPost_ret (v:=.tuple #[.int .i64 0,.bool false]) (by simp [results,Tryz.results166,go_sem]) rfl ⟨rfl,hb⟩)
     | (replace mP:=mP;exact bodyPost_ret (v:=.tuple #[.int .i64 0,.bool false]) (by simp [results,Tryz.results174,go_sem]) rfl ⟨rfl,hb⟩)
end Go.Proofs.YthekickjjaleaaaGreat
