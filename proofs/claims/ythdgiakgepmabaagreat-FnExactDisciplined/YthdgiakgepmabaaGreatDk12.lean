import Derived.Test.YthdgiakgepmabaaGreatDk08
namespace Go.Proofs.YthdgiakgepmabaaGreat
open Go.RowKit
set_option linter.unusedVariables false
set_option maxHeartbeats 6400000
set_option maxRecDepth 20000
section
variable {P:Program} {ops:Array Oper} {Q:Exit->Act->World->Prop} {F:World->Prop} {c:Nat}
def uF (P:Program) (ops:Array Oper) (Q:Exit->Act->World->Prop) (F:World->Prop) (K:Act->World->Prop):List Nat->Act->World->Prop
 | [],a,w=>K a w
 | i::is,a,w=>wpOp P ops Q i (fun a' w'=>F w'∧uF P ops Q F K is a' w') a w
def flW (P:Program) (ops:Array Oper) (Q:Exit->Act->World->Prop) (F:World->Prop) (K:Act->World->Prop) (j:Nat):List Nat->Act->World->Prop
 | [],a,w=>wpOp P ops Q j (fun a' w'=>F w'∧K a' w') a w
 | i::is,a,w=>wpOp P ops Q i (fun a' w'=>F w'∧flW P ops Q F K j is a' w') a w∧wpOp P ops Q j (fun a' w'=>F w'∧uF P ops Q F K (i::is) a' w') a w
def Ct (ops:Array Oper) (L:Array Bool):List Nat->Array Bool->Bool
 | [],s=>s == L
 | i::is,s=>Region.ready .any ops s == [i] && Ct ops L is (s.setIfInBounds i true)
def flB (ops:Array Oper) (L:Array Bool) (j:Nat):List Nat->Array Bool->Bool
 | [],s=>Region.ready .any ops s == [j] && s.setIfInBounds j true == L
 | i::is,s=>Region.ready .any ops s == [i,j] && Ct ops L (i::is) (s.setIfInBounds j true) && flB ops L j is (s.setIfInBounds i true)
theorem Ab {fuel:Nat} {L:Array Bool}:∀(is:List Nat) (s:Array Bool) (a:Act) (w:World),Ct ops L is s=true->uF P ops Q F (fun a w=>aV P ops Q F c fuel L a w) is a w->aV P ops Q F c (fuel+is.length) s a w
 | [],s,a,w,hb,h=>by
  simp only [Ct,beq_iff_eq] at hb;rw [hb];exact h
 | i::is,s,a,w,hb,h=>by
  simp only [Ct,Bool.and_eq_true,beq_iff_eq] at hb;exact iJ i hb.1 (wpOp_mono (fun a' w' h'=>⟨fun _=>h'.1,Ab is _ a' w' hb.2 h'.2⟩) h)
theorem uG {fuel:Nat} {L:Array Bool} (j:Nat):∀(is:List Nat) (s:Array Bool) (a:Act) (w:World),flB ops L j is s=true->flW P ops Q F (fun a w=>aV P ops Q F c fuel L a w) j is a w->aV P ops Q F c (fuel+is.length+1) s a w
 | [],s,a,w,hb,h=>by
  simp only [flB,Bool.and_eq_true,beq_iff_eq] at hb;refine iJ j hb.1 (wpOp_mono (fun a' w' h'=>⟨fun _=>h'.1,?_⟩) h);rw [hb.2];exact h'.2
 | i::is,s,a,w,hb,h=>by
  simp only [flB,Bool.and_eq_true,beq_iff_eq] at hb;exact xM i j hb.1.1 (wpOp_mono (fun a' w' h'=>⟨fun _=>h'.1,uG j is _ a' w' hb.2 h'.2⟩) h.1) (wpOp_mono (fun a' w' h'=>⟨fun _=>h'.1,Ab (i::is) _ a' w' hb.1.2 h'.2⟩) h.2)
end
end Go.Proofs.YthdgiakgepmabaaGreat
