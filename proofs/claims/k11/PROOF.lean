import PyProof.Rows.All
import Wide.All
import OpenK.AllK
import Wide.FinOn
import HandS.ForMost
import HandS.ForExc
import HandS.Wide
import HandS.DictTup
import HandS.SetKeys
import HandS.TryOnly
import HandS.ExcOwn
import HandS.IsInst
import HandS.Defaults
import HandS.Flow
import KE.KStateDown
import Lean
import HandS.Head0
import HandS.Head1
import HandS.Head2
import HandS.HeadEnd
import HandS.HeadHook1
import HandS.HeadHook2
import PyProof.Rows.MatchSeqLen
import PyProof.DictMoreH
import HandS.ClsMeth
import KE.KSuper
import HandS.Evl
import PySem.Challenge.RW_drawchain_k11_whole_draws_at_their_bound
set_option Elab.async false
set_option linter.all false
set_option maxRecDepth 100000
set_option maxHeartbeats 2000000
namespace Dc
open PySem PySem.Spec PyProof.Rows L2
/-! ### frames -/
/-- what nothing writes: a tuple, a locked thing -/
def fixd : HO → Bool
  | .tup _ => true
  | .frz _ _ => true
  | _ => false
/-- all that was tracked stands, but what lies in S (and may be written) -/
def Fr (S : List Addr) (H H' : Hp) : Prop := ∀ b o, H b = some o → (b ∉ S ∨ fixd o = true) → H' b = some o
theorem Fr.refl (S : List Addr) (H : Hp) : Fr S H H := fun _ _ h _ => h
theorem Fr.at {S : List Addr} {H H' : Hp} {b : Addr} {o : HO} (f : Fr S H H') (h : H b = some o) (n : b ∉ S) : H' b = some o := f b o h (.inl n)
theorem Fr.tp {S : List Addr} {H H' : Hp} {b : Addr} {xs : List V} (f : Fr S H H') (h : H b = some (.tup xs)) : H' b = some (.tup xs) := f b _ h (.inr rfl)
theorem Fr.fz {S : List Addr} {H H' : Hp} {b : Addr} {o : Obj} {u : HO} (f : Fr S H H') (h : H b = some (.frz o u)) : H' b = some (.frz o u) := f b _ h (.inr rfl)
theorem Fr.free {S : List Addr} {H H' : Hp} {b : Addr} (f : Fr S H H') (n : b ∉ S) (h : H' b = none) : H b = none := by
  cases q : H b with
  | none => rfl
  | some o => rw [f.at q n] at h; cases h
theorem Fr.mono {S S' : List Addr} {H H' : Hp} (f : Fr S H H') (h : ∀ b, b ∈ S → b ∈ S') : Fr S' H H' := fun b o e c =>
  f b o e (c.imp (fun n z => n (h b z)) id)
theorem Fr.trans {S S1 : List Addr} {H H1 H2 : Hp} (f : Fr S H H1) (g : Fr S1 H1 H2) (h : ∀ b, b ∈ S1 → b ∈ S ∨ H b = none) : Fr S H H2 := fun b o e c => by
  refine g b o (f b o e c) (c.imp (fun n z => ?_) id)
  rcases h b z with q | q
  · exact n q
  · rw [e] at q; cases q
theorem Fr.tr {S : List Addr} {H H1 H2 : Hp} (f : Fr S H H1) (g : Fr S H1 H2) : Fr S H H2 := f.trans g fun _ h => .inl h
theorem Fr.of_same {S : List Addr} {H H' : Hp} (s : ∀ b o, H b = some o → H' b = some o) : Fr S H H' := fun b o e _ => s b o e
/-- p holds nothing that must stand -/
def Loose (H : Hp) (p : Addr) : Prop := ∀ o, H p = some o → fixd o = false
theorem nt {H : Hp} {p : Addr} {u : HO} (h : H p = some u) (e : fixd u = false := by rfl) : Loose H p := fun o q => by
  rw [h] at q; cases q; exact e
theorem nt_none {H : Hp} {p : Addr} (h : H p = none) : Loose H p := fun o q => by rw [h] at q; cases q
/-- a new object -/
theorem Fr.new {S : List Addr} {H : Hp} {p : Addr} {o : HO} (h : H p = none) : Fr S H (upd H p o) := fun b u e _ => by
  rw [upd_ne (ne_of_none e h)]; exact e
/-- a thing of S is changed -/
theorem Fr.put {S : List Addr} {H : Hp} {p : Addr} {o : HO} (h : p ∈ S) (hp : Loose H p) : Fr S H (upd H p o) := fun b u e c => by
  have n : b ≠ p := fun z => by
    rcases c with q | q
    · rw [z] at q; exact q h
    · rw [z] at e; rw [hp _ e] at q; cases q
  rw [upd_ne n]; exact e
theorem Fr.putN {S : List Addr} {H H1 : Hp} {p : Addr} {o : HO} (f : Fr S H H1) (h : p ∈ S ∨ H p = none) (hp : Loose H1 p) : Fr S H (upd H1 p o) :=
  f.trans (Fr.put (S := [p]) List.mem_cons_self hp) fun b hb => by
    rw [List.mem_singleton] at hb; rw [hb]; exact h
theorem Fr.newN {S : List Addr} {H H1 : Hp} {p : Addr} {o : HO} (f : Fr S H H1) (h : H1 p = none) : Fr S H (upd H1 p o) := f.trans (Fr.new (S := []) h) fun b hb => by cases hb
theorem Fr.seqL {S : List Addr} {K : PySem.W.Frag} {H H' : Hp} {a : Addr} {xs : List V} (f : Fr S H H') (n : a ∉ S) (h : SqL K H a xs) : SqL K H' a xs := by
  rcases h with (h | ⟨o, h⟩) | h
  · exact .inl (.inl (f.at h n))
  · exact .inl (.inr ⟨o, f.fz h⟩)
  · exact .inr h
theorem Fr.seqT {S : List Addr} {K : PySem.W.Frag} {H H' : Hp} {a : Addr} {xs : List V} (f : Fr S H H') (h : SqT K H a xs) : SqT K H' a xs := by
  rcases h with (h | ⟨o, h⟩) | h
  · exact .inl (.inl (f.tp h))
  · exact .inl (.inr ⟨o, f.fz h⟩)
  · exact .inr h
theorem upd_keep {H : Hp} {a p : Addr} {o u : HO} (h : H a = some o) (n : H p = none) : upd H p u a = some o := by
  rw [upd_ne (ne_of_none h n)]; exact h
/-! ### callables by name -/
section
variable (P : Program) (w : World) (K : PySem.W.Frag) (mg : Str → Option Value) (base : Heap)
/-- the def that the module's name x stands for keeps the promise sp -/
def Cal (CX : CXT) (k : Nat) (x : Str) (ps : List Str) (sp : Sp) : Prop := ∃ f fd, FnOk P w K mg base CX k f fd ps sp ∧ Binds K fd ps [] ∧ PySem.W.keepIn K (.ref f) = true ∧ mg x = some (.ref f)
/-- the method m of the class at C -/
def CalM (CX : CXT) (k : Nat) (C : Addr) (m : Str) (ps : List Str) (sp : Sp) : Prop := ∃ f fd, FnOk P w K mg base CX k f fd ps sp ∧ Binds K fd ps [] ∧ Meth K C m f ∧ Cls K C
/-- the class x, at C, made by its __init__ -/
def CalI (CX : CXT) (k : Nat) (x : Str) (C : Addr) (ps : List Str) (sp : Sp) : Prop := ∃ f fd, FnOk P w K mg base CX k f fd ps sp ∧ Binds K fd ps [] ∧ Mk K C f ∧ mg x = some (.ref C)
end
section
variable {P : Program} {w : World} {K : PySem.W.Frag} {mg : Str → Option Value} {base : Heap} {CX : CXT} {k j : Nat} {x m : Str} {C : Addr} {ps : List Str} {sp sp' : Sp}
theorem Cal.mono (G : Cal P w K mg base CX j x ps sp) (h : j ≤ k) : Cal P w K mg base CX k x ps sp := let ⟨f, fd, F, r⟩ := G; ⟨f, fd, F.mono h, r⟩
theorem CalM.mono (G : CalM P w K mg base CX j C m ps sp) (h : j ≤ k) : CalM P w K mg base CX k C m ps sp := let ⟨f, fd, F, r⟩ := G; ⟨f, fd, F.mono h, r⟩
theorem CalI.mono (G : CalI P w K mg base CX j x C ps sp) (h : j ≤ k) : CalI P w K mg base CX k x C ps sp := let ⟨f, fd, F, r⟩ := G; ⟨f, fd, F.mono h, r⟩
theorem Cal.imp (G : Cal P w K mg base CX k x ps sp) (h : ∀ vs H Q E, sp' vs H Q E → sp vs H Q E) : Cal P w K mg base CX k x ps sp' := let ⟨f, fd, F, r⟩ := G; ⟨f, fd, F.imp h, r⟩
theorem CalM.imp (G : CalM P w K mg base CX k C m ps sp) (h : ∀ vs H Q E, sp' vs H Q E → sp vs H Q E) : CalM P w K mg base CX k C m ps sp' := let ⟨f, fd, F, r⟩ := G; ⟨f, fd, F.imp h, r⟩
end
section
variable {X : Cx} {CX : CXT} {k : Nat} {x m : Str} {C : Addr} {ps : List Str} {sp : Sp} {E : XK} {e o : Expr} {es : List Expr} {t : TA} {ta : TE} {p pos apos : Pos}
theorem pe_cal (G : Cal X.prog X.w X.K X.mg X.base CX k x ps sp) (hr : Room k X.A) (hx : Passes CX X E) (ha : PA X (e :: es) t) (hg : Gl X x := by rfl) (hdb : (x == ("__debug__" : Str)) = false := by decide)
    (he : starEach (e :: es) X.env = (false, eval e X.env) :: starEach es X.env := by rfl) (hpl : (backTo pos (starEach es X.env)).any (·.1) = false := by rfl) : PE X (.Call (.Name x p) (e :: es) [] pos) (tCall sp [] E t) := by
  obtain ⟨f, fd, F, b, kp, g⟩ := G
  exact pe_call F hr hg g kp b .nil hx ha hdb he hpl
end
/-! ### readings, a step at a time -/
section
variable {K : PySem.W.Frag} {σ : L2.St} {H : Hp} {i : Nat} {v x y : V} {ta tb te : TE} {t u : TT} {r : R2} {D : Ends} {s1 s2 : TS} {g : TG} {Q : VK} {a : Addr}
theorem rd_var (h : σ[i]? = some (some v)) (q : Q v H) : tVar i σ H Q := ⟨v, h, q⟩
theorem rd_c (q : Q v H) : tC v σ H Q := q
theorem rd_op (h : ta σ H fun x H1 => tb σ H1 fun y H2 => r x y H2 Q) : tOp r ta tb σ H Q := h
theorem rd_un {r : V → Hp → VK → Prop} (h : ta σ H fun x H1 => r x H1 Q) : tUn r ta σ H Q := h
theorem rd_test {Q : Bool → Hp → Prop} (h : te σ H fun x H' => ∃ k, x = .bl k ∧ Q k H') : tTest te σ H Q := h
theorem rd_B {Q : Bool → Hp → Prop} (h : te σ H fun x H' => ∃ k, x = .bl k ∧ Q k H') : tB te σ H Q := h
theorem rd_bl {b : Bool} {Q : Bool → Prop} (h : Q b) : ∃ k, V.bl b = .bl k ∧ Q k := ⟨b, rfl, h⟩
theorem rd_seq (h : s1 { D with nx := s2 D } σ H) : tSeq s1 s2 D σ H := h
theorem rd_next (h : D.nx σ H) : tNext D σ H := h
theorem rd_ifs (h : t σ H fun b H1 => if b = true then s1 D σ H1 else s2 D σ H1) : tIfS t s1 s2 D σ H := h
theorem rd_asg (h : te σ H fun x H1 => g x σ H1 D.nx) : tAsg te g D σ H := h
theorem rd_name {Q : L2.St → Hp → Prop} (h : Q (σ.set i (some v)) H) : gName i v σ H Q := h
theorem rd_ret (h : te σ H D.rt) : tRet te D σ H := h
theorem rd_drop (h : te σ H fun _ H1 => D.nx σ H1) : tDrop te D σ H := h
theorem rd_call {sp : Sp} {dvs : List V} {E : XK} {tl : TA} (h : tl σ H fun vs H1 => sp (vs ++ dvs) H1 Q E) : tCall sp dvs E tl σ H Q := h
theorem rd_cons {tl : TA} {Q : List V → Hp → Prop} (h : ta σ H fun x H1 => tl σ H1 fun xs H2 => Q (x :: xs) H2) : tCons ta tl σ H Q := h
theorem rd_nil {Q : List V → Hp → Prop} (h : Q [] H) : tNil σ H Q := h
theorem rd_cb {r : List V → Hp → VK → Prop} {tl : TA} (h : tl σ H fun vs H1 => r vs H1 Q) : tCB r tl σ H Q := h
theorem rd_I {C : Int → Int → Prop} {f : Int → Int → V} {i j : Int} (c : C i j) (q : Q (f i j) H) : rI C f (.int i) (.int j) H Q := ⟨i, j, rfl, rfl, c, q⟩
theorem rd_I0 {f : Int → Int → V} {i j : Int} (q : Q (f i j) H) : rI0 f (.int i) (.int j) H Q := ⟨i, j, rfl, rfl, q⟩
theorem rd_U {f : Int → V} {i : Int} (q : Q (f i) H) : rU f (.int i) H Q := ⟨i, rfl, q⟩
theorem rd_eq (s : scal x y = true) (q : Q (.bl (decide (x = y))) H) : rEq x y H Q := ⟨s, q⟩
theorem rd_ne (s : scal x y = true) (q : Q (.bl (!decide (x = y))) H) : rNe x y H Q := ⟨s, q⟩
theorem rd_ixL {p : Addr} {xs : List V} {i : Int} (h : SqL K H p xs) (e : atI xs i = some v) (q : Q v H) : rIxL K (.ref p) (.int i) H Q := ⟨p, xs, i, v, rfl, rfl, h, e, q⟩
theorem rd_ixT {p : Addr} {xs : List V} {i : Int} (h : SqT K H p xs) (e : atI xs i = some v) (q : Q v H) : rIxT K (.ref p) (.int i) H Q := ⟨p, xs, i, v, rfl, rfl, h, e, q⟩
theorem rd_gsub {to ti : TE} {ts : TSet} {Q : L2.St → Hp → Prop} (h : to σ H fun o H1 => ti σ H1 fun i H2 => ts o i v H2 fun H3 => Q σ H3) : gSub to ti ts v σ H Q := h
theorem rd_setL {p : Addr} {xs : List V} {k : Int} {j : Nat} {Q : Hp → Prop} (h : H p = some (.lst xs)) (e : ixN xs.length k = some j) (q : Q (upd H p (.lst (xs.set j v)))) : rSetL (.ref p) (.int k) v H Q := ⟨p, xs, k, j, rfl, rfl, h, e, q⟩
theorem rd_lst {tl : TA} (h : tl σ H fun xs H1 => xs.length ≤ sizeLine ∧ ∀ p, H1 p = none → Q (.ref p) (upd H1 p (.lst xs))) : tLst tl σ H Q := h
theorem rd_tup {tl : TA} (h : tl σ H fun xs H1 => xs.length ≤ sizeLine ∧ ∀ p, H1 p = none → Q (.ref p) (upd H1 p (.tup xs))) : tTup tl σ H Q := h
theorem rd_if (h : t σ H fun c H1 => if c = true then ta σ H1 Q else tb σ H1 Q) : tIf t ta tb σ H Q := h
theorem rd_and {Q : Bool → Hp → Prop} (h : t σ H fun c H1 => if c = true then u σ H1 Q else Q false H1) : tAnd t u σ H Q := h
theorem rd_or {Q : Bool → Hp → Prop} (h : t σ H fun c H1 => if c = true then Q true H1 else u σ H1 Q) : tOr t u σ H Q := h
theorem rd_not {Q : Bool → Hp → Prop} (h : t σ H fun c H1 => Q (!c) H1) : tNot t σ H Q := h
theorem rd_andV (h : ta σ H fun x H1 => ∃ c, x = .bl c ∧ if c = true then tb σ H1 Q else Q (.bl false) H1) : tAndV ta tb σ H Q := h
theorem rd_orV (h : ta σ H fun x H1 => ∃ c, x = .bl c ∧ if c = true then Q (.bl true) H1 else tb σ H1 Q) : tOrV ta tb σ H Q := h
theorem rd_notV (h : ta σ H fun x H1 => ∃ c, x = .bl c ∧ Q (.bl (!c)) H1) : tNotV ta σ H Q := h
theorem rd_blV {b : Bool} {Q : Bool → Hp → Prop} {A : Prop} (h : A) : ∃ k, V.bl b = .bl k ∧ A := ⟨b, rfl, h⟩
theorem rd_dec {c A B : Prop} [Decidable c] (h1 : c → A) (h2 : ¬ c → B) : if decide c = true then A else B := by
  by_cases h : c
  · rw [if_pos (decide_eq_true h)]; exact h1 h
  · rw [if_neg (by rw [decide_eq_false h]; decide)]; exact h2 h
theorem rd_ndec {c A B : Prop} [Decidable c] (h1 : ¬ c → A) (h2 : c → B) : if (!decide c) = true then A else B := by
  by_cases h : c
  · rw [if_neg (by rw [decide_eq_true h]; decide)]; exact h2 h
  · rw [if_pos (by rw [decide_eq_false h]; decide)]; exact h1 h
theorem rd_T {c A B : Prop} [Decidable c] (h : c) (h1 : A) : if decide c = true then A else B := by rw [if_pos (decide_eq_true h)]; exact h1
theorem rd_F {c A B : Prop} [Decidable c] (h : ¬ c) (h1 : B) : if decide c = true then A else B := by rw [if_neg (by rw [decide_eq_false h]; decide)]; exact h1
theorem rd_b {b : Bool} {A B : Prop} (h1 : b = true → A) (h2 : b = false → B) : if b = true then A else B := by
  cases b with
  | true => rw [if_pos rfl]; exact h1 rfl
  | false => rw [if_neg Bool.false_ne_true]; exact h2 rfl
theorem at_in {α : Type} {xs : List α} {i : Int} (h0 : 0 ≤ i) (h1 : i < xs.length) : ∃ v, v ∈ xs ∧ atI xs i = some v := by
  obtain ⟨j, rfl⟩ : ∃ j : Nat, i = (j : Int) := ⟨i.toNat, by omega⟩
  have hj : j < xs.length := by omega
  exact ⟨xs[j], List.getElem_mem hj, atI_nat (List.getElem?_eq_getElem hj)⟩
theorem rd_yes {Q : Bool → Hp → Prop} (h : Q true H) : tYes σ H Q := h
theorem rd_nF {A B : Prop} (h : A) : if (!false) = true then A else B := iteT h
theorem rd_nT {A B : Prop} (h : B) : if (!true) = true then A else B := iteF h
theorem rd_and_pure {b1 b2 : Bool} {Q : Bool → Hp → Prop} (h1 : ∀ Q : Bool → Hp → Prop, Q b1 H → t σ H Q) (h2 : ∀ Q : Bool → Hp → Prop, Q b2 H → u σ H Q) (h : Q (b1 && b2) H) : tAnd t u σ H Q := by
  refine h1 _ ?_
  cases b1 with
  | true => exact iteT (h2 _ (by simpa using h))
  | false => exact iteF (by simpa using h)
theorem rd_or_pure {b1 b2 : Bool} {Q : Bool → Hp → Prop} (h1 : ∀ Q : Bool → Hp → Prop, Q b1 H → t σ H Q) (h2 : ∀ Q : Bool → Hp → Prop, Q b2 H → u σ H Q) (h : Q (b1 || b2) H) : tOr t u σ H Q := by
  refine h1 _ ?_
  cases b1 with
  | false => exact iteF (h2 _ (by simpa using h))
  | true => exact iteT (by simpa using h)
theorem rd_b2 {b1 b2 : Bool} {A B : Prop} (h1 : b1 = true → b2 = true → A) (h2 : ¬ (b1 = true ∧ b2 = true) → B) : if (b1 && b2) = true then A else B := by
  cases b1 with
  | true => cases b2 with
    | true => exact iteT (h1 rfl rfl)
    | false => exact iteF (h2 (by simp))
  | false => exact iteF (h2 (by simp))
theorem rd_cat {l b : Addr} {xs zs : List V} (h : H l = some (.lst xs)) (h' : H b = some (.lst zs)) (hz : xs.length + zs.length ≤ sizeLine) (q : ∀ p, H p = none → Q (.ref p) (upd H p (.lst (xs ++ zs)))) : rCat (.ref l) (.ref b) H Q := ⟨l, b, xs, zs, rfl, rfl, h, h', hz, q⟩
theorem rd_bm {T : String} {r : V → List V → Hp → VK → Prop} {to : TE} {tl : TA} (h : to σ H fun x H1 => tyV K T x H1 ∧ tl σ H1 fun xs H2 => r x xs H2 Q) : tBM K T r to tl σ H Q := h
theorem rd_bm0 {T : String} {r : V → List V → Hp → VK → Prop} {to : TE} (h : to σ H fun x H1 => tyV K T x H1 ∧ r x [] H1 Q) : tBM0 K T r to σ H Q := h
theorem rd_append {l : Addr} {xs : List V} (h : H l = some (.lst xs)) (hz : xs.length < sizeLine) (q : Q .non (upd H l (.lst (xs ++ [y])))) : rAppend (.ref l) [y] H Q := ⟨l, xs, y, rfl, rfl, h, hz, q⟩
theorem tyl {K : PySem.W.Frag} {l : Addr} {xs : List V} (h : H l = some (.lst xs)) : tyV K "list" (.ref l) H := Or.inl ⟨rfl, _, SqL.of h⟩
/-- what is walked first, then the loop -/
theorem rd_for {wi : TI} {tb : TS} (h : wi σ H fun J H1 => tFor (fun _ _ R => R J H1) g tb D σ H1) : tFor wi g tb D σ H := h
theorem rd_rng1 {tl : TA} {R : It → Hp → Prop} (h : tl σ H fun vs H1 => ∃ j : Int, vs = [.int j] ∧ -(2 ^ 62) ≤ j ∧ j < 2 ^ 62 ∧ R (Itr 0 j.toNat) H1) : iRng1 tl σ H R := h
theorem rd_itup {R : It → Hp → Prop} (h : te σ H fun x H1 => ∃ a, x = .ref a ∧ (∃ xs, SqT K H1 a xs) ∧ R (Itt K a) H1) : iTup K te σ H R := h
theorem rd_ilst {R : It → Hp → Prop} (h : te σ H fun x H1 => ∃ a, x = .ref a ∧ (∃ xs, SqL K H1 a xs) ∧ R (Itl K a) H1) : iList K te σ H R := h
theorem rd_at {t : TS} {σ' : L2.St} (e : σ = σ') (h : t D σ' H) : t D σ H := e ▸ h
theorem upd_other {H : Hp} {a b : Addr} {o u : HO} (n : b ≠ a) (h : H b = some o) : upd H a u b = some o := by rw [upd_ne n]; exact h
theorem upd_none {H : Hp} {a b : Addr} {u : HO} (n : b ≠ a) (h : H b = none) : upd H a u b = none := by rw [upd_ne n]; exact h
end
/-- the rule for a def that lets nothing out -/
theorem ok0 {P : Program} {w : World} {K : PySem.W.Frag} {mg : Str → Option Value} {base : Heap} {x qual : Str} {params : Arguments} {body : List Stmt} {scope : Scope} {f : Addr} {fd : FuncData}
    {N ps : List Str} {k : Nat} {sp : Sp} (F : FunD K x qual params body scope [] [] f fd) (S : FnScope N ps scope) (len : ∀ vs H Q E, sp vs H Q E → vs.length = ps.length)
    (hbody : ∀ (cdv : Value) (A : Around) (outer : List Env) (s : Shared) (H : Hp) (vs : List V) (Q : VK) (E : XK), Room k (A.deeper (envOfC qual scope s.heap.objs.size f cdv)) → sp vs H Q E →
      ∃ t, PSs (cxOf CX0 P w K mg base N qual scope f cdv A outer s H E).nox body t ∧ t { nx := fun _ H' => Q .non H', rt := Q } (start N vs) H) : FnOk P w K mg base CX0 (k + 1) f fd ps sp := by
  refine F.ok S len fun cdv A outer s H vs Q E hr h => ?_
  obtain ⟨t, ht, q⟩ := hbody cdv A outer s H vs Q E hr h
  exact ⟨t, PSs.nox ht, q⟩
theorem cal_of {P : Program} {w : World} {K : PySem.W.Frag} {mg : Str → Option Value} {base : Heap} {CX : CXT} {k : Nat} {x qual y : Str} {params : Arguments} {body : List Stmt} {scope : Scope} {f : Addr} {fd : FuncData} {ps : List Str} {sp : Sp}
    (F : FunD K x qual params body scope [] [] f fd) (g : mg y = some (.ref f)) (ok : FnOk P w K mg base CX k f fd ps sp)
    (h : ∀ (kV doc pm : Value) (an : Option Addr) (cdv ct : Value) (us : List Value), us.length = ps.length → bindArgs (PySem.W.fnOf x qual params body scope .none kV doc pm an cdv ct) ⟨us, []⟩ = pure (ps.zip us)) :
    Cal P w K mg base CX k y ps sp := ⟨f, fd, ok, F.bindsN h, F.kp, g⟩
/-! ### built-ins, by named readings -/
def rLen1 (K : PySem.W.Frag) : List V → Hp → VK → Prop := fun xs H Q => ∃ p ys, xs = [.ref p] ∧ (SqL K H p ys ∨ SqT K H p ys) ∧ Q (.int ys.length) H
def rTupOf (K : PySem.W.Frag) : List V → Hp → VK → Prop := fun xs H Q => ∃ p ys, xs = [.ref p] ∧ ((SqL K H p ys ∧ ∀ l, H l = none → Q (.ref l) (upd H l (.tup ys))) ∨ (SqT K H p ys ∧ Q (.ref p) H))
def rListOf (K : PySem.W.Frag) : List V → Hp → VK → Prop := fun xs H Q => ∃ p ys, xs = [.ref p] ∧ (SqL K H p ys ∨ SqT K H p ys) ∧ ∀ l, H l = none → Q (.ref l) (upd H l (.lst ys))
def rMin2 : List V → Hp → VK → Prop := fun xs H Q => ∃ i j, xs = [.int i, .int j] ∧ Q (.int (if j < i then j else i)) H
section
variable {X : Cx}
theorem call_len1 : CallR X (.builtin "len") (rLen1 X.K) := call_len_seq
theorem call_tupOf : CallR X (.type "tuple") (rTupOf X.K) := call_tuple_of
theorem call_listOf : CallR X (.type "list") (rListOf X.K) := call_list_of
theorem call_min2n (hc : X.calm = true) : CallR X (.builtin "min") rMin2 := call_min2 hc
theorem ix_listK (K : PySem.W.Frag) (e : X.K = K := by rfl) : IxR X (rIxL K) := e ▸ ix_list
theorem ix_tupK (K : PySem.W.Frag) (e : X.K = K := by rfl) : IxR X (rIxT K) := e ▸ ix_tup
theorem ix_seqK (K : PySem.W.Frag) (e : X.K = K := by rfl) : IxR X (rIx K) := e ▸ ix_seq
theorem call_len1K (K : PySem.W.Frag) (e : X.K = K := by rfl) : CallR X (.builtin "len") (rLen1 K) := e ▸ call_len1
theorem call_tupOfK (K : PySem.W.Frag) (e : X.K = K := by rfl) : CallR X (.type "tuple") (rTupOf K) := e ▸ call_tupOf
theorem call_listOfK (K : PySem.W.Frag) (e : X.K = K := by rfl) : CallR X (.type "list") (rListOf K) := e ▸ call_listOf
theorem call_isiK1 (K : PySem.W.Frag) (e : X.K = K := by rfl) : CallR X (.builtin "isinstance") (rIsi K) := e ▸ call_isi
theorem call_isiTK (K : PySem.W.Frag) (e : X.K = K := by rfl) : CallR X (.builtin "isinstance") (rIsiT K) := e ▸ call_isiT
theorem cr_allK (K : PySem.W.Frag) (hc : X.calm = true) (e : X.K = K := by rfl) : CallR X (.builtin "all") (rAll K) := e ▸ cr_all hc
theorem op_in_seqK (K : PySem.W.Frag) (e : X.K = K := by rfl) : OpR X (compareOp .In) (rIn K false) := e ▸ op_in_seq
theorem op_eqDK (K : PySem.W.Frag) (hu : X.A.units + 64 < cLine) (e : X.K = K := by rfl) : OpR X (compareOp .Eq) (rEqD K) := e ▸ op_eqD hu
theorem op_neDK (K : PySem.W.Frag) (hu : X.A.units + 64 < cLine) (e : X.K = K := by rfl) : OpR X (compareOp .NotEq) (rNeD K) := e ▸ op_neD hu
theorem sl_tupK (K : PySem.W.Frag) (e : X.K = K := by rfl) : SlR X (rSlT K) := e ▸ sl_tup
theorem op_catTK (K : PySem.W.Frag) (e : X.K = K := by rfl) : OpR X (binaryOp .Add) (rCatT K) := e ▸ op_catT
theorem pe_cint {x : Str} {i : Int} {pos : Pos} (h : ∃ t, X.mg x = some (.int i t)) (hg : Gl X x := by rfl) (hd : (x == ("__debug__" : Str)) = false := by decide) : PE X (.Name x pos) (tC (.int i)) := by
  obtain ⟨t, e⟩ := h
  exact pe_glob hg e ⟨t, rfl⟩ hd
end
section
variable {K : PySem.W.Frag} {H : Hp} {v x y : V} {Q : VK} {a p : Addr} {xs : List V}
theorem rd_lenL (h : SqL K H p xs) (q : Q (.int xs.length) H) : rLen1 K [.ref p] H Q := ⟨p, xs, rfl, .inl h, q⟩
theorem rd_lenT (h : SqT K H p xs) (q : Q (.int xs.length) H) : rLen1 K [.ref p] H Q := ⟨p, xs, rfl, .inr h, q⟩
theorem rd_tupOf (h : SqL K H p xs) (q : ∀ l, H l = none → Q (.ref l) (upd H l (.tup xs))) : rTupOf K [.ref p] H Q := ⟨p, xs, rfl, .inl ⟨h, q⟩⟩
theorem rd_listOf (h : SqL K H p xs) (q : ∀ l, H l = none → Q (.ref l) (upd H l (.lst xs))) : rListOf K [.ref p] H Q := ⟨p, xs, rfl, .inl h, q⟩
theorem rd_min2 {i j : Int} (q : Q (.int (if j < i then j else i)) H) : rMin2 [.int i, .int j] H Q := ⟨i, j, rfl, q⟩
theorem rd_isi {A T : String} {b : Bool} (t : TyX K H x (.type A)) (e : kitB A T = some b) (q : Q (.bl b) H) : rIsi K [x, .ty T] H Q := ⟨x, .ty T, .type A, .type T, b, rfl, .ty T, t, kit_ty e, q⟩
theorem rd_isiT2 {A T1 T2 : String} {b1 b2 : Bool} (h : H p = some (.tup [.ty T1, .ty T2])) (t : TyX K H x (.type A)) (e1 : kitB A T1 = some b1) (e2 : kitB A T2 = some b2) (q : Q (.bl (b1 || b2)) H) : rIsiT K [x, .ref p] H Q := by
  refine ⟨x, p, _, .type A, [.type T1, .type T2], b1 || b2, rfl, h, .cons (.ty T1) (.cons (.ty T2) .nil), t, kitAny_cons (kit_ty e1) (fun h1 => ?_) (fun h1 => by rw [h1]; rfl), q⟩
  rw [h1, Bool.false_or]
  exact kitAny_cons (kit_ty e2) (fun h2 => by rw [h2]; rfl) (fun h2 => by rw [h2])
end
end Dc

set_option Elab.async false
set_option linter.all false
set_option maxRecDepth 100000
set_option maxHeartbeats 2000000
namespace Dc
open PySem PySem.Spec PyProof.Rows L2
/-! ### the text by places -/
def topS (i : Nat) : Stmt := PySem.Challenge.pw_drawchain_k11_whole_draws_at_their_bound.main.body.getD i (.Pass ⟨0, 0, 0, 0⟩)
abbrev s__wall : Stmt := topS 0
abbrev s_check_chain : Stmt := topS 10
abbrev s_is_chain : Stmt := topS 11
abbrev s_is_pair : Stmt := topS 12
abbrev s_is_maker : Stmt := topS 13
abbrev s_is_row : Stmt := topS 14
abbrev s_is_stage : Stmt := topS 15
abbrev s_has_chain : Stmt := topS 16
abbrev s_is_within : Stmt := topS 17
abbrev s_is_number : Stmt := topS 18
abbrev s_Meter___init__ : Stmt := inClass (topS 22) 0
abbrev s_Meter_enter : Stmt := inClass (topS 22) 1
abbrev s_Meter_begin_next : Stmt := inClass (topS 22) 2
abbrev s_Meter_note_drawn : Stmt := inClass (topS 22) 3
abbrev s_Meter_note_undone : Stmt := inClass (topS 22) 4
abbrev s_Count___init__ : Stmt := inClass (topS 24) 0
abbrev s_Count_draw : Stmt := inClass (topS 24) 1
abbrev s_Row___init__ : Stmt := inClass (topS 25) 0
abbrev s_Row_draw : Stmt := inClass (topS 25) 1
abbrev s_Stage___init__ : Stmt := inClass (topS 26) 0
abbrev s_Stage_draw : Stmt := inClass (topS 26) 1
abbrev s_Stage_work : Stmt := inClass (topS 26) 2
abbrev s_Reckon___init__ : Stmt := inClass (topS 27) 0
abbrev s_Reckon_work : Stmt := inClass (topS 27) 1
abbrev s_Keep___init__ : Stmt := inClass (topS 28) 0
abbrev s_Keep_work : Stmt := inClass (topS 28) 1
abbrev s_Drop___init__ : Stmt := inClass (topS 29) 0
abbrev s_Drop_work : Stmt := inClass (topS 29) 1
abbrev s_Take___init__ : Stmt := inClass (topS 30) 0
abbrev s_Take_work : Stmt := inClass (topS 30) 1
abbrev s_Each___init__ : Stmt := inClass (topS 31) 0
abbrev s_Each_work : Stmt := inClass (topS 31) 1
abbrev s_Until___init__ : Stmt := inClass (topS 32) 0
abbrev s_Until_work : Stmt := inClass (topS 32) 1
abbrev s_Unlike___init__ : Stmt := inClass (topS 33) 0
abbrev s_Unlike_work : Stmt := inClass (topS 33) 1
abbrev s_Both___init__ : Stmt := inClass (topS 34) 0
abbrev s_Both_work : Stmt := inClass (topS 34) 1
abbrev s_Then___init__ : Stmt := inClass (topS 35) 0
abbrev s_Then_work : Stmt := inClass (topS 35) 1
abbrev s_Drawer___init__ : Stmt := inClass (topS 37) 0
abbrev s_Drawer_next : Stmt := inClass (topS 37) 1
abbrev s_Drawer_drawn : Stmt := inClass (topS 37) 2
abbrev s_Drawer_undone : Stmt := inClass (topS 37) 3
abbrev s_Drawer_put_back : Stmt := inClass (topS 37) 4
abbrev s_chain_end : Stmt := topS 38
abbrev s_maker_of : Stmt := topS 39
abbrev s_stage_behind : Stmt := topS 40
abbrev s_first : Stmt := topS 43
abbrev s__law_start : Stmt := topS 45
abbrev s__law_drawn : Stmt := topS 46
abbrev s__law_same : Stmt := topS 47
abbrev s__law_makers : Stmt := topS 48
abbrev s__law_drawer : Stmt := topS 49
abbrev s__law_source : Stmt := topS 50
abbrev s__law_draw : Stmt := topS 51
abbrev s__law_beside : Stmt := topS 52
abbrev s__law_by : Stmt := topS 53
abbrev s__law_lets_go : Stmt := topS 54
abbrev s__law_told : Stmt := topS 55
abbrev s__law_next : Stmt := topS 56
abbrev s__law_near : Stmt := topS 57
abbrev s_law : Stmt := topS 58

structure Txt (K : PySem.W.Frag) (mg : Str → Option Value) : Prop where
  free_len : mg "len" = none
  free_range : mg "range" = none
  free_isinstance : mg "isinstance" = none
  free_tuple : mg "tuple" = none
  free_list : mg "list" = none
  free_int : mg "int" = none
  free_str : mg "str" = none
  free_bool : mg "bool" = none
  free_min : mg "min" = none
  free_all : mg "all" = none
  free_super : mg "super" = none
  c_FIRST_TOO_LARGE : ∃ t, mg "FIRST_TOO_LARGE" = some (.int 1000000000000000000000000000000 t)
  c_MAKERS_AT_MOST : ∃ t, mg "MAKERS_AT_MOST" = some (.int 4 t)
  c_STAGES_AT_MOST : ∃ t, mg "STAGES_AT_MOST" = some (.int 12 t)
  c_ROW_AT_MOST : ∃ t, mg "ROW_AT_MOST" = some (.int 100 t)
  c_DRAWN_AT_MOST : ∃ t, mg "DRAWN_AT_MOST" = some (.int 200 t)
  c_ASKED_AT_MOST : ∃ t, mg "ASKED_AT_MOST" = some (.int 1000 t)

abbrev FnP (K : PySem.W.Frag) (x qual : Str) (st : Stmt) (f : Addr) (fd : FuncData) : Prop := FunD K x qual (defArgs st) (defBody st) (defScope st) [] [] f fd
end Dc

set_option Elab.async false
set_option linter.all false
set_option maxRecDepth 100000
set_option maxHeartbeats 0
namespace Dc
open PySem PySem.Spec PyProof.Rows L2
abbrev theP : Program := PySem.Challenge.pw_drawchain_k11_whole_draws_at_their_bound
/-! ### what is looked at behind the top -/
def supW (K : PySem.W.Frag) (p : Str × Option Str) : He.FnW := match K.lookup (He.fAd K p) with
  | some ⟨_, _, .func fd, _⟩ => some (fd.name, fd.qualname, fd.params, fd.body, fd.scope, fd.globals, [], fd.builtins)
  | _ => none
def isNon : Value → Bool
  | .none => true
  | _ => false
def cellB (K : PySem.W.Frag) (D : Addr) : List (Str × Addr) → Bool
  | [(x, cc)] => decide (x = ("__class__" : Str)) && (match K.lookup cc with
    | some ⟨_, _, .cell (some (.ref d)), _⟩ => decide (d = D)
    | _ => false)
  | _ => false
def codeB (K : PySem.W.Frag) (qual : Str) (cd : Value) : Bool := match cd with
  | .ref cda => PySem.W.codeIn K (.ref cda) qual && (match K.lookup cda with
    | some ⟨_, _, .fields ws, _⟩ => (match (ws[2]? : Option Value) with
      | some (.str file _) => ((theP.main.file : Str) == file)
      | _ => false)
    | _ => false)
  | _ => false
def supB (K : PySem.W.Frag) (q : Str × Str) : Bool := (match K.lookup (He.fAd K (q.1, some "__init__")) with
  | some ⟨_, _, .func fd, _⟩ => isNon fd.defaults && (cellB K (He.ga K q.1) fd.closure && codeB K q.2 fd.code)
  | _ => false) && (decide (PySem.W.mroIn K (He.ga K q.1) (.ref (He.ga K q.1)) = some true) && He.eqO (PySem.W.ks_superIn K (He.ga K q.1) (He.ga K q.1) "__init__") (some (some (.ref (He.fAd K ("Stage", some "__init__"))))))
def stg2B (K : PySem.W.Frag) : Bool := decide (PySem.W.typeIn K (.ref (He.fAd K ("Stage", some "__init__"))) = some (.type "function")) && (PySem.W.fnIn K (He.fAd K ("Stage", some "__init__")) && He.eqO (PySem.W.nsIn K cStatics "thirdparty.any") (some none))
def longB (K : PySem.W.Frag) : Bool := PySem.W.excIn K (He.ga K "LongDraw") [Value.type "Exception", Value.type "BaseException", Value.type "object"] "Exception.__new__" && (PySem.W.keepIn K (.ref (He.ga K "LongDraw")) && (decide (PySem.W.subIn K (.ref (He.ga K "LongDraw")) (.type "BaseException") = some true) && decide (PySem.W.typeIn K (.ref (He.ga K "LongDraw")) = some (.type "type"))))
def globs0 : List Str := ["check_chain", "is_chain", "is_pair", "is_maker", "is_row", "is_stage", "has_chain", "is_within", "is_number", "chain_end", "maker_of", "stage_behind", "first", "_law_start", "_law_drawn", "_law_same", "_law_makers", "_law_drawer", "_law_source", "_law_draw", "_law_beside", "_law_by", "_law_lets_go", "_law_told", "_law_next", "_law_near", "law", "LongDraw", "Meter", "Drawer"]
def globs1 : List Str := ["Stage", "Count", "Row", "Reckon", "Keep", "Drop", "Take", "Each", "Until", "Unlike", "Both", "Then"]
def globs : List Str := globs0 ++ globs1
def frees0 : List Str := ["len", "range", "isinstance", "tuple", "list", "int", "str", "bool", "min", "all", "super"]
def frees : List Str := frees0
def cons_0 : List (Str × Int) := [("FIRST_TOO_LARGE", 1000000000000000000000000000000), ("MAKERS_AT_MOST", 4), ("STAGES_AT_MOST", 12), ("ROW_AT_MOST", 100), ("DRAWN_AT_MOST", 200), ("ASKED_AT_MOST", 1000)]
def cons_ : List (Str × Int) := cons_0
def clss0 : List Str := ["Count", "Row", "Reckon", "Keep", "Drop", "Take", "Each", "Until", "Unlike", "Both", "Then", "Meter", "Drawer"]
def clss : List Str := clss0
def nodes0 : List Str := ["Count", "Row", "Reckon", "Keep", "Drop", "Take", "Each", "Until", "Unlike", "Both", "Then"]
def nodes : List Str := nodes0
def flds0 : List Str := ["number", "step", "meter", "place", "numbers", "at", "ahead", "ended", "factor", "term", "rest", "wheel", "left", "many", "n", "last", "other"]
def flds : List Str := flds0
def nas0 : List (Str × Str) := [("Meter", "counts"), ("Meter", "lost"), ("Meter", "left"), ("Drawer", "_meter"), ("Drawer", "_last"), ("Drawer", "_back"), ("Drawer", "_stopped")]
def nas : List (Str × Str) := nas0
def mths0 : List (Str × Str) := [("Meter", "enter"), ("Meter", "begin_next"), ("Meter", "note_drawn"), ("Meter", "note_undone"), ("Count", "draw"), ("Row", "draw"), ("Reckon", "work"), ("Keep", "work"), ("Drop", "work"), ("Take", "work"), ("Each", "work"), ("Until", "work"), ("Unlike", "work"), ("Both", "work"), ("Then", "work"), ("Drawer", "next"), ("Drawer", "drawn"), ("Drawer", "undone"), ("Drawer", "put_back"), ("Reckon", "draw"), ("Keep", "draw"), ("Drop", "draw"), ("Take", "draw"), ("Each", "draw"), ("Until", "draw"), ("Unlike", "draw"), ("Both", "draw"), ("Then", "draw")]
def mths : List (Str × Str) := mths0
def mkrs0 : List Str := ["Count", "Row", "Reckon", "Keep", "Drop", "Take", "Each", "Until", "Unlike", "Both", "Then", "Meter", "Drawer"]
def mkrs : List Str := mkrs0
def sups0 : List (Str × Str) := [("Reckon", "Reckon.__init__"), ("Keep", "Keep.__init__"), ("Drop", "Drop.__init__"), ("Take", "Take.__init__"), ("Each", "Each.__init__"), ("Until", "Until.__init__"), ("Unlike", "Unlike.__init__"), ("Both", "Both.__init__"), ("Then", "Then.__init__")]
def sups : List (Str × Str) := sups0
def fns0 : List He.DefD := [⟨("check_chain", none), "check_chain", "check_chain", defArgs s_check_chain, defBody s_check_chain, defScope s_check_chain, [], []⟩, ⟨("is_chain", none), "is_chain", "is_chain", defArgs s_is_chain, defBody s_is_chain, defScope s_is_chain, [], []⟩, ⟨("is_pair", none), "is_pair", "is_pair", defArgs s_is_pair, defBody s_is_pair, defScope s_is_pair, [], []⟩, ⟨("is_maker", none), "is_maker", "is_maker", defArgs s_is_maker, defBody s_is_maker, defScope s_is_maker, [], []⟩, ⟨("is_row", none), "is_row", "is_row", defArgs s_is_row, defBody s_is_row, defScope s_is_row, [], []⟩, ⟨("is_stage", none), "is_stage", "is_stage", defArgs s_is_stage, defBody s_is_stage, defScope s_is_stage, [], []⟩, ⟨("has_chain", none), "has_chain", "has_chain", defArgs s_has_chain, defBody s_has_chain, defScope s_has_chain, [], []⟩, ⟨("is_within", none), "is_within", "is_within", defArgs s_is_within, defBody s_is_within, defScope s_is_within, [], []⟩, ⟨("is_number", none), "is_number", "is_number", defArgs s_is_number, defBody s_is_number, defScope s_is_number, [], []⟩, ⟨("chain_end", none), "chain_end", "chain_end", defArgs s_chain_end, defBody s_chain_end, defScope s_chain_end, [], []⟩, ⟨("maker_of", none), "maker_of", "maker_of", defArgs s_maker_of, defBody s_maker_of, defScope s_maker_of, [], []⟩, ⟨("stage_behind", none), "stage_behind", "stage_behind", defArgs s_stage_behind, defBody s_stage_behind, defScope s_stage_behind, [], []⟩, ⟨("first", none), "first", "first", defArgs s_first, defBody s_first, defScope s_first, [], []⟩, ⟨("_law_start", none), "_law_start", "_law_start", defArgs s__law_start, defBody s__law_start, defScope s__law_start, [], []⟩, ⟨("_law_drawn", none), "_law_drawn", "_law_drawn", defArgs s__law_drawn, defBody s__law_drawn, defScope s__law_drawn, [], []⟩, ⟨("_law_same", none), "_law_same", "_law_same", defArgs s__law_same, defBody s__law_same, defScope s__law_same, [], []⟩, ⟨("_law_makers", none), "_law_makers", "_law_makers", defArgs s__law_makers, defBody s__law_makers, defScope s__law_makers, [], []⟩, ⟨("_law_drawer", none), "_law_drawer", "_law_drawer", defArgs s__law_drawer, defBody s__law_drawer, defScope s__law_drawer, [], []⟩, ⟨("_law_source", none), "_law_source", "_law_source", defArgs s__law_source, defBody s__law_source, defScope s__law_source, [], []⟩, ⟨("_law_draw", none), "_law_draw", "_law_draw", defArgs s__law_draw, defBody s__law_draw, defScope s__law_draw, [], []⟩, ⟨("_law_beside", none), "_law_beside", "_law_beside", defArgs s__law_beside, defBody s__law_beside, defScope s__law_beside, [], []⟩, ⟨("_law_by", none), "_law_by", "_law_by", defArgs s__law_by, defBody s__law_by, defScope s__law_by, [], []⟩, ⟨("_law_lets_go", none), "_law_lets_go", "_law_lets_go", defArgs s__law_lets_go, defBody s__law_lets_go, defScope s__law_lets_go, [], []⟩, ⟨("_law_told", none), "_law_told", "_law_told", defArgs s__law_told, defBody s__law_told, defScope s__law_told, [], []⟩, ⟨("_law_next", none), "_law_next", "_law_next", defArgs s__law_next, defBody s__law_next, defScope s__law_next, [], []⟩, ⟨("_law_near", none), "_law_near", "_law_near", defArgs s__law_near, defBody s__law_near, defScope s__law_near, [], []⟩, ⟨("law", none), "law", "law", defArgs s_law, defBody s_law, defScope s_law, [], []⟩, ⟨("Meter", some "__init__"), "__init__", "Meter.__init__", defArgs s_Meter___init__, defBody s_Meter___init__, defScope s_Meter___init__, [], []⟩, ⟨("Meter", some "enter"), "enter", "Meter.enter", defArgs s_Meter_enter, defBody s_Meter_enter, defScope s_Meter_enter, [], []⟩, ⟨("Meter", some "begin_next"), "begin_next", "Meter.begin_next", defArgs s_Meter_begin_next, defBody s_Meter_begin_next, defScope s_Meter_begin_next, [], []⟩]
def fns1 : List He.DefD := [⟨("Meter", some "note_drawn"), "note_drawn", "Meter.note_drawn", defArgs s_Meter_note_drawn, defBody s_Meter_note_drawn, defScope s_Meter_note_drawn, [], []⟩, ⟨("Meter", some "note_undone"), "note_undone", "Meter.note_undone", defArgs s_Meter_note_undone, defBody s_Meter_note_undone, defScope s_Meter_note_undone, [], []⟩, ⟨("Count", some "__init__"), "__init__", "Count.__init__", defArgs s_Count___init__, defBody s_Count___init__, defScope s_Count___init__, [], []⟩, ⟨("Count", some "draw"), "draw", "Count.draw", defArgs s_Count_draw, defBody s_Count_draw, defScope s_Count_draw, [], []⟩, ⟨("Row", some "__init__"), "__init__", "Row.__init__", defArgs s_Row___init__, defBody s_Row___init__, defScope s_Row___init__, [], []⟩, ⟨("Row", some "draw"), "draw", "Row.draw", defArgs s_Row_draw, defBody s_Row_draw, defScope s_Row_draw, [], []⟩, ⟨("Stage", some "__init__"), "__init__", "Stage.__init__", defArgs s_Stage___init__, defBody s_Stage___init__, defScope s_Stage___init__, [], []⟩, ⟨("Stage", some "draw"), "draw", "Stage.draw", defArgs s_Stage_draw, defBody s_Stage_draw, defScope s_Stage_draw, [], []⟩, ⟨("Stage", some "work"), "work", "Stage.work", defArgs s_Stage_work, defBody s_Stage_work, defScope s_Stage_work, [], []⟩, ⟨("Reckon", some "work"), "work", "Reckon.work", defArgs s_Reckon_work, defBody s_Reckon_work, defScope s_Reckon_work, [], []⟩, ⟨("Keep", some "work"), "work", "Keep.work", defArgs s_Keep_work, defBody s_Keep_work, defScope s_Keep_work, [], []⟩, ⟨("Drop", some "work"), "work", "Drop.work", defArgs s_Drop_work, defBody s_Drop_work, defScope s_Drop_work, [], []⟩, ⟨("Take", some "work"), "work", "Take.work", defArgs s_Take_work, defBody s_Take_work, defScope s_Take_work, [], []⟩, ⟨("Each", some "work"), "work", "Each.work", defArgs s_Each_work, defBody s_Each_work, defScope s_Each_work, [], []⟩, ⟨("Until", some "work"), "work", "Until.work", defArgs s_Until_work, defBody s_Until_work, defScope s_Until_work, [], []⟩, ⟨("Unlike", some "work"), "work", "Unlike.work", defArgs s_Unlike_work, defBody s_Unlike_work, defScope s_Unlike_work, [], []⟩, ⟨("Both", some "work"), "work", "Both.work", defArgs s_Both_work, defBody s_Both_work, defScope s_Both_work, [], []⟩, ⟨("Then", some "work"), "work", "Then.work", defArgs s_Then_work, defBody s_Then_work, defScope s_Then_work, [], []⟩, ⟨("Drawer", some "__init__"), "__init__", "Drawer.__init__", defArgs s_Drawer___init__, defBody s_Drawer___init__, defScope s_Drawer___init__, [], []⟩, ⟨("Drawer", some "next"), "next", "Drawer.next", defArgs s_Drawer_next, defBody s_Drawer_next, defScope s_Drawer_next, [], []⟩, ⟨("Drawer", some "drawn"), "drawn", "Drawer.drawn", defArgs s_Drawer_drawn, defBody s_Drawer_drawn, defScope s_Drawer_drawn, [], []⟩, ⟨("Drawer", some "undone"), "undone", "Drawer.undone", defArgs s_Drawer_undone, defBody s_Drawer_undone, defScope s_Drawer_undone, [], []⟩, ⟨("Drawer", some "put_back"), "put_back", "Drawer.put_back", defArgs s_Drawer_put_back, defBody s_Drawer_put_back, defScope s_Drawer_put_back, [], []⟩, ⟨("Reckon", some "draw"), "draw", "Stage.draw", defArgs s_Stage_draw, defBody s_Stage_draw, defScope s_Stage_draw, [], []⟩, ⟨("Keep", some "draw"), "draw", "Stage.draw", defArgs s_Stage_draw, defBody s_Stage_draw, defScope s_Stage_draw, [], []⟩, ⟨("Drop", some "draw"), "draw", "Stage.draw", defArgs s_Stage_draw, defBody s_Stage_draw, defScope s_Stage_draw, [], []⟩, ⟨("Take", some "draw"), "draw", "Stage.draw", defArgs s_Stage_draw, defBody s_Stage_draw, defScope s_Stage_draw, [], []⟩, ⟨("Each", some "draw"), "draw", "Stage.draw", defArgs s_Stage_draw, defBody s_Stage_draw, defScope s_Stage_draw, [], []⟩, ⟨("Until", some "draw"), "draw", "Stage.draw", defArgs s_Stage_draw, defBody s_Stage_draw, defScope s_Stage_draw, [], []⟩, ⟨("Unlike", some "draw"), "draw", "Stage.draw", defArgs s_Stage_draw, defBody s_Stage_draw, defScope s_Stage_draw, [], []⟩]
def fns2 : List He.DefD := [⟨("Both", some "draw"), "draw", "Stage.draw", defArgs s_Stage_draw, defBody s_Stage_draw, defScope s_Stage_draw, [], []⟩, ⟨("Then", some "draw"), "draw", "Stage.draw", defArgs s_Stage_draw, defBody s_Stage_draw, defScope s_Stage_draw, [], []⟩]
def fns : List He.DefD := fns0 ++ fns1 ++ fns2
def supD0 : List He.DefD := [⟨("Reckon", some "__init__"), "__init__", "Reckon.__init__", defArgs s_Reckon___init__, defBody s_Reckon___init__, defScope s_Reckon___init__, [], []⟩, ⟨("Keep", some "__init__"), "__init__", "Keep.__init__", defArgs s_Keep___init__, defBody s_Keep___init__, defScope s_Keep___init__, [], []⟩, ⟨("Drop", some "__init__"), "__init__", "Drop.__init__", defArgs s_Drop___init__, defBody s_Drop___init__, defScope s_Drop___init__, [], []⟩, ⟨("Take", some "__init__"), "__init__", "Take.__init__", defArgs s_Take___init__, defBody s_Take___init__, defScope s_Take___init__, [], []⟩, ⟨("Each", some "__init__"), "__init__", "Each.__init__", defArgs s_Each___init__, defBody s_Each___init__, defScope s_Each___init__, [], []⟩, ⟨("Until", some "__init__"), "__init__", "Until.__init__", defArgs s_Until___init__, defBody s_Until___init__, defScope s_Until___init__, [], []⟩, ⟨("Unlike", some "__init__"), "__init__", "Unlike.__init__", defArgs s_Unlike___init__, defBody s_Unlike___init__, defScope s_Unlike___init__, [], []⟩, ⟨("Both", some "__init__"), "__init__", "Both.__init__", defArgs s_Both___init__, defBody s_Both___init__, defScope s_Both___init__, [], []⟩, ⟨("Then", some "__init__"), "__init__", "Then.__init__", defArgs s_Then___init__, defBody s_Then___init__, defScope s_Then___init__, [], []⟩]
def supD : List He.DefD := supD0
def exB (K : PySem.W.Frag) : Bool := (globs.all fun x => (He.Fa.glo x).ok K) && ((frees.all fun x => (He.Fa.free x).ok K) && ((cons_.all fun q => (He.Fa.int q.1 q.2).ok K) && ((clss.all fun x => (He.Fa.cls x).ok K) && ((nodes.all fun x => flds.all fun f => (He.Fa.noat x f).ok K) && ((nas.all fun q => (He.Fa.noat q.1 q.2).ok K) &&
  ((mths.all fun q => (He.Fa.meth q.1 q.2).ok K) && ((mkrs.all fun x => (He.Fa.mkr x).ok K) && (longB K && ((He.Fa.exm "LongDraw" "LongDraw" true).ok K && (decide ((nodes.map (He.ga K)).Nodup) && ((sups.all fun q => supB K q) && stg2B K)))))))))))
abbrev AlZ : Type := Bool × List He.FnW × List He.FnW
def obsK (K : PySem.W.Frag) : AlZ := (exB K && fns.all fun d => d.ok K, fns.map fun d => He.fnW K d.at_, supD.map fun d => supW K d.at_)
def valZ : AlZ := (true, fns.map He.DefD.val, supD.map He.DefD.val)
def asZ (g : Addr → Option Obj) : List Addr := He.asD g 4 ++ [cStatics]
def hkZ : PySem.W.Hook where
  α := AlZ
  obs := fun s => obsK (He.frG s.heap.get? (asZ s.heap.get?))
  val := fun _ => valZ
  says := fun _ h => ∃ K : PySem.W.Frag, K.In h ∧ obsK K = valZ
  of := fun _ _ e => ⟨_, He.frG_in, e⟩
  keeps := fun _ _ _ ⟨K, hK, c⟩ k => ⟨K, PySem.W.Frag.In.keeps hK k, c⟩
def obZ (s : PySem.W.SharedT) : AlZ := obsK (He.frG (HandSHeadRun.getT s) (asZ (HandSHeadRun.getT s)))
theorem obZ_eq (s : PySem.W.SharedT) : obZ s = hkZ.obs s.abs := by
  have e : HandSHeadRun.getT s = s.abs.heap.get? := funext (HandSHeadRun.getT_eq s)
  show obsK (He.frG (HandSHeadRun.getT s) (asZ (HandSHeadRun.getT s))) = obsK (He.frG s.abs.heap.get? (asZ s.abs.heap.get?))
  rw [e]
abbrev theR : PySem.W.OpenRow := PySem.W.OpenLaw.row PySem.Challenge.rw_drawchain_k11_whole_draws_at_their_bound
def loose0 : List PySem.Str := ["_wall", "DrawError", "BadChain", "BadMany", "FIRST_TOO_LARGE", "MAKERS_AT_MOST", "STAGES_AT_MOST", "ROW_AT_MOST", "check_chain", "is_chain", "is_pair", "is_maker", "is_row", "is_stage", "has_chain", "is_within", "is_number", "DRAWN_AT_MOST", "LongDraw", "Meter", "Count", "Row", "Stage", "Reckon", "Keep", "Drop", "Take", "Each", "Until", "Unlike"]
def loose1 : List PySem.Str := ["Both", "Then", "Drawer", "chain_end", "maker_of", "stage_behind", "ASKED_AT_MOST", "first", "_law_start", "_law_drawn", "_law_same", "_law_makers", "_law_drawer", "_law_source", "_law_draw", "_law_beside", "_law_by", "_law_lets_go", "_law_told", "_law_next", "_law_near"]
def looses : List PySem.Str := loose0 ++ loose1
theorem run (w : World) : HandSHeadRun.RunEq theR (PySem.W.view theR.prog [58]) hkZ obZ 100000 looses w := by
  intro os
  kernel_rfl
end Dc

set_option Elab.async false
set_option linter.all false
set_option maxRecDepth 100000
set_option maxHeartbeats 2000000
namespace Dc
open PySem PySem.Spec PyProof.Rows L2
/-! ### methods by name -/
section
variable {X : Cx} {CX : CXT} {k : Nat} {x m : Str} {C : Addr} {ps : List Str} {sp : Sp} {E : XK} {e o : Expr} {es : List Expr} {t : TA} {ta : TE} {p pos apos : Pos}
theorem pe_cm {pl : Sem Bool} (he : PE X o ta) (G : CalM X.prog X.w X.K X.mg X.base CX k C m ps sp) (hr : Room k X.A) (hx : Passes CX X E) (ha : PA X (e :: es) t)
    (hst : starEach (e :: es) X.env = (false, eval e X.env) :: starEach es X.env := by rfl) (hpl : (backTo pos (starEach es X.env)).any (·.1) = false := by rfl)
    (ht : eval (.Call (.Attribute o m apos) (e :: es) [] pos) X.env = (do
      let ov ← eval o X.env
      standAt apos.atName
      let (f, first) ← holding [ov] (getMethod ov m pl)
      callWith pos f first (backTo pos (starEach (e :: es) X.env)) (backToKw pos (keywordEach [] X.env))) := by rfl) :
    PE X (.Call (.Attribute o m apos) (e :: es) [] pos) (tMeth C m sp [] E ta t) := by
  obtain ⟨f, fd, F, b, hm, c⟩ := G
  exact pe_meth he c hm F hr b .nil hx ha hst hpl ht
theorem pe_cm0 {pl : Sem Bool} (he : PE X o ta) (G : CalM X.prog X.w X.K X.mg X.base CX k C m ps sp) (hr : Room k X.A) (hx : Passes CX X E)
    (ht : eval (.Call (.Attribute o m apos) [] [] pos) X.env = (do
      let ov ← eval o X.env
      standAt apos.atName
      let (f, first) ← holding [ov] (getMethod ov m pl)
      callWith pos f first (backTo pos (starEach [] X.env)) (backToKw pos (keywordEach [] X.env))) := by rfl) :
    PE X (.Call (.Attribute o m apos) [] [] pos) (tMeth C m sp [] E ta tNil) := by
  obtain ⟨f, fd, F, b, hm, c⟩ := G
  exact pe_meth0 he c hm F hr b .nil hx ht
/-- o.m(), o an instance of one of the classes Cs, each of which keeps the same promise -/
def tDyn (Cs : Addr → Prop) (m : Str) (sp : Addr → Sp) (E : XK) (ta : TE) : TE := fun σ H Q => ta σ H fun x H1 => ∃ a C dx fs, x = .ref a ∧ Cs C ∧ H1 a = some (.ins C dx fs) ∧ fs.lookup m = none ∧ sp C [.ref a] H1 Q E
theorem pe_dyn0 {Cs : Addr → Prop} {sp : Addr → Sp} {pl : Sem Bool} (he : PE X o ta) (G : ∀ C, Cs C → CalM X.prog X.w X.K X.mg X.base CX k C m ps (sp C)) (hr : Room k X.A) (hx : Passes CX X E)
    (ht : eval (.Call (.Attribute o m apos) [] [] pos) X.env = (do
      let ov ← eval o X.env
      standAt apos.atName
      let (f, first) ← holding [ov] (getMethod ov m pl)
      callWith pos f first (backTo pos (starEach [] X.env)) (backToKw pos (keywordEach [] X.env))) := by rfl) :
    PE X (.Call (.Attribute o m apos) [] [] pos) (tDyn Cs m sp E ta) := by
  refine ⟨fun pins s σ H Q I h => ?_⟩
  refine PySem.W.methodCall_KW (pl := pl) (thn (he.run pins s σ H _ I h) fun u s1 ⟨x, H1, I1, rx, a, C, dx, fs, ex, hC, ea, l, q⟩ => ?_) ht
  subst ex
  obtain rfl : u = Value.ref a := rx
  obtain ⟨f, fd, F, b, hm, c⟩ := G C hC
  refine getmeth_ok I1 ea c hm l ?_
  exact PySem.W.callWith_K0 (first := [.ref a]) I1.kIn hm.kp (run_fn (us := [.ref a]) (vs := [.ref a]) (dvs := []) F hr b .nil hx I1 (.cons rfl .nil) q)
theorem pe_mk (G : CalI X.prog X.w X.K X.mg X.base CX k x C ps sp) (hr : Room (k + 1) X.A) (hx : Passes CX X E) (ha : PA X (e :: es) t) (hg : Gl X x := by rfl) (hdb : (x == ("__debug__" : Str)) = false := by decide)
    (he : starEach (e :: es) X.env = (false, eval e X.env) :: starEach es X.env := by rfl) (hpl : (backTo pos (starEach es X.env)).any (·.1) = false := by rfl) :
    PE X (.Call (.Name x p) (e :: es) [] pos) (tMake C sp [] E t) := by
  obtain ⟨f, fd, F, b, M, g⟩ := G
  exact pe_make M F hr hg g b .nil hx ha hdb he hpl
theorem pe_mk0 (G : CalI X.prog X.w X.K X.mg X.base CX k x C ps sp) (hr : Room (k + 1) X.A) (hx : Passes CX X E) (hg : Gl X x := by rfl) (hdb : (x == ("__debug__" : Str)) = false := by decide) :
    PE X (.Call (.Name x p) [] [] pos) (tMake C sp [] E tNil) := by
  obtain ⟨f, fd, F, b, M, g⟩ := G
  exact pe_make0 M F hr hg g b .nil hx hdb
end
section
variable {K : PySem.W.Frag} {σ : L2.St} {H : Hp} {i : Nat} {v x y : V} {ta tb te tv : TE} {Q : VK} {a C dx : Addr} {fs : List (Str × V)} {f m : Str} {sp : Sp} {E : XK} {t : TA} {D : Ends}
theorem rd_fld (h : ta σ H fun x H1 => ∃ a C dx fs v, x = .ref a ∧ H1 a = some (.ins C dx fs) ∧ Cls K C ∧ NoAttr K C f ∧ fs.lookup f = some v ∧ Q v H1) : tFld K ta f σ H Q := h
theorem rd_f (h : H a = some (.ins C dx fs)) (c : Cls K C) (n : NoAttr K C f) (l : fs.lookup f = some v) (q : Q v H) : ∃ a' C dx fs v, V.ref a = .ref a' ∧ H a' = some (.ins C dx fs) ∧ Cls K C ∧ NoAttr K C f ∧ fs.lookup f = some v ∧ Q v H := ⟨a, C, dx, fs, v, rfl, h, c, n, l, q⟩
/-- self.f -/
theorem rd_sf (hs : σ[i]? = some (some (.ref a))) (h : H a = some (.ins C dx fs)) (c : Cls K C) (n : NoAttr K C f) (l : fs.lookup f = some v) (q : Q v H) : tFld K (tVar i) f σ H Q := ⟨_, hs, a, C, dx, fs, v, rfl, h, c, n, l, q⟩
/-- o.f = e -/
theorem rd_fset (h : tv σ H fun y H1 => ta σ H1 fun x H2 => ∃ a C dx fs, x = .ref a ∧ H2 a = some (.ins C dx fs) ∧ Cls K C ∧ NoAttr K C f ∧ fs.length < 1000 ∧ D.nx σ (upd H2 a (.ins C dx (putF f y fs)))) : sFld K ta tv f D σ H := h
theorem rd_st (h : H a = some (.ins C dx fs)) (c : Cls K C) (n : NoAttr K C f) (l : fs.length < 1000) (q : D.nx σ (upd H a (.ins C dx (putF f y fs)))) :
    ∃ a' C dx fs, V.ref a = .ref a' ∧ H a' = some (.ins C dx fs) ∧ Cls K C ∧ NoAttr K C f ∧ fs.length < 1000 ∧ D.nx σ (upd H a' (.ins C dx (putF f y fs))) := ⟨a, C, dx, fs, rfl, h, c, n, l, q⟩
/-- o.f += e -/
theorem rd_faug {rd : V → V → Hp → VK → Prop} (hs : σ[i]? = some (some (.ref a))) (h : H a = some (.ins C dx fs)) (c : Cls K C) (n : NoAttr K C f) (l : fs.lookup f = some v)
    (q : tv σ H fun y H2 => rd v y H2 fun z H3 => ∃ dx2 fs2, H3 a = some (.ins C dx2 fs2) ∧ fs2.length < 1000 ∧ D.nx σ (upd H3 a (.ins C dx2 (putF f z fs2)))) : sFldAug K (tVar i) tv rd f D σ H := ⟨_, hs, a, C, dx, fs, v, rfl, h, c, n, l, q⟩
theorem rd_ri {g : Int → Int → Int} {i j : Int} (q : Q (.int (g i j)) H) : (fun (x y : V) (H : Hp) (Q : VK) => ∃ i j, x = .int i ∧ y = .int j ∧ Q (.int (g i j)) H) (.int i) (.int j) H Q := ⟨i, j, rfl, rfl, q⟩
theorem rd_meth (h : ta σ H fun x H1 => ∃ a dx fs, x = .ref a ∧ H1 a = some (.ins C dx fs) ∧ fs.lookup m = none ∧ t σ H1 fun vs H2 => sp (x :: (vs ++ [])) H2 Q E) : tMeth C m sp [] E ta t σ H Q := h
theorem rd_m (h : H a = some (.ins C dx fs)) (l : fs.lookup m = none) (q : t σ H fun vs H2 => sp (.ref a :: (vs ++ [])) H2 Q E) : ∃ a' dx fs, V.ref a = .ref a' ∧ H a' = some (.ins C dx fs) ∧ fs.lookup m = none ∧ t σ H fun vs H2 => sp (V.ref a :: (vs ++ [])) H2 Q E := ⟨a, dx, fs, rfl, h, l, q⟩
theorem rd_dyn {Cs : Addr → Prop} {sp : Addr → Sp} (h : ta σ H fun x H1 => ∃ a C dx fs, x = .ref a ∧ Cs C ∧ H1 a = some (.ins C dx fs) ∧ fs.lookup m = none ∧ sp C [.ref a] H1 Q E) : tDyn Cs m sp E ta σ H Q := h
theorem rd_d {Cs : Addr → Prop} {sp : Addr → Sp} (hC : Cs C) (h : H a = some (.ins C dx fs)) (l : fs.lookup m = none) (q : sp C [.ref a] H Q E) : ∃ a' C dx fs, V.ref a = .ref a' ∧ Cs C ∧ H a' = some (.ins C dx fs) ∧ fs.lookup m = none ∧ sp C [.ref a'] H Q E := ⟨a, C, dx, fs, rfl, hC, h, l, q⟩
theorem rd_make (h : t σ H fun vs H1 => ∀ x dx, H1 x = none → H1 dx = none → dx ≠ x → sp (.ref x :: (vs ++ [])) (upd (upd H1 dx (.own x)) x (.ins C dx [])) (fun v H2 => v = .non ∧ Q (.ref x) H2) E) : tMake C sp [] E t σ H Q := h
end
/-! ### l[i] += e -/
section
variable {X : Cx}
def gtL (K : PySem.W.Frag) : V → V → Hp → VK → Prop := fun o i H Q => ∃ (p : Addr) (xs : List V) (k : Nat) (v : V), o = .ref p ∧ i = .int (k : Int) ∧ SqL K H p xs ∧ xs[k]? = some v ∧ Q v H
theorem get_listK (K : PySem.W.Frag) (e : X.K = K := by rfl) : PGet X (gtL K) := by
  subst e
  intro pins s σ H o i u w Q I ro ri h
  obtain ⟨p, xs, k, v, rfl, rfl, hq, hv, q⟩ := h
  obtain rfl : u = Value.ref p := ro
  obtain ⟨t, rfl⟩ := ri
  obtain ⟨its, r, pl, hz⟩ := I.list hq
  obtain ⟨z, ez, rz⟩ := r.get hv
  have hl := r.length
  have hn := line63
  have hk : k < xs.length := (List.getElem?_eq_some_iff.mp hv).1
  exact wpAny_getItem_list pl.isList (by omega) (by omega) (by simpa using ez) ⟨v, H, I, rz, q⟩
end
/-! ### match -/
abbrev TP := V → Hp → (Option (List V) → Hp → Prop) → Prop
abbrev TPs := List V → Hp → (Option (List V) → Hp → Prop) → Prop
def PatEnd (X : Cx) (pins : List (Addr × Obj)) (σ : L2.St) (ns : List Str) (Q : Option (List V) → Hp → Prop) (r : Option (List (Str × Value))) (s' : Shared) : Prop :=
  match r with
  | none => ∃ H', Inv X pins σ H' s' ∧ Q none H'
  | some bs => ∃ vs H', Inv X pins σ H' s' ∧ bs.map (·.1) = ns ∧ Vals vs (bs.map (·.2)) ∧ Q (some vs) H'
/-- a pattern, the names that it binds -/
structure PPat (X : Cx) (p : Pattern) (ns : List Str) (t : TP) : Prop where
  run : ∀ (pins : List (Addr × Obj)) (s : Shared) (σ : L2.St) (H : Hp) (v : V) (u : Value) (Q : Option (List V) → Hp → Prop), Inv X pins σ H s → RelV v u → t v H Q → wpAny (model X.prog X.w) X.A (matchPattern p X.env u) (PatEnd X pins σ ns Q) X.xe s
structure PPats (X : Cx) (ps : List Pattern) (ns : List Str) (t : TPs) : Prop where
  run : ∀ (pins : List (Addr × Obj)) (s : Shared) (σ : L2.St) (H : Hp) (vs : List V) (us : List Value) (Q : Option (List V) → Hp → Prop), Inv X pins σ H s → Vals vs us → t vs H Q → wpAny (model X.prog X.w) X.A (matchEach ps X.env us) (PatEnd X pins σ ns Q) X.xe s
section
variable {X : Cx} {pos pos' : Pos}
/-- a written text -/
def tPStr (r : R2) (x : Str) : TP := fun v H Q => r v (.str x) H fun b H' => ∃ k, b = .bl k ∧ if k = true then Q (some []) H' else Q none H'
theorem pat_str {x : Str} {j : Nat} {r : R2} (ho : OpR X (compareOp .Eq) r) : PPat X (.MatchValue (.Constant (.str x) j pos) pos') [] (tPStr r x) := by
  refine ⟨fun pins s σ H v u Q I rv h => ?_⟩
  refine wpAny_matchPattern_Value ?_
  refine Calls.Constant_str ?_
  refine wpAny_mono (ho pins _ σ H v (.str x) u _ _ (I.tok _) rv ⟨_, rfl⟩ h) (fun c s1 hc => ?_) fun _ _ z => z
  obtain ⟨b, H1, I1, rb, k, rfl, q⟩ := hc
  cases rb
  refine wpAny_truthy_bool ?_
  cases k with
  | true => exact ⟨[], H1, I1, rfl, .nil, by simpa using q⟩
  | false => exact ⟨H1, I1, by simpa using q⟩
def tPCap : TP := fun v H Q => Q (some [v]) H
theorem pat_cap {n : Str} : PPat X (.MatchAs none (some n) pos) [n] tPCap :=
  ⟨fun pins s σ H v u Q I rv h => wpAny_matchPattern_Capture ⟨[v], H, I, rfl, .cons rv .nil, h⟩⟩
def tPWild : TP := fun v H Q => Q (some []) H
theorem pat_wild : PPat X (.MatchAs none none pos) [] tPWild :=
  ⟨fun pins s σ H v u Q I rv h => wpAny_matchPattern_Capture ⟨[], H, I, rfl, .nil, h⟩⟩
/-- one written text or another -/
def tPOr (t u : TP) : TP := fun v H Q => t v H fun r H1 => match r with | some vs => Q (some vs) H1 | none => u v H1 Q
structure PFst (X : Cx) (ps : List Pattern) (t : TP) : Prop where
  run : ∀ (pins : List (Addr × Obj)) (s : Shared) (σ : L2.St) (H : Hp) (v : V) (u : Value) (Q : Option (List V) → Hp → Prop), Inv X pins σ H s → RelV v u → t v H Q → wpAny (model X.prog X.w) X.A (matchFirst ps X.env u) (PatEnd X pins σ [] Q) X.xe s
def tPNo : TP := fun _ H Q => Q none H
theorem pf_nil : PFst X [] tPNo := ⟨fun pins s σ H v u Q I rv h => wpAny_matchFirst_nil ⟨H, I, h⟩⟩
theorem pf_cons {p : Pattern} {ps : List Pattern} {t u : TP} (h : PPat X p [] t) (hs : PFst X ps u) : PFst X (p :: ps) (tPOr t u) := by
  refine ⟨fun pins s σ H v w Q I rv q => ?_⟩
  refine wpAny_matchFirst_cons (wpAny_mono (h.run pins s σ H v w _ I rv q) (fun r s1 hr => ?_) fun _ _ z => z)
  cases r with
  | none =>
    obtain ⟨H1, I1, q1⟩ := hr
    exact hs.run pins s1 σ H1 v w Q I1 rv q1
  | some bs =>
    obtain ⟨vs, H1, I1, e, rr, q1⟩ := hr
    exact ⟨vs, H1, I1, e, rr, q1⟩
theorem pat_or {ps : List Pattern} {t : TP} (h : PFst X ps t) (hn : namesOfAll (ps.take 1) = [] := by rfl) : PPat X (.MatchOr ps pos) [] (fun v H Q => t v H fun r H1 => match r with | some _ => Q (some []) H1 | none => Q none H1) := by
  refine ⟨fun pins s σ H v w Q I rv q => ?_⟩
  refine wpAny_matchPattern_Or (wpAny_mono (h.run pins s σ H v w _ I rv q) (fun r s1 hr => ?_) fun _ _ z => z)
  cases r with
  | none => exact hr
  | some bs =>
    obtain ⟨vs, H1, I1, e, rr, q1⟩ := hr
    rw [hn]
    exact ⟨[], H1, I1, rfl, .nil, q1⟩
/-- the parts, one by one -/
def tPNil : TPs := fun _ H Q => Q (some []) H
def tPCons (t : TP) (u : TPs) : TPs := fun vs H Q => ∃ v r, vs = v :: r ∧ t v H fun b H1 => match b with | none => Q none H1 | some xs => u r H1 fun b2 H2 => match b2 with | none => Q none H2 | some ys => Q (some (xs ++ ys)) H2
theorem pp_nil : PPats X [] [] tPNil := ⟨fun pins s σ H vs us Q I rv h => wpAny_matchEach_nil ⟨[], H, I, rfl, .nil, h⟩⟩
theorem pp_cons {p : Pattern} {ps : List Pattern} {n1 n2 : List Str} {t : TP} {u : TPs} (h : PPat X p n1 t) (hs : PPats X ps n2 u) (hp : p.isStar = false := by rfl) : PPats X (p :: ps) (n1 ++ n2) (tPCons t u) := by
  refine ⟨fun pins s σ H vs us Q I rv q => ?_⟩
  obtain ⟨v, r, rfl, q⟩ := q
  cases rv with
  | cons r1 r2 =>
    refine wpAny_matchEach_cons (wpAny_mono (h.run pins s σ H v _ _ I r1 q) (fun b s1 hb => ?_) fun _ _ z => z) hp
    cases b with
    | none => exact hb
    | some bs =>
      obtain ⟨xs, H1, I1, e1, rr, q1⟩ := hb
      refine wpAny_mono (hs.run pins s1 σ H1 r _ _ I1 r2 q1) (fun b2 s2 hb2 => ?_) fun _ _ z => z
      cases b2 with
      | none => exact hb2
      | some bs2 =>
        obtain ⟨ys, H2, I2, e2, rr2, q2⟩ := hb2
        refine ⟨xs ++ ys, H2, I2, by rw [List.map_append, e1, e2], ?_, q2⟩
        rw [List.map_append]
        exact rr.append rr2
/-- a tuple of so many parts -/
def tPSeq (K : PySem.W.Frag) (n : Nat) (t : TPs) : TP := fun v H Q => ∃ a xs, v = .ref a ∧ SqT K H a xs ∧ (xs.length ≠ n → Q none H) ∧ (xs.length = n → t xs H Q)
theorem pat_seq {ps : List Pattern} {ns : List Str} {t : TPs} (hc : X.calm = true) (h : PPats X ps ns t) (hstar : ps.findIdx? (·.isStar) = none := by rfl) (hwild : (ps.all fun p => p.isWildcard || (p.isStar && p.names.isEmpty)) = false := by rfl) :
    PPat X (.MatchSequence ps pos) ns (tPSeq X.K ps.length t) := by
  refine ⟨fun pins s σ H v u Q I rv q => ?_⟩
  obtain ⟨a, xs, rfl, hq, q1, q2⟩ := q
  obtain rfl : u = Value.ref a := rv
  obtain ⟨its, rr, ht, hz⟩ := I.tuple hq
  have hfit : ((its.toArray).size : Int) < 2 ^ 63 := by
    have := rr.length
    have l := line63
    simp only [List.size_toArray]
    omega
  by_cases hl : xs.length = ps.length
  · refine PyProof.Rows.matchSeq_tuple_hit ht hfit (by simp [← hl, rr.length]) ?_ hstar hwild
    have e : ps.length = its.toArray.size := by simp [← hl, rr.length]
    rw [e]
    refine unpackItems_tuple (s := { s with toks := s.toks + 1 + 1 }) (I.ok.hd hc) ht fun h' hx => ?_
    have I1 : Inv X pins σ H { s with heap := h', toks := s.toks + 1 + 1 } := I.kept (t' := s.toks + 1 + 1) fun b o e => hx b o (Nat.ne_of_lt (Heap.lt_size e)) e
    exact h.run pins _ σ H xs _ Q I1 (by simpa using rr) (q2 hl)
  · refine PyProof.Rows.matchSeq_tuple_miss ht hfit (by simpa [← rr.length] using hl) ?_ hstar hwild
    exact ⟨H, I.tok _, q1 hl⟩
/-- what is bound goes to its slots -/
def setAll : L2.St → List Nat → List V → L2.St
  | σ, i :: is, v :: vs => setAll (σ.set i (some v)) is vs
  | σ, _, _ => σ
theorem assign_all {pins : List (Addr × Obj)} (hN : X.N.Nodup) : ∀ {ns : List Str} {is : List Nat} {bs : List (Str × Value)} {vs : List V} {σ : L2.St} {H : Hp} {s : Shared} {Q : Unit → Shared → Prop} {E : Value → Shared → Prop}, Inv X pins σ H s → bs.map (·.1) = ns → Vals vs (bs.map (·.2)) →
    (is.map fun i => X.N[i]?) = ns.map some → (∀ n ∈ ns, X.env.scope.names.lookup n = some .local) → (∀ s', Inv X pins (setAll σ is vs) H s' → Q () s') → wpAny (model X.prog X.w) X.A (assignInOrder (bs.map fun (n, _) => bindName X.env n) (bs.map (·.2))) Q E s
  | ns, is, [], vs, σ, H, s, Q, E, I, e, rv, hi, hl, q => by
    cases rv
    subst e
    cases is with
    | nil => exact wpAny_assignInOrder_none (q s I)
    | cons i is => cases hi
  | ns, is, (n, u) :: bs, vs, σ, H, s, Q, E, I, e, rv, hi, hl, q => by
    subst e
    cases is with
    | nil => cases hi
    | cons i is =>
      cases rv with
      | @cons v _ vs _ r1 r2 =>
        simp only [List.map_cons, List.cons.injEq] at hi
        refine wpAny_assignInOrder_more ?_
        show wpAny _ _ (bindName X.env n u) _ _ _
        unfold bindName
        refine wpAny_bind (wpAny_holding (wpAny_point ?_))
        refine wpAny_bind (store_ok (v := v) I hN hi.1 (.inl (hl n (by simp))) r1 (fun s1 I1 => wpAny_point ?_) (.inr (hl n (by simp))))
        exact assign_all hN I1 rfl r2 hi.2 (fun m hm => hl m (by simp at hm ⊢; exact .inr hm)) q
/-- the cases, in turn -/
structure PCs (X : Cx) (cs : List MatchCase) (t : V → TS) : Prop where
  run : ∀ (first : Bool) (pins : List (Addr × Obj)) (s : Shared) (σ : L2.St) (H : Hp) (v : V) (u : Value) (D : Ends), Inv X pins σ H s → RelV v u → t v D σ H → wpAny (model X.prog X.w) X.A (matchCases cs X.env u first) (SP X pins D) X.xe s
def tCNil : V → TS := fun _ D σ H => D.nx σ H
theorem pc_nil : PCs X [] tCNil := ⟨fun first pins s σ H v u D I rv h => wpAny_matchCases_nil ⟨σ, H, I, h⟩⟩
def tCase (pt : TP) (is : List Nat) (tb : TS) (rest : V → TS) : V → TS := fun v D σ H => pt v H fun r H1 => match r with | none => rest v D σ H1 | some vs => tb D (setAll σ is vs) H1
theorem pc_cons {p : Pattern} {body : List Stmt} {cs : List MatchCase} {ns : List Str} {is : List Nat} {pt : TP} {tb : TS} {rest : V → TS} (hN : X.N.Nodup) (hp : PPat X p ns pt) (hi : (is.map fun i => X.N[i]?) = ns.map some) (hl : ∀ n ∈ ns, X.env.scope.names.lookup n = some .local)
    (hb : PSs X body tb) (hr : PCs X cs rest) : PCs X (⟨p, none, body⟩ :: cs) (tCase pt is tb rest) := by
  refine ⟨fun first pins s σ H v u D I rv h => ?_⟩
  refine wpAny_matchCases_cons (wpAny_mono (hp.run pins s σ H v u _ I rv h) (fun r s1 hr1 => ?_) fun _ _ z => z)
  cases r with
  | none =>
    obtain ⟨H1, I1, q1⟩ := hr1
    exact hr.run false pins s1 σ H1 v u D I1 rv q1
  | some bs =>
    obtain ⟨vs, H1, I1, e, rr, q1⟩ := hr1
    exact assign_all hN I1 e rr hi hl fun s2 I2 => hb.run pins s2 _ H1 D I2 q1
theorem all_local {ns : List Str} (h : (ns.all fun n => decide (X.env.scope.names.lookup n = some .local)) = true) : ∀ n ∈ ns, X.env.scope.names.lookup n = some .local := fun n hn => of_decide_eq_true (List.all_eq_true.mp h n hn)
def tMatch (te : TE) (cs : V → TS) : TS := fun D σ H => te σ H fun v H1 => cs v D σ H1
theorem ps_match {e : Expr} {te : TE} {cs : List MatchCase} {t : V → TS} (he : PE X e te) (hc : PCs X cs t) : PS X (.Match e cs pos) (tMatch te t) := by
  refine ⟨fun pins s σ H D I h => ?_⟩
  refine wpAny_Match (wpAny_mono (he.run pins s σ H _ I h) (fun u s1 hu => ?_) fun _ _ z => z)
  obtain ⟨v, H1, I1, rv, q⟩ := hu
  exact hc.run true pins s1 σ H1 v u D I1 rv q
end
section
variable {K : PySem.W.Frag} {H : Hp} {a : Addr} {v : V} {xs : List V} {Q : Option (List V) → Hp → Prop} {t : TPs} {n : Nat} {σ : L2.St} {D : Ends} {te : TE} {cs : V → TS}
theorem rd_match (h : te σ H fun v H1 => cs v D σ H1) : tMatch te cs D σ H := h
theorem rd_case {pt : TP} {is : List Nat} {tb : TS} {rest : V → TS} (h : pt v H fun r H1 => match r with | none => rest v D σ H1 | some vs => tb D (setAll σ is vs) H1) : tCase pt is tb rest v D σ H := h
theorem rd_cnil (h : D.nx σ H) : tCNil v D σ H := h
theorem rd_pstr {x : Str} {r : R2} (h : r v (.str x) H fun b H' => ∃ k, b = .bl k ∧ if k = true then Q (some []) H' else Q none H') : tPStr r x v H Q := h
theorem rd_pcap (h : Q (some [v]) H) : tPCap v H Q := h
theorem rd_pwild (h : Q (some []) H) : tPWild v H Q := h
theorem rd_por {t u : TP} (h : t v H fun r H1 => match r with | some vs => Q (some vs) H1 | none => u v H1 Q) : tPOr t u v H Q := h
theorem rd_pno (h : Q none H) : tPNo v H Q := h
theorem rd_pnil (h : Q (some []) H) : tPNil xs H Q := h
theorem rd_pcons {t : TP} {u : TPs} (h : t v H fun b H1 => match b with | none => Q none H1 | some ys => u xs H1 fun b2 H2 => match b2 with | none => Q none H2 | some zs => Q (some (ys ++ zs)) H2) : tPCons t u (v :: xs) H Q := ⟨v, xs, rfl, h⟩
theorem rd_pmiss (h : SqT K H a xs) (e : xs.length ≠ n) (q : Q none H) : tPSeq K n t (.ref a) H Q := ⟨a, xs, rfl, h, fun _ => q, fun z => absurd z e⟩
theorem rd_phit (h : SqT K H a xs) (e : xs.length = n) (q : t xs H Q) : tPSeq K n t (.ref a) H Q := ⟨a, xs, rfl, h, fun z => absurd e z, fun _ => q⟩
end
/-! ### d.setdefault(k, x), k a tuple -/
def rSetdT : V → List V → Hp → VK → Prop := fun x xs H Q => ∃ (a : Addr) (kvs : List (List L2.Key × V)) (k : List L2.Key) (b : Addr) (d : V), x = .ref a ∧ xs = [.ref b, d] ∧ H a = some (.dT kvs) ∧ H b = some (.tup (k.map kV)) ∧ kvs.length < sizeLine ∧
  (∀ v, valV kvs k = some v → Q v H) ∧ (valV kvs k = none → Q d (upd H a (.dT (putK kvs k d))))
theorem mt_setdT {X : Cx} (hu : X.A.units + 1 < cLine) : MtR X "dict.setdefault" rSetdT := by
  intro pins s σ H x xs v us Q I rx rxs h
  obtain ⟨a, kvs, k, b, d, rfl, rfl, ha, hb, hlen, q1, q2⟩ := h
  cases rx
  obtain ⟨u1, u2, rfl, r1, r2⟩ := vals2 rxs
  cases r1
  obtain ⟨z, hd, xs', rel, dd⟩ := dt_of I.hok ha
  have hz : xs'.length ≤ sizeLine := by rw [← Paired.length rel]; exact z
  have hl : (putK kvs k d).length ≤ sizeLine := by have := length_putK kvs k d; omega
  refine call_setdefault_heap (knd := tupleKind (mixKind X.prog X.w)) (hsz := hz) (tupleKind_room_in1 hu) (key_of I.hok hb) hd dd (fun p hp => ?_) (fun hn h' dd' hs => ?_)
  · have r := rel.val k
    rw [hp] at r
    obtain ⟨v0, ev, rv⟩ : ∃ v0, valV kvs k = some v0 ∧ RelV v0 p.2 := by
      cases ev : valV kvs k with
      | none => rw [ev] at r; exact (show False from r).elim
      | some v0 => rw [ev] at r; exact ⟨v0, rfl, r⟩
    exact ⟨v0, H, I.tok _, rv, q1 v0 ev⟩
  · have r := rel.val k
    rw [hn] at r
    have e : valV kvs k = none := by
      cases ev : valV kvs k with
      | none => rfl
      | some v0 => rw [ev] at r; exact (show False from r).elim
    obtain ⟨q, es, ep, hq, h2, h3, h4, _, h5⟩ := dd'
    refine ⟨d, upd H a (.dT (putK kvs k d)), d_write I (by rw [ha]; exact True.intro) hs ⟨q, hq⟩ ⟨hl, hd, _, (rel.put k hb r2).keeps fun c ys ec => ?_, q, es, ep, hq, h2, h3, h4, h5⟩, r2, q2 e⟩
    rw [upd_ne (ne_of ec ha (fun z => nomatch z))]
    exact ec
theorem rd_setdT {a b : Addr} {kvs : List (List L2.Key × V)} {k : List L2.Key} {d : V} {H : Hp} {Q : VK} (ha : H a = some (.dT kvs)) (hb : H b = some (.tup (k.map kV))) (hl : kvs.length < sizeLine)
    (q1 : ∀ v, valV kvs k = some v → Q v H) (q2 : valV kvs k = none → Q d (upd H a (.dT (putK kvs k d)))) : rSetdT (.ref a) [.ref b, d] H Q := ⟨a, kvs, k, b, d, rfl, rfl, ha, hb, hl, q1, q2⟩
end Dc

set_option Elab.async false
set_option linter.all false
set_option maxRecDepth 100000
set_option maxHeartbeats 2000000
namespace Dc
open PySem PySem.Spec PyProof.Rows L2 ClX
/-! ### a method that says super().__init__(..) first -/
/-- its names: all local but __class__, which is free -/
structure SupScope (N P : List Str) (sc : Scope) : Prop where
  kind : sc.kind = .function
  co : sc.isCoroutine = false
  gen : sc.isGenerator = false
  nd : N.Nodup
  pre : N.take P.length = P
  par : ∀ x ∈ P, sc.names.lookup x = some .local
  nocell : ∀ x ∈ sc.names, x.2 ≠ .cell
  free : ∀ x ∈ sc.names, x.2 = .free → x.1 = ("__class__" : Str)
  hk : sc.names.lookup ("__class__" : Str) = some .free
  hs : sc.names.lookup ("super" : Str) = some .globalImplicit
abbrev envS (qual : Str) (scope : Scope) (L f : Addr) (cd : Value) (cc : Addr) : Env := PySem.W.ksEnv qual scope L f cd cc
def cxS (P : Program) (w : World) (K : PySem.W.Frag) (mg : Str → Option Value) (base : Heap) (N : List Str) (qual : Str) (scope : Scope) (f : Addr) (cd : Value) (cc : Addr) (A : Around) (outer : List Env) (s : Shared) (H : Hp) : Cx where
  prog := P
  w := w
  K := K
  mg := mg
  base := base
  A := A.deeper (envS qual scope s.heap.objs.size f cd cc)
  N := N
  s_0 := s
  H_0 := H
  env := envS qual scope s.heap.objs.size f cd cc
  outer := outer
  stack := envS qual scope s.heap.objs.size f cd cc :: outer
  ex := []
  calm := true
  fn := fun _ => false
  pn := []
  xe := fun _ _ => False
theorem zip_rev {P : List Str} {us : List Value} (nd : P.Nodup) {i : Nat} {y : Str} {u : Value} (h1 : P[i]? = some y) (h2 : us[i]? = some u) : (P.zip us).reverse.lookup y = some u := by
  have key : ∀ (l : List (Str × Value)) (y : Str) (u : Value), (l.map (·.1)).Nodup → (y, u) ∈ l → l.lookup y = some u := by
    intro l
    induction l with
    | nil => intro y u _ h; cases h
    | cons p r ih =>
      intro y u hn h
      obtain ⟨a, b⟩ := p
      rw [List.lookup_cons]
      rw [List.map_cons, List.nodup_cons] at hn
      rcases List.mem_cons.mp h with e | h2
      · cases e; simp
      · have : (y == a) = false := by
          rw [beq_eq_false_iff_ne]
          intro e
          subst e
          exact hn.1 (List.mem_map_of_mem (f := (·.1)) h2)
        rw [this]
        exact ih y u hn.2 h2
  refine key _ _ _ ?_ ?_
  · rw [List.map_reverse]
    refine (List.pairwise_reverse.mpr (List.Pairwise.imp (fun h => Ne.symm h) ?_))
    have sub : ∀ (P : List Str) (us : List Value), ((P.zip us).map (·.1)).Sublist P := by
      intro P
      induction P with
      | nil => intro us; simp
      | cons p P ih =>
        intro us
        cases us with
        | nil => simp
        | cons u us =>
          simp only [List.zip_cons_cons, List.map_cons]
          exact (ih us).cons_cons p
    exact List.Nodup.sublist (sub P us) nd
  · rw [List.mem_reverse]
    have := List.getElem?_zip_eq_some (l₁ := P) (l₂ := us) (z := (y, u)) (i := i)
    exact List.mem_of_getElem? (this.mpr ⟨h1, h2⟩)
theorem inv_super {P : Program} {w : World} {K : PySem.W.Frag} {mg : Str → Option Value} {base : Heap} {N ps : List Str} {qual : Str} {scope : Scope} {f cc : Addr} {cd : Value} {A : Around} {outer : List Env} {s : Shared} {H : Hp} {us : List Value} {vs : List V} {h₀ : Heap} {tk : Nat} {oc : Obj} {cv : Option Value}
    (S : SupScope N ps scope) (hd : A.handled = none) (e0 : Env0 P w K mg base A outer s H) (hl : vs.length = ps.length) (r : Vals vs us) (hcc : K.lookup cc = some oc) (hcv : oc.data = .cell cv)
    (hns : h₀.Ns s.heap.objs.size (fun x => (ps.zip us).reverse.lookup x)) (hk : ∀ b o, s.heap.get? b = some o → h₀.get? b = some o) :
    Inv (cxS P w K mg base N qual scope f cd cc A outer s H) [] (L2.start N vs) H { s with heap := h₀, toks := tk } := by
  have hpl : ps.length ≤ N.length := by have := congrArg List.length S.pre; rw [List.length_take] at this; omega
  have noA : ∀ b : Addr, b ∉ (cxS P w K mg base N qual scope f cd cc A outer s H).ex := fun b z => absurd (show b ∈ ([] : List Addr) from z) (by simp)
  have cells : ∀ x c, (cxS P w K mg base N qual scope f cd cc A outer s H).env.cells.lookup x = some c → x = ("__class__" : Str) ∧ c = cc := fun x c h => by
    have h' : List.lookup x [(("__class__" : Str), cc)] = some c := h
    rw [List.lookup_cons] at h'
    cases e : x == ("__class__" : Str) with
    | true => rw [e] at h'; exact ⟨by simpa using e, (Option.some.inj h').symm⟩
    | false => rw [e] at h'; cases h'
  have hbase := e0.mod.kin _ _ hcc
  refine ⟨⟨e0.mod, S.kind, rfl, rfl, Nat.le_refl _, fun y z c h1 h2 => ?_, fun y hy => ?_, fun y c hf h => Bool.noConfusion (show false = true from hf), fun _ => hd, Around.frames_deeper e0.frames, .inr ⟨rfl, rfl⟩, fun b z => absurd z (noA b), e0.bs, e0.bsz, fun b _ _ => noA b, fun b z => absurd z (noA b), e0.funs, e0.frf⟩,
    rfl, e0.bare, Un.kept hk, ⟨_, hns, fun i y v h1 h2 h3 => ?_⟩, fun y c h => ?_, e0.hok.fresh (Nat.le_refl _), fun y c h => ?_, fun p hp => absurd (show p ∈ ([] : List (Addr × Obj)) from hp) (by simp), e0.hok.kept hk, ?_⟩
  · rw [(cells _ _ h1).1, (cells _ _ h2).1]
  · have hy : scope.names.lookup y = some .cell ∨ scope.names.lookup y = some .free := hy
    rcases hy with hy | hy
    · exact absurd rfl (S.nocell _ (PySem.mem_of_lookup hy))
    · have e := S.free _ (PySem.mem_of_lookup hy) rfl
      refine ⟨cc, ?_⟩
      show List.lookup y [(("__class__" : Str), cc)] = some cc
      rw [List.lookup_cons]
      have : (y == ("__class__" : Str)) = true := by simpa using e
      rw [this]
  · have hi : i < vs.length := by
      unfold L2.start at h2
      by_cases hi : i < vs.length
      · exact hi
      · rw [List.getElem?_append_right (by simpa using hi)] at h2
        rw [List.getElem?_replicate] at h2
        split at h2 <;> cases h2
    have ha : vs[i]? = some v := by
      unfold L2.start at h2
      rw [List.getElem?_append_left (by simpa using hi), List.getElem?_map] at h2
      cases e : vs[i]? with
      | none => rw [e] at h2; cases h2
      | some a => rw [e] at h2; cases h2; rfl
    obtain ⟨u, hu, rv⟩ := r.get ha
    have hp : ps[i]? = some y := by
      rw [← S.pre, List.getElem?_take_of_lt (by omega)]; exact h1
    have ndP : ps.Nodup := by rw [← S.pre]; exact S.nd.sublist (List.take_sublist _ _)
    exact ⟨u, rv, .inl ⟨S.par y (List.mem_of_getElem? hp), zip_rev ndP hp hu⟩⟩
  · rw [(cells _ _ h).2]
    exact ⟨cv, oc, hk _ _ (e0.bs _ _ hbase).1, hcv⟩
  · rw [(cells _ _ h).2]
    exact (e0.bs _ _ hbase).2
  · unfold L2.start
    show _ = N.length
    rw [List.length_append, List.length_map, List.length_replicate]
    omega
/-- what the written part holds of such a method f of the class D; f2: the base's __init__ -/
structure SupTxt (P : Program) (K : PySem.W.Frag) (mg : Str → Option Value) (name qual : Str) (params : Arguments) (body : List Stmt) (scope : Scope) (D f f2 : Addr) (fd : FuncData) : Prop where
  ex : ∃ (oc : Value) (od : Option Addr) (kV doc pm : Value) (an : Option Addr) (cda cc : Addr) (ct : Value) (osl : Array (Option Value)) (ccl : Value) (cdd : Option Addr) (ws : Array Value) (ccs : Array (Option Value)) (file : Str) (tf : Tok) (cl : Value) (cld : Option Addr) (csl : Array (Option Value)) (cdD : ClassData),
    fd = PySem.W.ksFn name qual params body scope .none kV doc pm an (.ref cda) ct cc ∧ K.lookup f = some ⟨oc, od, .func fd, osl⟩ ∧ PySem.W.codeIn K (.ref cda) qual = true ∧
    K.lookup cda = some ⟨ccl, cdd, .fields ws, ccs⟩ ∧ ws[2]? = some (.str file tf) ∧ ((P.main.file : Str) == file) = true ∧ K.lookup cc = some ⟨cl, cld, .cell (some (.ref D)), csl⟩ ∧ PySem.W.clsIn K D = some cdD
  sub : PySem.W.mroIn K D (.ref D) = some true
  sup : PySem.W.ks_superIn K D D "__init__" = some (some (.ref f2))
  ty2 : PySem.W.typeIn K (.ref f2) = some (.type "function")
  fn2 : PySem.W.fnIn K f2 = true
  cl : Cls K D
  third : PySem.W.nsIn K cStatics "thirdparty.any" = some none
  noS : mg "super" = none
  top : (P.main.scope.names.lookup ("super" : Str)).isSome = false
theorem fn_super {P : Program} {w : World} {K : PySem.W.Frag} {mg : Str → Option Value} {base : Heap} {name qual : Str} {params : Arguments} {scope : Scope} {D f f2 : Addr} {fd fd2 : FuncData} {p0 p1 p2 p3 p4 : Pos} {e : Expr} {es : List Expr} {rest : List Stmt}
    {N ps ps2 : List Str} {j k : Nat} {sp sp2 : Sp} {ar : Arg}
    (T : SupTxt P K mg name qual params (.Expr (.Call (.Attribute (.Call (.Name "super" p0) [] [] p1) "__init__" p2) (e :: es) [] p3) p4 :: rest) scope D f f2 fd) (S : SupScope N ps scope) (hp : (params.posonlyargs ++ params.args).head? = some ar) (har : ps[0]? = some ar.arg)
    (G2 : FnOk P w K mg base CX0 j f2 fd2 ps2 sp2) (b2 : Binds K fd2 ps2 []) (hjk : j ≤ k)
    (len : ∀ vs H Q E, sp vs H Q E → vs.length = ps.length)
    (hbody : ∀ (cda cc : Addr) (A : Around) (outer : List Env) (s : Shared) (H : Hp) (vs : List V) (Q : VK) (E : XK), Room k (A.deeper (envS qual scope s.heap.objs.size f (.ref cda) cc)) → sp vs H Q E →
      ∃ (x dx : Addr) (fs : List (Str × V)) (ta : TA) (t : TS), PA (cxS P w K mg base N qual scope f (.ref cda) cc A outer s H) (e :: es) ta ∧ PSs (cxS P w K mg base N qual scope f (.ref cda) cc A outer s H) rest t ∧ vs[0]? = some (.ref x) ∧ H x = some (.ins D dx fs) ∧
        ta (L2.start N vs) H fun ws H1 => sp2 (.ref x :: ws) H1 (fun _ H2 => t { nx := fun _ H' => Q .non H', rt := Q } (L2.start N vs) H2) E0)
    (hst : ∀ env : Env, starEach (e :: es) env = (false, eval e env) :: starEach es env) (hpl : ∀ env : Env, (backTo p3 (starEach es env)).any (·.1) = false)
    (hsw : ∀ env : Env, swapsWith (.Call (.Attribute (.Call (.Name "super" p0) [] [] p1) "__init__" p2) (e :: es) [] p3) none p4.line env = pure false)
    {pl : Env → Sem Bool}
    (hev : ∀ env : Env, eval (.Call (.Attribute (.Call (.Name "super" p0) [] [] p1) "__init__" p2) (e :: es) [] p3) env = (do
      let ov ← attributeBase (.Call (.Name "super" p0) [] [] p1) "__init__" env (eval (.Call (.Name "super" p0) [] [] p1) env)
      standAt p2.atName
      let (f, first) ← holding [ov] (getMethod ov "__init__" (pl env))
      callWith p3 f first (backTo p3 (starEach (e :: es) env)) [])) :
    FnOk P w K mg base CX0 (k + 1) f fd ps sp := by
  obtain ⟨oc, od, kV, doc, pm, an, cda, cc, ct, osl, ccl, cdd, ws, ccs, file, tf, cl, cld, csl, cdD, rfl, lk, hcd, hcode, hws, hfile, hcell, hD⟩ := T.ex
  refine ⟨len, fun A outer s H args us vs Q E hr e0 hb r hsp => ?_⟩
  have hl := len _ _ _ _ hsp
  have KX : K.In s.heap := e0.mod.kin.keeps fun b o e => (e0.bs b o e).1
  have lim : s.heap.NoLimit := e0.mod.nolimit.keeps fun b o e => (e0.bs b o e).1
  obtain ⟨x, dx, fs, ta, t, ha, ht, hx0, hxH, hq⟩ := hbody cda cc A outer s H vs Q E (hr.deeper _) hsp
  have hloc : ∀ y ∈ ps.zip us, scope.names.lookup y.1 = some .local := fun ⟨n, v⟩ hy => S.par n (List.of_mem_zip hy).1
  refine PySem.ks_codeAny_call_defAt hr.depth (KX _ _ lk) rfl lim (PySem.W.codeRec_of KX hcd) rfl hb S.nocell hloc (fun h₀ hns hk => ?_) S.co S.gen S.kind
  have I := inv_super (tk := s.toks + (ps.zip us).length) (cd := .ref cda) (P := P) (w := w) (mg := mg) (qual := qual) (f := f) S hr.hd e0 hl r hcell rfl hns hk
  show _root_.PySem.wpAt (model P w) (A.deeper (envS qual scope s.heap.objs.size f (.ref cda) cc)) (.func _ (envS qual scope s.heap.objs.size f (.ref cda) cc)) (execs _ (envS qual scope s.heap.objs.size f (.ref cda) cc)) _ _ _
  refine PySem.ks_wpAt_mono (Q := SP (cxS P w K mg base N qual scope f (.ref cda) cc A outer s H) [] { nx := fun _ H' => Q .non H', rt := Q }) (E := fun _ _ => False) ?_ (fun fl s' hs => ?_) (fun _ _ z => z.elim)
  · refine PySem.ks_wpAt_execs_cons (PySem.ks_wpAt_Expr_any (PySem.ks_wpAt_MethodCall (pl := pl _) ?_ (hev _)) I.quiet (hsw _))
    have K0 : K.In h₀ := KX.keeps hk
    obtain ⟨oD, hD1, hD2⟩ : ∃ oD, h₀.get? D = some oD ∧ oD.data = .cls cdD := by
      unfold PySem.W.clsIn at hD
      split at hD
      · rename_i c d cd' sl ho
        cases hD
        exact ⟨_, K0 _ _ ho, rfl⟩
      · cases hD
    obtain ⟨u0, hu0, ru0⟩ := r.get hx0
    obtain rfl : u0 = Value.ref x := ru0
    have ndP : ps.Nodup := by rw [← S.pre]; exact S.nd.sublist (List.take_sublist _ _)
    obtain ⟨mA, O, _, _, _, _⟩ := ins_get I.hok hxH
    obtain ⟨odx, J, _⟩ := O.look
    obtain ⟨mb, hmb, hbb⟩ := e0.mod.blt
    have up0 : ∀ b o, base.get? b = some o → h₀.get? b = some o := fun b o z => hk _ _ (e0.bs b o z).1
    refine PySem.ks_wpAt_super_base (env := envS qual scope s.heap.objs.size f (.ref cda) cc) S.hs S.hk (by decide +kernel) rfl (hk _ _ (KX _ _ lk)) rfl hp rfl (hk _ _ (KX _ _ hcode)) rfl hws hfile T.top ?_
    refine PySem.W.ks_loadName_global S.kind S.hs (PySem.Calls.loadGlobal_builtin (env := envS qual scope s.heap.objs.size f (.ref cda) cc) (e0.mod.glob.keeps up0) T.noS (hmb.keeps up0) ((hbb _ (by decide +kernel)).trans (by first | rfl | kernel_rfl)) ⟨rfl, ?_⟩)
    refine wpAny_loadName_free S.kind S.hk rfl ⟨_, K0 _ _ hcell, rfl⟩ ?_
    refine wpAny_loadName_local S.kind (S.par _ (List.mem_of_getElem? har)) hns (zip_rev ndP har hu0) ?_
    refine PySem.ks_wpAny_isType_cls hD1 hD2 ⟨rfl, ?_⟩
    refine PySem.ks_wpAny_call_super hD1 hD2 J.at_ J.cls (fun c z => ?_) (PySem.W.looks_mroIn K0 T.sub) (fun h1 e1 k1 => ?_)
    · have := J.no
      unfold PySem.W.notCls at this
      rw [z] at this
      exact Bool.noConfusion this
    have I1 : Inv (cxS P w K mg base N qual scope f (.ref cda) cc A outer s H) [] (L2.start N vs) H { s with heap := h1, toks := s.toks + (ps.zip us).length } := I.kept (t' := s.toks + (ps.zip us).length) k1
    have K1 : K.In h1 := K0.keeps k1
    obtain ⟨of, hof, hofc⟩ : ∃ of, h1.get? f2 = some of ∧ of.cls = .type "function" := by
      have ht' : (K.lookup f2).map (·.cls) = some (.type "function") := T.ty2
      cases z : K.lookup f2 with
      | none => rw [z] at ht'; cases ht'
      | some of => rw [z] at ht'; exact ⟨of, K1 _ _ z, Option.some.inj ht'⟩
    have hsup := T.sup
    unfold PySem.W.ks_superIn at hsup
    rw [hD] at hsup
    have xne : x ≠ D := PySem.W.ks_ne K0 J hD
    refine PySem.ks_wpAny_getMethod_super e1 (PySem.W.looks_opaque K1 T.third) (l₀ := cdD.mro) ?_ rfl K1 hsup hof hofc xne (by decide +kernel) ?_
    · exact fun A Q E s k q => wpAny_bind ((PySem.W.looks_clsIn K1 hD) A _ E s k (wpAny_pure q))
    have I2 := met_new (g := f2) (C := x) I1
    refine callwith_cm (X := cxS P w K mg base N qual scope f (.ref cda) cc A outer s H) I2 (base_none I1 (Nat.le_refl _)) T.fn2 (thn (ha.run p3 _ _ _ H _ I2 hq) fun us2 s3 ⟨vs2, H2, I3, rv, q2⟩ => ⟨⟨pin_at I3, I3.kIn⟩, ?_⟩) (hst _) (hpl _)
    have hl2 : (Value.ref x :: us2).length = ps2.length := by
      have := G2.len _ _ _ _ q2
      have l2 := rv.length
      simp only [List.length_cons] at this ⊢
      omega
    have b := b2 s3 (.ref x :: us2) I3.kIn (by rw [List.append_nil]; exact hl2)
    rw [List.append_nil] at b
    refine wpAny_call (PySem.W.method_call (pin_at I3) (codeAny_mono (G2.run _ _ s3 H2 ⟨.ref x :: us2, []⟩ (.ref x :: us2) (.ref x :: vs2) _ E0 ((hr.deeper _).mono hjk) I3.env0 b (.cons rfl rv) q2) fun r s' hq' => ?_))
    cases r with
    | error e => exact (show False from hq').elim
    | ok fl =>
      cases fl with
      | ret u =>
        obtain ⟨v, H', I4, rv4, q4⟩ := unpinE (I3.after hq')
        exact wpAt_of_wpAny (ht.run [] s' _ H' _ I4 q4)
      | next => exact False.elim hq'
      | brk => exact False.elim hq'
      | cont => exact False.elim hq'
  · have fin : ∀ {σ' : L2.St} {H' : Hp} {v : V} {u : Value}, Inv (cxS P w K mg base N qual scope f (.ref cda) cc A outer s H) [] σ' H' s' → RelV v u → Q v H' → CE outer P w H s Q u s' :=
      fun {σ' H' v u} J rv q => ⟨v, H', J.os, J.bare, J.base, J.hok, rv, q⟩
    cases fl with
    | ret u =>
      obtain ⟨v, σ', H', J, rv, q⟩ := hs
      exact fin J rv q
    | next =>
      obtain ⟨σ', H', J, q⟩ := hs
      exact fin (v := V.non) (u := Value.none) J rfl q
    | brk =>
      obtain ⟨_, _, _, q⟩ := hs
      exact False.elim q
    | cont =>
      obtain ⟨_, _, _, q⟩ := hs
      exact False.elim q
end Dc

set_option Elab.async false
set_option linter.all false
set_option maxRecDepth 100000
set_option maxHeartbeats 2000000
namespace Dc
open PySem PySem.Spec PyProof.Rows L2
/-! ### chains as data -/
inductive Mkr where
  | count (b s : Int)
  | row (ns : List Int)
inductive Kd where
  | add (n : Int) | times (n : Int) | keep (r w : Int) | drop (k : Int) | take (k : Int) | each (k : Int) | «until» (n : Int) | unlike
/-- a chain, its stages from the maker on -/
inductive Ch where
  | mkr (m : Mkr)
  | st (c : Ch) (k : Kd)
  | both (c o : Ch)
  | thn (c o : Ch)
def numOk (n : Int) : Prop := -(10 ^ 30) < n ∧ n < 10 ^ 30
def Mkr.ok : Mkr → Prop
  | .count b s => numOk b ∧ numOk s
  | .row ns => ns.length ≤ 100 ∧ ∀ n ∈ ns, numOk n
def Mkr.isRow : Mkr → Prop
  | .count _ _ => False
  | .row _ => True
def Kd.ok : Kd → Prop
  | .add n => numOk n
  | .times n => numOk n ∧ -(2 ^ 64) < n ∧ n < 2 ^ 64
  | .keep r w => 2 ≤ w ∧ w ≤ 1000 ∧ 0 ≤ r ∧ r < w
  | .drop k => 0 ≤ k ∧ k ≤ 100
  | .take k => 0 ≤ k ∧ k ≤ 100
  | .each k => 1 ≤ k ∧ k ≤ 10
  | .until n => numOk n
  | .unlike => True
def Ch.ok : Ch → Prop
  | .mkr m => m.ok
  | .st c k => c.ok ∧ k.ok
  | .both c o => c.ok ∧ o.ok
  | .thn c o => c.ok ∧ o.ok
def Ch.rows : Ch → Prop
  | .mkr m => m.isRow
  | .st c _ => c.rows
  | .both c o => c.rows ∧ o.rows
  | .thn c o => c.rows ∧ o.rows
/-- how many makers, how many stages in all, how many stages of its own -/
def Ch.nm : Ch → Nat
  | .mkr _ => 1
  | .st c _ => c.nm
  | .both c o => c.nm + o.nm
  | .thn c o => c.nm + o.nm
def Ch.ns : Ch → Nat
  | .mkr _ => 0
  | .st c _ => c.ns + 1
  | .both c o => c.ns + o.ns + 1
  | .thn c o => c.ns + o.ns + 1
def Ch.len : Ch → Nat
  | .mkr _ => 0
  | .st c _ => c.len + 1
  | .both c _ => c.len + 1
  | .thn c _ => c.len + 1
theorem Ch.nm_pos : ∀ c : Ch, 1 ≤ c.nm
  | .mkr _ => Nat.le_refl _
  | .st c _ => c.nm_pos
  | .both c o => by have := c.nm_pos; show 1 ≤ c.nm + o.nm; omega
  | .thn c o => by have := c.nm_pos; show 1 ≤ c.nm + o.nm; omega
theorem Ch.len_le : ∀ c : Ch, c.len ≤ c.ns
  | .mkr _ => Nat.le_refl _
  | .st c _ => by have := c.len_le; show c.len + 1 ≤ c.ns + 1; omega
  | .both c o => by have := c.len_le; show c.len + 1 ≤ c.ns + o.ns + 1; omega
  | .thn c o => by have := c.len_le; show c.len + 1 ≤ c.ns + o.ns + 1; omega
/-! ### chains in the heap -/
def Kd.vals : Kd → List V
  | .add n => [.str "add", .int n]
  | .times n => [.str "times", .int n]
  | .keep r w => [.str "keep", .int r, .int w]
  | .drop k => [.str "drop", .int k]
  | .take k => [.str "take", .int k]
  | .each k => [.str "each", .int k]
  | .until n => [.str "until", .int n]
  | .unlike => [.str "unlike"]
def Kd.name : Kd → Str
  | .add _ => "add"
  | .times _ => "times"
  | .keep _ _ => "keep"
  | .drop _ => "drop"
  | .take _ => "take"
  | .each _ => "each"
  | .until _ => "until"
  | .unlike => "unlike"
theorem Kd.at0 (k : Kd) : atI k.vals 0 = some (.str k.name) := by cases k <;> rfl
def MkAt (H : Hp) (a : Addr) : Mkr → Prop
  | .count b s => H a = some (.tup [.str "count", .int b, .int s])
  | .row ns => ∃ r, H a = some (.tup [.str "row", .ref r]) ∧ H r = some (.tup (ns.map V.int))
def StsAt (H : Hp) : Ch → Addr → List Addr → Prop
  | .mkr m, a, as => as = [] ∧ MkAt H a m
  | .st c k, a, as => ∃ as' x, as = as' ++ [x] ∧ StsAt H c a as' ∧ H x = some (.tup k.vals)
  | .both c o, a, as => ∃ as' x p, as = as' ++ [x] ∧ StsAt H c a as' ∧ H x = some (.tup [.str "both", .ref p]) ∧ ∃ m ss bs, H p = some (.tup [.ref m, .ref ss]) ∧ H ss = some (.tup (bs.map V.ref)) ∧ StsAt H o m bs
  | .thn c o, a, as => ∃ as' x p, as = as' ++ [x] ∧ StsAt H c a as' ∧ H x = some (.tup [.str "then", .ref p]) ∧ ∃ m ss bs, H p = some (.tup [.ref m, .ref ss]) ∧ H ss = some (.tup (bs.map V.ref)) ∧ StsAt H o m bs
def ChAt (H : Hp) (p : Addr) (c : Ch) : Prop := ∃ m ss bs, H p = some (.tup [.ref m, .ref ss]) ∧ H ss = some (.tup (bs.map V.ref)) ∧ StsAt H c m bs
/-- a stage, simple or with a chain -/
inductive Sg where
  | one (k : Kd)
  | both (o : Ch)
  | thn (o : Ch)
def SgAt (H : Hp) (x : Addr) : Sg → Prop
  | .one k => H x = some (.tup k.vals)
  | .both o => ∃ p, H x = some (.tup [.str "both", .ref p]) ∧ ChAt H p o
  | .thn o => ∃ p, H x = some (.tup [.str "then", .ref p]) ∧ ChAt H p o
def Ch.snoc (c : Ch) : Sg → Ch
  | .one k => .st c k
  | .both o => .both c o
  | .thn o => .thn c o
def Sg.ok : Sg → Prop
  | .one k => k.ok
  | .both o => o.ok
  | .thn o => o.ok
def Sg.rows : Sg → Prop
  | .one _ => True
  | .both o => o.rows
  | .thn o => o.rows
def Sg.nm : Sg → Nat
  | .one _ => 0
  | .both o => o.nm
  | .thn o => o.nm
def Sg.ns : Sg → Nat
  | .one _ => 0
  | .both o => o.ns
  | .thn o => o.ns
theorem StsAt.snoc {H : Hp} {c : Ch} {a x : Addr} {as : List Addr} {g : Sg} (h : StsAt H c a as) (hx : SgAt H x g) : StsAt H (c.snoc g) a (as ++ [x]) := by
  cases g with
  | one k => exact ⟨as, x, rfl, h, hx⟩
  | both o => obtain ⟨p, h1, h2⟩ := hx; exact ⟨as, x, p, rfl, h, h1, h2⟩
  | thn o => obtain ⟨p, h1, h2⟩ := hx; exact ⟨as, x, p, rfl, h, h1, h2⟩
theorem Ch.snoc_nm (c : Ch) (g : Sg) : (c.snoc g).nm = c.nm + g.nm := by cases g <;> rfl
theorem Ch.snoc_ns (c : Ch) (g : Sg) : (c.snoc g).ns = c.ns + g.ns + 1 := by cases g <;> rfl
theorem Ch.snoc_ok {c : Ch} {g : Sg} (h : c.ok) (h' : g.ok) : (c.snoc g).ok := by cases g <;> exact ⟨h, h'⟩
theorem Ch.snoc_rows {c : Ch} {g : Sg} (h : c.rows) (h' : g.rows) : (c.snoc g).rows := by cases g <;> first | exact h | exact ⟨h, h'⟩
theorem MkAt.fr {S : List Addr} {H H' : Hp} {a : Addr} {m : Mkr} (f : Fr S H H') (h : MkAt H a m) : MkAt H' a m := by
  cases m with
  | count b s => exact f.tp h
  | row ns => obtain ⟨r, h1, h2⟩ := h; exact ⟨r, f.tp h1, f.tp h2⟩
theorem StsAt.fr {S : List Addr} {H H' : Hp} (f : Fr S H H') : ∀ {c : Ch} {a : Addr} {as : List Addr}, StsAt H c a as → StsAt H' c a as
  | .mkr m, a, as, ⟨h1, h2⟩ => ⟨h1, h2.fr f⟩
  | .st c k, a, as, ⟨as', x, h1, h2, h3⟩ => ⟨as', x, h1, h2.fr f, f.tp h3⟩
  | .both c o, a, as, ⟨as', x, p, h1, h2, h3, m, ss, bs, h4, h5, h6⟩ => ⟨as', x, p, h1, h2.fr f, f.tp h3, m, ss, bs, f.tp h4, f.tp h5, h6.fr f⟩
  | .thn c o, a, as, ⟨as', x, p, h1, h2, h3, m, ss, bs, h4, h5, h6⟩ => ⟨as', x, p, h1, h2.fr f, f.tp h3, m, ss, bs, f.tp h4, f.tp h5, h6.fr f⟩
theorem ChAt.fr {S : List Addr} {H H' : Hp} {p : Addr} {c : Ch} (f : Fr S H H') (h : ChAt H p c) : ChAt H' p c := by
  obtain ⟨m, ss, bs, h1, h2, h3⟩ := h
  exact ⟨m, ss, bs, f.tp h1, f.tp h2, h3.fr f⟩
theorem SgAt.fr {S : List Addr} {H H' : Hp} {x : Addr} {g : Sg} (f : Fr S H H') (h : SgAt H x g) : SgAt H' x g := by
  cases g with
  | one k => exact f.tp h
  | both o => obtain ⟨p, h1, h2⟩ := h; exact ⟨p, f.tp h1, h2.fr f⟩
  | thn o => obtain ⟨p, h1, h2⟩ := h; exact ⟨p, f.tp h1, h2.fr f⟩
theorem StsAt.length {H : Hp} : ∀ {c : Ch} {a : Addr} {as : List Addr}, StsAt H c a as → as.length = c.len
  | .mkr m, a, as, ⟨h1, h2⟩ => by rw [h1]; rfl
  | .st c k, a, as, ⟨as', x, h1, h2, h3⟩ => by rw [h1, List.length_append, h2.length]; rfl
  | .both c o, a, as, ⟨as', x, p, h1, h2, _⟩ => by rw [h1, List.length_append, h2.length]; rfl
  | .thn c o, a, as, ⟨as', x, p, h1, h2, _⟩ => by rw [h1, List.length_append, h2.length]; rfl
end Dc

set_option Elab.async false
set_option linter.all false
set_option maxRecDepth 100000
set_option maxHeartbeats 2000000
namespace Dc
open PySem PySem.Spec PyProof.Rows L2
local macro_rules | `(tactic| walk_at "ne") => `(tactic| first | assumption | (refine Ne.symm ?_; assumption) | exact ne_of (by assumption) (by assumption) (by intro q; cases q) | exact ne_of_none (by assumption) (by assumption) | exact Ne.symm (ne_of_none (by assumption) (by assumption)))
local macro_rules | `(tactic| walk_at "hp") => `(tactic| first | assumption | exact upd_same | (refine upd_keep ?_ (by assumption); walk_at "hp") | (refine upd_other ?_ ?_; · walk_at "ne"; · walk_at "hp"))
local macro_rules | `(tactic| walk_at "hl") => `(tactic| first | assumption | exact SqL.of (by walk_at "hp"))
local macro_rules | `(tactic| walk_at "ht") => `(tactic| first | assumption | exact SqT.of (by walk_at "hp"))
local macro_rules | `(tactic| walk_at "rd1") => `(tactic| first
  | ((with_reducible apply rd_var); exact rfl)
  | ((with_reducible apply rd_eq); exact rfl) | ((with_reducible apply rd_ne); exact rfl)
  | with_reducible first
  | refine iteT ?_ | refine iteF ?_ | refine rd_nF ?_ | refine rd_nT ?_ | refine rd_yes ?_ | refine rd_c ?_ | refine rd_op ?_ | refine rd_un ?_ | refine rd_test ?_ | refine rd_B ?_ | refine rd_bl ?_ | refine rd_seq ?_ | refine rd_next ?_ | refine rd_ifs ?_ | refine rd_asg ?_ | refine rd_name ?_ | refine rd_ret ?_ | refine rd_drop ?_
  | refine rd_call ?_ | refine rd_cons ?_ | refine rd_nil ?_ | refine rd_cb ?_ | refine rd_I0 ?_ | refine rd_U ?_ | refine rd_gsub ?_ | refine rd_lst ?_ | refine rd_tup ?_ | refine rd_if ?_ | refine rd_not ?_ | refine rd_rng1 ?_ | refine rd_itup ?_ | refine rd_ilst ?_ | refine rd_bm ?_ | refine rd_bm0 ?_ | refine rd_andV ?_ | refine rd_orV ?_ | refine rd_notV ?_)
local macro_rules | `(tactic| walk_at "rd") => `(tactic| repeat walk_at "rd1")
local macro_rules | `(tactic| walk_at "ci") => `(tactic| first | assumption | (show (0 : Int) < _; first | decide | omega) | exact ⟨by decide, by decide⟩ | exact Or.inr ⟨by decide, by decide⟩ | exact Or.inl ⟨by decide, by decide⟩ | exact ⟨by decide, by decide, by decide⟩ | exact Or.inl ⟨by omega, by omega⟩ | exact Or.inr ⟨by omega, by omega⟩)
local macro_rules | `(tactic| walk_at "ix") => `(tactic| first
  | ((with_reducible apply rd_ixL); (walk_at "hl"); exact rfl)
  | ((with_reducible apply rd_ixT); (walk_at "ht"); exact rfl)
  | ((with_reducible apply rd_lenL); (walk_at "hl"))
  | ((with_reducible apply rd_lenT); (walk_at "ht"))
  | ((with_reducible apply rd_tupOf); (walk_at "hl"))
  | ((with_reducible apply rd_listOf); (walk_at "hl"))
  | (with_reducible refine rd_min2 ?_)
  | ((with_reducible apply rd_I); (walk_at "ci"))
  | ((with_reducible apply rd_setL); (walk_at "hp"); exact rfl))
local macro_rules | `(tactic| walk_at "gs") => `(tactic| repeat first | walk_at "rd1" | walk_at "ix")
local macro_rules | `(tactic| walk_at "go") => `(tactic| repeat first | walk_at "rd1" | walk_at "ix" | with_reducible refine rd_and ?_ | with_reducible refine rd_or ?_)
local macro_rules | `(tactic| walk_at "fo") => `(tactic| (with_reducible refine rd_for ?_))
local macro_rules | `(tactic| walk_at "pm") => `(tactic| repeat first
  | with_reducible first | refine rd_pcons ?_ | refine rd_pstr ?_ | refine rd_pcap ?_ | refine rd_pwild ?_ | refine rd_pnil ?_ | refine rd_por ?_ | refine rd_pno ?_
  | ((with_reducible refine rd_eq rfl ?_); refine ⟨_, rfl, ?_⟩; first | refine rd_T rfl ?_ | refine rd_F (by decide) ?_)
  | dsimp only [List.nil_append, List.singleton_append, List.cons_append, setAll])
local macro_rules | `(tactic| walk_at "pc") => `(tactic| (refine rd_case ?_); (first | (refine rd_phit (SqT.of (by assumption)) rfl ?_) | (refine rd_pmiss (SqT.of (by assumption)) (by simp) ?_)); (walk_at "pm"))

/-- the script: locked, or in the written part -/
def ScAt (K : PySem.W.Frag) (ns : List Int) (H : Hp) (sc : Addr) : Prop := (∃ o, H sc = some (.frz o (.lst (ns.map V.int)))) ∨ ∀ H' : Hp, SqL K H' sc (ns.map V.int)
theorem ScAt.seq {K : PySem.W.Frag} {ns : List Int} {H : Hp} {sc : Addr} (h : ScAt K ns H sc) : SqL K H sc (ns.map V.int) := by
  rcases h with ⟨o, h⟩ | h
  · exact .inl (.inr ⟨o, h⟩)
  · exact h H
theorem ScAt.fr {K : PySem.W.Frag} {ns : List Int} {H H' : Hp} {sc : Addr} {S : List Addr} (h : ScAt K ns H sc) (f : Fr S H H') : ScAt K ns H' sc := by
  rcases h with ⟨o, h⟩ | h
  · exact .inl ⟨o, f.fz h⟩
  · exact .inr h
/-- where drawing stands: the list at a, the script at sc -/
structure StAt (K : PySem.W.Frag) (ns : List Int) (H : Hp) (a sc : Addr) : Prop where
  lst : ∃ (b m l : Int), H a = some (.lst [.ref sc, .int b, .int m, .int l]) ∧ 0 ≤ b
  scr : ScAt K ns H sc
theorem StAt.fr {K : PySem.W.Frag} {ns : List Int} {H H' : Hp} {a sc : Addr} {S : List Addr} (s : StAt K ns H a sc) (f : Fr S H H') (n : a ∉ S) : StAt K ns H' a sc := by
  obtain ⟨⟨b, m, l, h1, h2⟩, h3⟩ := s
  exact ⟨⟨b, m, l, f.at h1 n, h2⟩, h3.fr f⟩
theorem StAt.put {K : PySem.W.Frag} {ns : List Int} {H : Hp} {a sc : Addr} (s : StAt K ns H a sc) {b m l : Int} (hb : 0 ≤ b) : StAt K ns (upd H a (.lst [.ref sc, .int b, .int m, .int l])) a sc ∧ Fr [a] H (upd H a (.lst [.ref sc, .int b, .int m, .int l])) := by
  obtain ⟨⟨b0, m0, l0, h1, h2⟩, h3⟩ := s
  have f : Fr [a] H (upd H a (.lst [.ref sc, .int b, .int m, .int l])) := Fr.put List.mem_cons_self (nt h1)
  exact ⟨⟨⟨b, m, l, upd_same, hb⟩, h3.fr f⟩, f⟩
def spDrawn (K : PySem.W.Frag) (ns : List Int) : Sp := fun vs H Q _ => ∃ (a sc : Addr) (many : Int), vs = [.ref a, .int many] ∧ StAt K ns H a sc ∧ 0 < many ∧ many.natAbs < 2 ^ 200 ∧
  ∀ (r : Int) (H' : Hp), 0 ≤ r → r < many → StAt K ns H' a sc → Fr [a] H H' → Q (.int r) H'
def spStart (K : PySem.W.Frag) (ns : List Int) : Sp := fun vs H Q _ => ∃ (sc : Addr), vs = [.ref sc] ∧ ScAt K ns H sc ∧ ∀ (a : Addr) (H' : Hp), StAt K ns H' a sc → H a = none → Fr [] H H' → Q (.ref a) H'
theorem st_new {K : PySem.W.Frag} {ns : List Int} {H : Hp} {a sc p : Addr} {o : HO} (S : StAt K ns H a sc) (h : H p = none) : StAt K ns (upd H p o) a sc ∧ a ≠ p := by
  obtain ⟨⟨b, m, l, h1, h2⟩, h3⟩ := id S
  have n := ne_of_none h1 h
  exact ⟨⟨⟨b, m, l, by rw [upd_ne n]; exact h1, h2⟩, h3.fr (Fr.new (S := []) h)⟩, n⟩
section
variable {P : Program} {w : World} {K : PySem.W.Frag} {mg : Str → Option Value} {base : Heap}
theorem sc__law_drawn : FnScope ["_law_state", "_law_many", "_law_found", "_law_cell"] ["_law_state", "_law_many"] (defScope s__law_drawn) := ⟨rfl, rfl, rfl, by decide +kernel, rfl, by decide +kernel, by decide +kernel⟩
theorem ok_law_drawn {f : Addr} {fd : FuncData} {ns : List Int} (T : Txt K mg) (F : FnP K "_law_drawn" "_law_drawn" s__law_drawn f fd) (hl : ns.length ≤ 63) : FnOk P w K mg base CX0 1 f fd ["_law_state", "_law_many"] (spDrawn K ns) := by
  refine ok0 F sc__law_drawn (fun vs H Q E h => ?_) (fun cdv A outer s H vs Q E hr h => ?_)
  · obtain ⟨a, sc, many, rfl, _⟩ := h
    rfl
  · obtain ⟨a, sc, many, rfl, S, hp, hb, k⟩ := h
    refine ⟨_, (pss_cons (ps_if (pt_cmpR op_gt (pe_ix (ix_listK K) (pv 0) pe_int (fun _ _ => rfl)) pe_int (nomark _))
    (pss_cons (ps_set (i := 2) sc__law_drawn.nd rfl (Or.inl rfl) (pe_op op_mod (pe_ix (ix_listK K) (pv 0) pe_int (fun _ _ => rfl)) (pv 1)))
    (pss_cons (ps_asg (pe_op op_fdivW (pe_ix (ix_listK K) (pv 0) pe_int (fun _ _ => rfl)) (pv 1)) (pg_sub (pv 0) pe_int set_list))
    (pss_one (ps_ret (pv 2))))) pss_nil)
  (pss_cons (ps_asg (pe_op op_add (pe_ix (ix_listK K) (pv 0) pe_int (fun _ _ => rfl)) pe_int) (pg_sub (pv 0) pe_int set_list))
  (pss_cons (ps_if (pt_cmpR op_le (pe_ix (ix_listK K) (pv 0) pe_int (fun _ _ => rfl)) (pe_callB (call_len1K K) (by rfl) T.free_len (by decide +kernel) (pa_cons (pe_ix (ix_listK K) (pv 0) pe_int (fun _ _ => rfl)) pa_nil)) (nomark _))
    (pss_cons (ps_set (i := 3) sc__law_drawn.nd rfl (Or.inl rfl) (pe_ix (ix_listK K) (pe_ix (ix_listK K) (pv 0) pe_int (fun _ _ => rfl)) (pe_op op_sub (pe_ix (ix_listK K) (pv 0) pe_int (fun _ _ => rfl)) pe_int) (fun _ _ => rfl)))
    (pss_cons (ps_asg (pe_ifExp (pt_cmpR op_ge (pv 3) (pe_op op_pow pe_int pe_int) (nomark _)) (pe_op op_fdivW (pv 3) (pv 1)) pe_int) (pg_sub (pv 0) pe_int set_list))
    (pss_one (ps_ret (pe_op op_mod (pv 3) (pv 1)))))) pss_nil)
  (pss_cons (ps_asg (pe_op op_mod (pe_op op_add (pe_op op_mul (pe_ix (ix_listK K) (pv 0) pe_int (fun _ _ => rfl)) pe_int) pe_int) pe_int) (pg_sub (pv 0) pe_int set_list))
  (pss_one (ps_ret (pe_op op_mod (pe_op op_fdiv (pe_ix (ix_listK K) (pv 0) pe_int (fun _ _ => rfl)) pe_int) (pv 1)))))))), ?_⟩
    obtain ⟨⟨b, m, l, h1, h2⟩, h3⟩ := id S
    try dsimp only [cxOf, Cx.nox, Cx.wish]
    refine rd_at (σ' := [some (.ref a), some (.int many), none, none]) rfl ?_
    walk_at "go"
    refine rd_dec (fun c => ?_) (fun c => ?_)
    · walk_at "go"
      refine rd_I (wide_div hp hb (by decide) (by decide)) ?_
      walk_at "go"
      obtain ⟨S', f⟩ := S.put (m := m) (l := l / many) h2
      exact k _ _ (Int.emod_nonneg _ (by omega)) (Int.emod_lt_of_pos _ hp) S' f
    · walk_at "go"
      obtain ⟨S1, f1⟩ := S.put (b := b + 1) (m := m) (l := l) (by omega)
      refine rd_lenL S1.scr.seq ?_
      walk_at "go"
      rw [List.length_map]
      refine rd_dec (fun c1 => ?_) (fun c1 => ?_)
      · walk_at "go"
        obtain ⟨j, ej, hj⟩ : ∃ j : Nat, b + 1 - 1 = (j : Int) ∧ j < ns.length := ⟨b.toNat, by omega, by omega⟩
        refine rd_ixL S1.scr.seq (at_of (v := V.int ns[j]) ej (by rw [List.getElem?_map, List.getElem?_eq_getElem hj]; rfl)) ?_
        walk_at "go"
        have put2 : ∀ z : Int, StAt K ns (upd (upd H a (.lst [.ref sc, .int (b + 1), .int m, .int l])) a (.lst [.ref sc, .int (b + 1), .int m, .int z])) a sc ∧
            Fr [a] H (upd (upd H a (.lst [.ref sc, .int (b + 1), .int m, .int l])) a (.lst [.ref sc, .int (b + 1), .int m, .int z])) := fun z => by
          obtain ⟨S2, f2⟩ := S1.put (b := b + 1) (m := m) (l := z) (by omega)
          exact ⟨S2, f1.tr f2⟩
        refine rd_dec (fun c2 => ?_) (fun c2 => ?_)
        · walk_at "go"
          refine rd_I (wide_div hp hb (by decide) (by decide)) ?_
          walk_at "go"
          obtain ⟨S2, f2⟩ := put2 (ns[j] / many)
          exact k _ _ (Int.emod_nonneg _ (by omega)) (Int.emod_lt_of_pos _ hp) S2 f2
        · walk_at "go"
          obtain ⟨S2, f2⟩ := put2 0
          exact k _ _ (Int.emod_nonneg _ (by omega)) (Int.emod_lt_of_pos _ hp) S2 f2
      · walk_at "go"
        obtain ⟨S2, f2⟩ := S1.put (b := b + 1) (m := (m * 48271 + 11) % 2147483647) (l := l) (by omega)
        exact k _ _ (Int.emod_nonneg _ (by omega)) (Int.emod_lt_of_pos _ hp) S2 (f1.tr f2)
theorem sc__law_start : FnScope ["_law_script", "_law_mixed", "_law_cell"] ["_law_script"] (defScope s__law_start) := ⟨rfl, rfl, rfl, by decide +kernel, rfl, by decide +kernel, by decide +kernel⟩
theorem ok_law_start {f : Addr} {fd : FuncData} {ns : List Int} (T : Txt K mg) (F : FnP K "_law_start" "_law_start" s__law_start f fd) : FnOk P w K mg base CX0 1 f fd ["_law_script"] (spStart K ns) := by
  refine ok0 F sc__law_start (fun vs H Q E h => ?_) (fun cdv A outer s H vs Q E hr h => ?_)
  · obtain ⟨sc, rfl, _⟩ := h
    rfl
  · obtain ⟨sc, rfl, S, k⟩ := h
    refine ⟨_, (pss_cons (ps_set (i := 1) sc__law_start.nd rfl (Or.inl rfl) pe_int)
  (pss_cons (ps_for PassesOwn.never rfl (pi_list (pv 0)) (pg_name (i := 2) sc__law_start.nd rfl (Or.inl rfl))
    (pss_one (ps_set (i := 1) sc__law_start.nd rfl (Or.inl rfl) (pe_op op_mod (pe_op op_add (pe_op op_add (pe_op op_mul (pv 1) pe_int) (pv 2)) pe_int) pe_int))))
  (pss_one (ps_ret (pe_lst (pa_cons (pv 0) (pa_cons pe_int (pa_cons (pv 1) (pa_cons pe_int pa_nil))))))))), ?_⟩
    try dsimp only [cxOf, Cx.nox, Cx.wish]
    refine rd_at (σ' := [some (.ref sc), none, none]) rfl ?_
    walk_at "go"
    refine ⟨_, rfl, sc, rfl, ⟨_, S.seq⟩, for_list (K := K) (a := sc) (xs := ns.map V.int) (fun i σ H1 => ∃ (m : Int) (v : Option V), σ = [some (.ref sc), some (.int m), v] ∧ H1 = H) ⟨1, none, rfl, rfl⟩ (fun i σ H1 _ ⟨_, _, _, e⟩ => by rw [e]; exact S.seq) ?_ ?_⟩
    · rintro i y σ H1 hi ⟨m, v, rfl, rfl⟩
      obtain ⟨z, rfl⟩ : ∃ z, y = V.int z := by
        rw [List.getElem?_map] at hi
        cases e : ns[i]? with
        | none => rw [e] at hi; cases hi
        | some z => rw [e] at hi; exact ⟨z, (Option.some.inj hi).symm⟩
      walk_at "go"
      exact ⟨_, _, rfl, rfl⟩
    · rintro σ H1 ⟨m, v, rfl, rfl⟩
      walk_at "go"
      refine ⟨by show 4 ≤ sizeLine; decide, fun p hp => ?_⟩
      exact k p _ ⟨⟨0, m, 0, upd_same, Int.le_refl _⟩, S.fr (Fr.new (S := []) hp)⟩ hp (Fr.new hp)
end
end Dc

set_option Elab.async false
set_option linter.all false
set_option maxRecDepth 100000
set_option maxHeartbeats 2000000
namespace Dc
/-! ### drawing, as a function upon trees -/
/-- what a stage keeps -/
structure Ow where
  over : Bool
  told : Nat
  last : Option Int
  left : Int
/-- what drawing gives -/
inductive Rs where
  | num (n : Int)
  | fin
  | long
/-- numbers of makers drawn for this one, numbers undone -/
structure Mt where
  book : Nat
  lost : List Int
inductive Nd where
  | mkr (m : Mkr) (g : Nat)
  | st (k : Kd) (o : Ow) (c : Nd)
  | both (o : Ow) (c d : Nd)
  | thn (o : Ow) (c d : Nd)
def Ow.fin (o : Ow) : Rs → Ow
  | .num n => { o with told := o.told + 1, last := some n }
  | .fin => { o with over := true }
  | .long => o
/-- what a stage tells without drawing -/
def ahead : Kd → Ow → Option (Rs × Ow)
  | .take k, o => if (o.told : Int) = k then some (.fin, o) else none
  | .each _, o => if 0 < o.left then some (.num (o.last.getD 0), { o with left := o.left - 1 }) else none
  | _, _ => none
inductive Ps where
  | again (o : Ow)
  | tell (v : Int) (o : Ow)
  | stop
/-- what a stage does with a number -/
def pass : Kd → Ow → Int → Ps
  | .add a, o, n => .tell (n + a) o
  | .times a, o, n => .tell (n * a) o
  | .keep r w, o, n => if (n - r) % w = 0 then .tell n o else .again o
  | .drop k, o, n => if o.left + 1 ≤ k then .again { o with left := o.left + 1 } else .tell n { o with left := o.left + 1 }
  | .take _, o, n => .tell n o
  | .each k, o, n => .tell n { o with left := k - 1 }
  | .until a, o, n => if a ≤ n then .stop else .tell n o
  | .unlike, o, n => if 0 < o.told ∧ o.last = some n then .again o else .tell n o
def draw : Nat → Nd → Mt → Option (Rs × Nd × Mt)
  | 0, _, _ => none
  | _ + 1, .mkr (.row ns) g, μ =>
    if ns.length ≤ g then some (.fin, .mkr (.row ns) g, μ) else if μ.book = 200 then some (.long, .mkr (.row ns) g, μ)
    else some (.num (ns.getD g 0), .mkr (.row ns) (g + 1), { μ with book := μ.book + 1 })
  | _ + 1, .mkr (.count b s) g, μ =>
    if μ.book = 200 then some (.long, .mkr (.count b s) g, μ) else some (.num (b + g * s), .mkr (.count b s) (g + 1), { μ with book := μ.book + 1 })
  | f + 1, .st k o c, μ =>
    if o.over = true then some (.fin, .st k o c, μ) else
    match ahead k o with
    | some (r, o') => some (r, .st k (o'.fin r) c, μ)
    | none => match draw f c μ with
      | none => none
      | some (.num n, c', μ') => match pass k o n with
        | .again o' => draw f (.st k o' c') μ'
        | .tell v o' => some (.num v, .st k (o'.fin (.num v)) c', μ')
        | .stop => some (.fin, .st k (o.fin .fin) c', { μ' with lost := μ'.lost ++ [n] })
      | some (.fin, c', μ') => some (.fin, .st k (o.fin .fin) c', μ')
      | some (.long, c', μ') => some (.long, .st k o c', μ')
  | f + 1, .both o c d, μ =>
    if o.over = true then some (.fin, .both o c d, μ) else
    match draw f c μ with
    | none => none
    | some (.num a, c', μ1) => match draw f d μ1 with
      | none => none
      | some (.num b, d', μ2) => some (.num (a + b), .both (o.fin (.num (a + b))) c' d', μ2)
      | some (.fin, d', μ2) => some (.fin, .both (o.fin .fin) c' d', { μ2 with lost := μ2.lost ++ [a] })
      | some (.long, d', μ2) => some (.long, .both o c' d', μ2)
    | some (.fin, c', μ1) => some (.fin, .both (o.fin .fin) c' d, μ1)
    | some (.long, c', μ1) => some (.long, .both o c' d, μ1)
  | f + 1, .thn o c d, μ =>
    if o.over = true then some (.fin, .thn o c d, μ) else
    if o.left = 1 then match draw f d μ with
      | none => none
      | some (r, d', μ1) => some (r, .thn (o.fin r) c d', μ1)
    else match draw f c μ with
      | none => none
      | some (.fin, c', μ1) => match draw f d μ1 with
        | none => none
        | some (r, d', μ2) => some (r, .thn ({ o with left := 1 }.fin r) c' d', μ2)
      | some (.num n, c', μ1) => some (.num n, .thn (o.fin (.num n)) c' d, μ1)
      | some (.long, c', μ1) => some (.long, .thn o c' d, μ1)
/-! ### measures -/
def Nd.gv : Nd → List Int
  | .mkr _ g => [(g : Int)]
  | .st _ _ c => c.gv
  | .both _ c d => c.gv ++ d.gv
  | .thn _ c d => c.gv ++ d.gv
def Nd.sz : Nd → Nat
  | .mkr _ _ => 1
  | .st _ _ c => c.sz + 1
  | .both _ c d => c.sz + d.sz + 1
  | .thn _ c d => c.sz + d.sz + 1
def Nd.mx : Nd → Nat
  | .mkr _ _ => 0
  | .st (.each k) _ c => k.toNat + k.toNat * c.mx
  | .st _ _ c => c.mx
  | .both _ c _ => c.mx
  | .thn _ c d => c.mx + d.mx
def Nd.pot : Nd → Nat
  | .mkr _ _ => 0
  | .st (.each k) o c => o.left.toNat + k.toNat * c.pot
  | .st _ _ c => c.pot
  | .both _ c _ => c.pot
  | .thn _ c d => c.pot + d.pot
def Nd.ended : Nd → Prop
  | .mkr (.row ns) g => ns.length ≤ g
  | .mkr (.count _ _) _ => False
  | .st _ o _ => o.over = true
  | .both o _ _ => o.over = true
  | .thn o _ _ => o.over = true
def Kd.inv : Kd → Ow → Prop
  | .take k, o => (o.told : Int) ≤ k
  | .drop _, o => 0 ≤ o.left
  | .each k, o => 0 ≤ o.left ∧ o.left < k ∧ (0 < o.left → o.last.isSome = true)
  | .unlike, o => (0 < o.told ↔ o.last.isSome = true)
  | _, _ => True
def Nd.inv : Nd → Prop
  | .mkr (.row ns) g => g ≤ ns.length ∧ (Mkr.row ns).ok
  | .mkr (.count b s) _ => (Mkr.count b s).ok
  | .st k o c => k.ok ∧ k.inv o ∧ c.inv
  | .both _ c d => c.inv ∧ d.inv
  | .thn o c d => (o.left = 0 ∨ (o.left = 1 ∧ c.ended)) ∧ c.inv ∧ d.inv
/-- all makers have given at most B numbers -/
def Nd.le (B : Nat) : Nd → Prop
  | .mkr _ g => g ≤ B
  | .st _ _ c => c.le B
  | .both _ c d => c.le B ∧ d.le B
  | .thn _ c d => c.le B ∧ d.le B
theorem Nd.le.mono {B B' : Nat} (h : B ≤ B') : ∀ {x : Nd}, x.le B → x.le B'
  | .mkr _ g, q => Nat.le_trans q h
  | .st _ _ c, q => Nd.le.mono (x := c) h q
  | .both _ c d, q => ⟨Nd.le.mono (x := c) h q.1, Nd.le.mono (x := d) h q.2⟩
  | .thn _ c d, q => ⟨Nd.le.mono (x := c) h q.1, Nd.le.mono (x := d) h q.2⟩
/-- a new tree -/
def ow0 : Ow := ⟨false, 0, none, 0⟩
def Ch.nd : Ch → Nd
  | .mkr m => .mkr m 0
  | .st c k => .st k ow0 c.nd
  | .both c o => .both ow0 c.nd o.nd
  | .thn c o => .thn ow0 c.nd o.nd
theorem Ch.nd_inv : ∀ {c : Ch}, c.ok → c.nd.inv
  | .mkr (.row ns), h => ⟨Nat.zero_le _, h⟩
  | .mkr (.count b s), h => h
  | .st c k, h => by
    refine ⟨h.2, ?_, Ch.nd_inv h.1⟩
    have hk := h.2
    cases k with
    | take k => exact hk.1
    | drop k => exact Int.le_refl 0
    | each k => exact ⟨Int.le_refl 0, by have := hk.1; show (0 : Int) < k; omega, fun q => absurd q (by decide)⟩
    | unlike => show (0 < 0 ↔ false = true); simp
    | _ => trivial
  | .both c o, h => ⟨Ch.nd_inv h.1, Ch.nd_inv h.2⟩
  | .thn c o, h => ⟨.inl rfl, Ch.nd_inv h.1, Ch.nd_inv h.2⟩
theorem Nd.pot_le : ∀ {x : Nd}, x.inv → x.pot ≤ x.mx
  | .mkr _ _, _ => Nat.le_refl _
  | .st (.each k) o c, h => by
    have h1 := Nd.pot_le (x := c) h.2.2
    have h2 := h.2.1
    have h3 : k.toNat * c.pot ≤ k.toNat * c.mx := Nat.mul_le_mul_left _ h1
    show o.left.toNat + k.toNat * c.pot ≤ k.toNat + k.toNat * c.mx
    have : o.left.toNat ≤ k.toNat := by have := h2.1; have := h2.2.1; omega
    omega
  | .st (.add _) o c, h => Nd.pot_le (x := c) h.2.2
  | .st (.times _) o c, h => Nd.pot_le (x := c) h.2.2
  | .st (.keep _ _) o c, h => Nd.pot_le (x := c) h.2.2
  | .st (.drop _) o c, h => Nd.pot_le (x := c) h.2.2
  | .st (.take _) o c, h => Nd.pot_le (x := c) h.2.2
  | .st (.until _) o c, h => Nd.pot_le (x := c) h.2.2
  | .st .unlike o c, h => Nd.pot_le (x := c) h.2.2
  | .both _ c d, h => Nd.pot_le (x := c) h.1
  | .thn _ c d, h => by
    have h1 := Nd.pot_le (x := c) h.2.1
    have h2 := Nd.pot_le (x := d) h.2.2
    show c.pot + d.pot ≤ c.mx + d.mx
    omega
end Dc

set_option Elab.async false
set_option linter.all false
set_option maxRecDepth 100000
set_option maxHeartbeats 2000000
namespace Dc
/-! ### what drawing keeps -/
def Kd.potK : Kd → Ow → Nat → Nat
  | .each k, o, p => o.left.toNat + k.toNat * p
  | _, _, p => p
theorem pot_st (k : Kd) (o : Ow) (c : Nd) : (Nd.st k o c).pot = k.potK o c.pot := by cases k <;> rfl
def Kd.mxK : Kd → Nat → Nat
  | .each k, p => k.toNat + k.toNat * p
  | _, p => p
theorem mx_st (k : Kd) (o : Ow) (c : Nd) : (Nd.st k o c).mx = k.mxK c.mx := by cases k <;> rfl
theorem inv_fin {k : Kd} {o : Ow} (h : k.inv o) : k.inv (o.fin .fin) := by cases k <;> exact h
theorem potK_fin (k : Kd) (o : Ow) (p : Nat) : k.potK (o.fin .fin) p = k.potK o p := by cases k <;> rfl
theorem ahead_facts {k : Kd} {o o' : Ow} {r : Rs} (h : ahead k o = some (r, o')) (hi : k.inv o) :
    k.inv (o'.fin r) ∧ (∀ p, k.potK (o'.fin r) p ≤ k.potK o p) ∧ ((∃ v, r = .num v ∧ ∀ p, k.potK (o'.fin r) p < k.potK o p) ∨ (r = .fin ∧ (o'.fin r).over = true)) := by
  cases k with
  | take k =>
    simp only [ahead] at h
    split at h
    · cases h
      exact ⟨hi, fun p => Nat.le_refl _, .inr ⟨rfl, rfl⟩⟩
    · cases h
  | each k =>
    simp only [ahead] at h
    split at h
    · rename_i hl
      cases h
      obtain ⟨h1, h2, h3⟩ := hi
      refine ⟨⟨by show 0 ≤ o.left - 1; omega, by show o.left - 1 < k; omega, fun _ => rfl⟩, fun p => ?_, .inl ⟨_, rfl, fun p => ?_⟩⟩
      · show (o.left - 1).toNat + k.toNat * p ≤ o.left.toNat + k.toNat * p
        omega
      · show (o.left - 1).toNat + k.toNat * p < o.left.toNat + k.toNat * p
        omega
    · cases h
  | _ => cases h
theorem pass_again {k : Kd} {o o' : Ow} {n : Int} (h : pass k o n = .again o') (hi : k.inv o) : k.inv o' ∧ o'.over = o.over ∧ (∀ p, k.potK o' p = p) ∧ ∀ p, k.potK o p = p := by
  cases k with
  | keep r w =>
    simp only [pass] at h
    split at h
    · cases h
    · cases h; exact ⟨hi, rfl, fun _ => rfl, fun _ => rfl⟩
  | drop k =>
    simp only [pass] at h
    split at h
    · cases h; exact ⟨by have : 0 ≤ o.left := hi; show 0 ≤ o.left + 1; omega, rfl, fun _ => rfl, fun _ => rfl⟩
    · cases h
  | unlike =>
    simp only [pass] at h
    split at h
    · cases h; exact ⟨hi, rfl, fun _ => rfl, fun _ => rfl⟩
    · cases h
  | «until» a =>
    simp only [pass] at h
    split at h <;> cases h
  | _ => cases h
theorem pass_tell {k : Kd} {o o' : Ow} {n v : Int} (h : pass k o n = .tell v o') (ha : ahead k o = none) (hk : k.ok) (hi : k.inv o) : k.inv (o'.fin (.num v)) ∧ ∀ p p', p' < p → k.potK (o'.fin (.num v)) p' < k.potK o p := by
  cases k with
  | add a => cases h; exact ⟨trivial, fun p p' q => q⟩
  | times a => cases h; exact ⟨trivial, fun p p' q => q⟩
  | keep r w =>
    simp only [pass] at h
    split at h
    · cases h; exact ⟨trivial, fun p p' q => q⟩
    · cases h
  | drop k =>
    simp only [pass] at h
    split at h
    · cases h
    · cases h; exact ⟨by have : 0 ≤ o.left := hi; show 0 ≤ o.left + 1; omega, fun p p' q => q⟩
  | take k =>
    cases h
    simp only [ahead] at ha
    split at ha
    · cases ha
    · rename_i hne
      have : (o.told : Int) ≤ k := hi
      exact ⟨by show ((o.told + 1 : Nat) : Int) ≤ k; omega, fun p p' q => q⟩
  | each k =>
    cases h
    simp only [ahead] at ha
    split at ha
    · cases ha
    · rename_i hl
      obtain ⟨h1, h2, h3⟩ := hi
      have hk1 : 1 ≤ k := hk.1
      refine ⟨⟨by show 0 ≤ k - 1; omega, by show k - 1 < k; omega, fun _ => rfl⟩, fun p p' q => ?_⟩
      show (k - 1).toNat + k.toNat * p' < o.left.toNat + k.toNat * p
      have e : k.toNat * p' + k.toNat ≤ k.toNat * p := by
        have := Nat.mul_le_mul_left k.toNat (show p' + 1 ≤ p from q)
        rw [Nat.mul_add, Nat.mul_one] at this
        exact this
      omega
  | «until» a =>
    simp only [pass] at h
    split at h
    · cases h
    · cases h; exact ⟨trivial, fun p p' q => q⟩
  | unlike =>
    simp only [pass] at h
    split at h
    · cases h
    · cases h
      refine ⟨?_, fun p p' q => q⟩
      show (0 < o.told + 1 ↔ true = true)
      simp
structure DF (r : Rs) (x x' : Nd) (m m' : Mt) : Prop where
  inv : x'.inv
  sz : x'.sz = x.sz
  mx : x'.mx = x.mx
  gl : x'.gv.length = x.gv.length
  b1 : m.book ≤ m'.book
  b2 : m'.book ≤ 200
  p1 : m'.book = m.book → x'.pot ≤ x.pot
  p2 : ∀ v, r = .num v → m'.book = m.book → x'.pot < x.pot
  en : r = .fin → x'.ended
  le : ∀ B, x.le B → x'.le (B + (m'.book - m.book))
theorem DF.id_fin {x : Nd} {m : Mt} (h : x.inv) (hb : m.book ≤ 200) (he : x.ended) : DF .fin x x m m :=
  ⟨h, rfl, rfl, rfl, Nat.le_refl _, hb, fun _ => Nat.le_refl _, fun v e => (by cases e), fun _ => he, fun B q => Nd.le.mono (by omega) q⟩
theorem DF.id_long {x : Nd} {m : Mt} (h : x.inv) (hb : m.book ≤ 200) : DF .long x x m m :=
  ⟨h, rfl, rfl, rfl, Nat.le_refl _, hb, fun _ => Nat.le_refl _, fun v e => (by cases e), fun e => (by cases e), fun B q => Nd.le.mono (by omega) q⟩
theorem draw_facts : ∀ (f : Nat) (x : Nd) (m : Mt) (r : Rs) (x' : Nd) (m' : Mt), draw f x m = some (r, x', m') → x.inv → m.book ≤ 200 → DF r x x' m m'
  | 0, _, _, _, _, _, h, _, _ => by simp only [draw] at h; cases h
  | f + 1, .mkr (.row ns) g, m, r, x', m', h, hi, hb => by
    simp only [draw] at h
    split at h
    · rename_i hl
      cases h
      exact DF.id_fin hi hb hl
    · rename_i hl
      split at h
      · cases h
        exact DF.id_long hi hb
      · rename_i hb2
        cases h
        exact ⟨⟨by omega, hi.2⟩, rfl, rfl, rfl, by show m.book ≤ m.book + 1; omega, by show m.book + 1 ≤ 200; omega, fun e => absurd (show m.book + 1 = m.book from e) (by omega), fun v _ e => absurd (show m.book + 1 = m.book from e) (by omega), fun e => (by cases e),
          fun B q => by show g + 1 ≤ B + (m.book + 1 - m.book); have : g ≤ B := q; omega⟩
  | f + 1, .mkr (.count b s) g, m, r, x', m', h, hi, hb => by
    simp only [draw] at h
    split at h
    · cases h
      exact DF.id_long hi hb
    · rename_i hb2
      cases h
      exact ⟨hi, rfl, rfl, rfl, by show m.book ≤ m.book + 1; omega, by show m.book + 1 ≤ 200; omega, fun e => absurd (show m.book + 1 = m.book from e) (by omega), fun v _ e => absurd (show m.book + 1 = m.book from e) (by omega), fun e => (by cases e),
        fun B q => by show g + 1 ≤ B + (m.book + 1 - m.book); have : g ≤ B := q; omega⟩
  | f + 1, .st k o c, m, r, x', m', h, hi, hb => by
    simp only [draw] at h
    split at h
    · rename_i ho
      cases h
      exact DF.id_fin hi hb ho
    · rename_i ho
      obtain ⟨hk, hki, hc⟩ := hi
      split at h
      · rename_i r0 o' ha
        cases h
        obtain ⟨a1, a2, a3⟩ := ahead_facts ha hki
        refine ⟨⟨hk, a1, hc⟩, rfl, by rw [mx_st, mx_st], rfl, Nat.le_refl _, hb, fun _ => by rw [pot_st, pot_st]; exact a2 _, fun v e _ => ?_, fun e => ?_, fun B q => Nd.le.mono (x := .st k (o'.fin r) c) (by omega) q⟩
        · rcases a3 with ⟨w, _, q⟩ | ⟨e2, _⟩
          · rw [pot_st, pot_st]; exact q _
          · rw [e2] at e; cases e
        · rcases a3 with ⟨w, e2, q⟩ | ⟨_, q⟩
          · rw [e2] at e; cases e
          · exact q
      · rename_i ha
        split at h
        · cases h
        · rename_i n c' m1 hd
          have F := draw_facts f c m _ c' m1 hd hc hb
          split at h
          · rename_i o' hp
            obtain ⟨q1, q2, q3, q4⟩ := pass_again hp hki
            have G := draw_facts f (.st k o' c') m1 r x' m' h ⟨hk, q1, F.inv⟩ F.b2
            refine ⟨G.inv, by rw [G.sz]; show c'.sz + 1 = c.sz + 1; rw [F.sz], by rw [G.mx, mx_st, mx_st, F.mx], by rw [G.gl]; exact F.gl, Nat.le_trans F.b1 G.b1, G.b2, fun e => ?_, fun v e0 e => ?_, G.en, fun B q => ?_⟩
            · have e1 : m1.book = m.book := by have := F.b1; have := G.b1; omega
              have e2 : m'.book = m1.book := by omega
              have := F.p2 n rfl e1
              have := G.p1 e2
              rw [pot_st, q3] at this
              rw [pot_st, q4]
              omega
            · have e1 : m1.book = m.book := by have := F.b1; have := G.b1; omega
              have e2 : m'.book = m1.book := by omega
              have := F.p2 n rfl e1
              have := G.p1 e2
              rw [pot_st, q3] at this
              rw [pot_st, q4]
              omega
            · have z := G.le _ (show (Nd.st k o' c').le (B + (m1.book - m.book)) from F.le B q)
              exact Nd.le.mono (by have := F.b1; have := G.b1; omega) z
          · rename_i v o' hp
            cases h
            obtain ⟨q1, q2⟩ := pass_tell hp ha hk hki
            refine ⟨⟨hk, q1, F.inv⟩, by show c'.sz + 1 = c.sz + 1; rw [F.sz], by rw [mx_st, mx_st, F.mx], F.gl, F.b1, F.b2, fun e => ?_, fun v e0 e => ?_, fun e => (by cases e), F.le⟩
            · rw [pot_st, pot_st]; exact Nat.le_of_lt (q2 _ _ (F.p2 n rfl e))
            · rw [pot_st, pot_st]; exact q2 _ _ (F.p2 n rfl e)
          · rename_i hp
            cases h
            refine ⟨⟨hk, inv_fin hki, F.inv⟩, by show c'.sz + 1 = c.sz + 1; rw [F.sz], by rw [mx_st, mx_st, F.mx], F.gl, F.b1, F.b2, fun e => ?_, fun v e0 => (by cases e0), fun _ => rfl, F.le⟩
            have := F.p1 e
            have e2 : ∀ p, k.potK o p = p := by
              cases k with
              | each k => cases hp
              | _ => exact fun _ => rfl
            rw [pot_st, pot_st, potK_fin, e2, e2]
            exact this
        · rename_i c' m1 hd
          cases h
          have F := draw_facts f c m _ c' _ hd hc hb
          refine ⟨⟨hk, inv_fin hki, F.inv⟩, by show c'.sz + 1 = c.sz + 1; rw [F.sz], by rw [mx_st, mx_st, F.mx], F.gl, F.b1, F.b2, fun e => ?_, fun v e0 => (by cases e0), fun _ => rfl, F.le⟩
          have := F.p1 e
          rw [pot_st, pot_st, potK_fin]
          cases k with
          | each k => show o.left.toNat + k.toNat * c'.pot ≤ o.left.toNat + k.toNat * c.pot; have := Nat.mul_le_mul_left k.toNat this; omega
          | _ => exact this
        · rename_i c' m1 hd
          cases h
          have F := draw_facts f c m _ c' _ hd hc hb
          refine ⟨⟨hk, hki, F.inv⟩, by show c'.sz + 1 = c.sz + 1; rw [F.sz], by rw [mx_st, mx_st, F.mx], F.gl, F.b1, F.b2, fun e => ?_, fun v e0 => (by cases e0), fun e => (by cases e), F.le⟩
          have := F.p1 e
          rw [pot_st, pot_st]
          cases k with
          | each k => show o.left.toNat + k.toNat * c'.pot ≤ o.left.toNat + k.toNat * c.pot; have := Nat.mul_le_mul_left k.toNat this; omega
          | _ => exact this
  | f + 1, .both o c d, m, r, x', m', h, hi, hb => by
    simp only [draw] at h
    split at h
    · rename_i ho
      cases h
      exact DF.id_fin hi hb ho
    · obtain ⟨hc, hd⟩ := hi
      split at h
      · cases h
      · rename_i a c' m1 h1
        have F := draw_facts f c m _ c' m1 h1 hc hb
        have fin : ∀ {r0 : Rs} {d' : Nd} {m2 m3 : Mt} {o' : Ow} {r1 : Rs}, draw f d m1 = some (r0, d', m2) → m3.book = m2.book → (r1 = .fin → o'.over = true) → DF r1 (.both o c d) (.both o' c' d') m m3 := by
          intro r0 d' m2 m3 o' r1 h2 eb eo
          have G := draw_facts f d m1 _ d' m2 h2 hd F.b2
          refine ⟨⟨F.inv, G.inv⟩, by show c'.sz + d'.sz + 1 = _; rw [F.sz, G.sz]; rfl, F.mx, by show (c'.gv ++ d'.gv).length = (c.gv ++ d.gv).length; rw [List.length_append, List.length_append, F.gl, G.gl], by rw [eb]; exact Nat.le_trans F.b1 G.b1, by rw [eb]; exact G.b2, fun e => ?_, fun v _ e => ?_, eo, fun B q => ?_⟩
          · exact F.p1 (by rw [eb] at e; have := F.b1; have := G.b1; omega)
          · exact F.p2 a rfl (by rw [eb] at e; have := F.b1; have := G.b1; omega)
          · have := F.b1; have := G.b1
            rw [eb]
            exact ⟨Nd.le.mono (by omega) (F.le B q.1), Nd.le.mono (by omega) (G.le B q.2)⟩
        split at h
        · cases h
        · rename_i b d' m2 h2
          cases h
          exact fin h2 rfl fun e => by cases e
        · rename_i d' m2 h2
          cases h
          exact fin h2 rfl fun _ => rfl
        · rename_i d' m2 h2
          cases h
          exact fin h2 rfl fun e => by cases e
      · rename_i c' m1 h1
        cases h
        have F := draw_facts f c m _ c' _ h1 hc hb
        exact ⟨⟨F.inv, hd⟩, by show c'.sz + d.sz + 1 = _; rw [F.sz]; rfl, F.mx, by show (c'.gv ++ d.gv).length = (c.gv ++ d.gv).length; rw [List.length_append, List.length_append, F.gl], F.b1, F.b2, F.p1, fun v e => (by cases e), fun _ => rfl, fun B q => ⟨F.le B q.1, Nd.le.mono (by omega) q.2⟩⟩
      · rename_i c' m1 h1
        cases h
        have F := draw_facts f c m _ c' _ h1 hc hb
        exact ⟨⟨F.inv, hd⟩, by show c'.sz + d.sz + 1 = _; rw [F.sz]; rfl, F.mx, by show (c'.gv ++ d.gv).length = (c.gv ++ d.gv).length; rw [List.length_append, List.length_append, F.gl], F.b1, F.b2, F.p1, fun v e => (by cases e), fun e => (by cases e), fun B q => ⟨F.le B q.1, Nd.le.mono (by omega) q.2⟩⟩
  | f + 1, .thn o c d, m, r, x', m', h, hi, hb => by
    simp only [draw] at h
    split at h
    · rename_i ho
      cases h
      exact DF.id_fin hi hb ho
    · obtain ⟨hl, hc, hd⟩ := hi
      split at h
      · rename_i hone
        split at h
        · cases h
        · rename_i r0 d' m1 h1
          cases h
          have G := draw_facts f d m _ d' _ h1 hd hb
          have hce : c.ended := by
            rcases hl with e | ⟨_, e⟩
            · rw [e] at hone; cases hone
            · exact e
          refine ⟨⟨.inr ⟨?_, hce⟩, hc, G.inv⟩, by show c.sz + d'.sz + 1 = _; rw [G.sz]; rfl, by show c.mx + d'.mx = _; rw [G.mx]; rfl, by show (c.gv ++ d'.gv).length = (c.gv ++ d.gv).length; rw [List.length_append, List.length_append, G.gl], G.b1, G.b2, fun e => ?_, fun v e0 e => ?_, fun e => ?_, fun B q => ⟨Nd.le.mono (by omega) q.1, G.le B q.2⟩⟩
          · cases r <;> exact hone
          · have := G.p1 e; show c.pot + d'.pot ≤ c.pot + d.pot; omega
          · have := G.p2 v e0 e; show c.pot + d'.pot < c.pot + d.pot; omega
          · subst e; rfl
      · rename_i hone
        have hl0 : o.left = 0 := by
          rcases hl with e | ⟨e, _⟩
          · exact e
          · exact absurd e hone
        split at h
        · cases h
        · rename_i c' m1 h1
          have F := draw_facts f c m _ c' m1 h1 hc hb
          split at h
          · cases h
          · rename_i r0 d' m2 h2
            cases h
            have G := draw_facts f d m1 _ d' _ h2 hd F.b2
            refine ⟨⟨.inr ⟨?_, F.en rfl⟩, F.inv, G.inv⟩, by show c'.sz + d'.sz + 1 = _; rw [F.sz, G.sz]; rfl, by show c'.mx + d'.mx = _; rw [F.mx, G.mx]; rfl, by show (c'.gv ++ d'.gv).length = (c.gv ++ d.gv).length; rw [List.length_append, List.length_append, F.gl, G.gl], Nat.le_trans F.b1 G.b1, G.b2, fun e => ?_, fun v e0 e => ?_, fun e => ?_, fun B q => ?_⟩
            · cases r <;> rfl
            · have := F.b1; have := G.b1
              have := F.p1 (by omega); have := G.p1 (by omega); show c'.pot + d'.pot ≤ c.pot + d.pot; omega
            · have := F.b1; have := G.b1
              have := F.p1 (by omega); have := G.p2 v e0 (by omega); show c'.pot + d'.pot < c.pot + d.pot; omega
            · subst e; rfl
            · have := F.b1; have := G.b1
              exact ⟨Nd.le.mono (by omega) (F.le B q.1), Nd.le.mono (by omega) (G.le B q.2)⟩
        · rename_i n c' m1 h1
          cases h
          have F := draw_facts f c m _ c' _ h1 hc hb
          refine ⟨⟨.inl hl0, F.inv, hd⟩, by show c'.sz + d.sz + 1 = _; rw [F.sz]; rfl, by show c'.mx + d.mx = _; rw [F.mx]; rfl, by show (c'.gv ++ d.gv).length = (c.gv ++ d.gv).length; rw [List.length_append, List.length_append, F.gl], F.b1, F.b2, fun e => ?_, fun v e0 e => ?_, fun e => (by cases e), fun B q => ⟨F.le B q.1, Nd.le.mono (by omega) q.2⟩⟩
          · have := F.p1 e; show c'.pot + d.pot ≤ c.pot + d.pot; omega
          · have := F.p2 n rfl e; show c'.pot + d.pot < c.pot + d.pot; omega
        · rename_i c' m1 h1
          cases h
          have F := draw_facts f c m _ c' _ h1 hc hb
          refine ⟨⟨.inl hl0, F.inv, hd⟩, by show c'.sz + d.sz + 1 = _; rw [F.sz]; rfl, by show c'.mx + d.mx = _; rw [F.mx]; rfl, by show (c'.gv ++ d.gv).length = (c.gv ++ d.gv).length; rw [List.length_append, List.length_append, F.gl], F.b1, F.b2, fun e => ?_, fun v e0 => (by cases e0), fun e => (by cases e), fun B q => ⟨F.le B q.1, Nd.le.mono (by omega) q.2⟩⟩
          have := F.p1 e; show c'.pot + d.pot ≤ c.pot + d.pot; omega
end Dc

set_option Elab.async false
set_option linter.all false
set_option maxRecDepth 100000
set_option maxHeartbeats 2000000
namespace Dc
/-! ### drawing comes to an end -/
theorem draw_mkr (f g : Nat) (m : Mkr) (u : Mt) : draw (f + 1) (.mkr m g) u = draw 1 (.mkr m g) u := by cases m <;> rfl
theorem draw_st (f : Nat) (k : Kd) (o : Ow) (c : Nd) (m : Mt) : draw (f + 1) (.st k o c) m =
    if o.over = true then some (.fin, .st k o c, m) else
    match ahead k o with
    | some (r, o') => some (r, .st k (o'.fin r) c, m)
    | none => match draw f c m with
      | none => none
      | some (.num n, c', m') => match pass k o n with
        | .again o' => draw f (.st k o' c') m'
        | .tell v o' => some (.num v, .st k (o'.fin (.num v)) c', m')
        | .stop => some (.fin, .st k (o.fin .fin) c', { m' with lost := m'.lost ++ [n] })
      | some (.fin, c', m') => some (.fin, .st k (o.fin .fin) c', m')
      | some (.long, c', m') => some (.long, .st k o c', m') := rfl
theorem draw_both (f : Nat) (o : Ow) (c d : Nd) (m : Mt) : draw (f + 1) (.both o c d) m =
    if o.over = true then some (.fin, .both o c d, m) else
    match draw f c m with
    | none => none
    | some (.num a, c', m1) => match draw f d m1 with
      | none => none
      | some (.num b, d', m2) => some (.num (a + b), .both (o.fin (.num (a + b))) c' d', m2)
      | some (.fin, d', m2) => some (.fin, .both (o.fin .fin) c' d', { m2 with lost := m2.lost ++ [a] })
      | some (.long, d', m2) => some (.long, .both o c' d', m2)
    | some (.fin, c', m1) => some (.fin, .both (o.fin .fin) c' d, m1)
    | some (.long, c', m1) => some (.long, .both o c' d, m1) := rfl
theorem draw_thn (f : Nat) (o : Ow) (c d : Nd) (m : Mt) : draw (f + 1) (.thn o c d) m =
    if o.over = true then some (.fin, .thn o c d, m) else
    if o.left = 1 then match draw f d m with
      | none => none
      | some (r, d', m1) => some (r, .thn (o.fin r) c d', m1)
    else match draw f c m with
      | none => none
      | some (.fin, c', m1) => match draw f d m1 with
        | none => none
        | some (r, d', m2) => some (r, .thn ({ o with left := 1 }.fin r) c' d', m2)
      | some (.num n, c', m1) => some (.num n, .thn (o.fin (.num n)) c' d, m1)
      | some (.long, c', m1) => some (.long, .thn o c' d, m1) := rfl
theorem draw_succ : ∀ (f : Nat) (x : Nd) (m : Mt) (r : Rs × Nd × Mt), draw f x m = some r → draw (f + 1) x m = some r
  | 0, _, _, _, h => by simp only [draw] at h; cases h
  | f + 1, .mkr m g, u, r, h => by rw [draw_mkr] at h ⊢; exact h
  | f + 1, .st k o c, m, r, h => by
    rw [draw_st] at h
    rw [draw_st (f + 1)]
    split at h
    · rename_i ho
      rw [if_pos ho]; exact h
    · rename_i ho
      rw [if_neg ho]
      split at h
      · rename_i ha
        exact h
      · rename_i ha
        split at h
        · cases h
        · rename_i hd
          have := draw_succ f _ _ _ hd
          rw [this]
          show (match pass k o _ with | .again o' => _ | .tell v o' => _ | .stop => _) = _
          split at h
          · rename_i hp
            try rw [hp]
            exact draw_succ f _ _ _ h
          · rename_i hp
            (try rw [hp]); exact h
          · rename_i hp
            (try rw [hp]); exact h
        · rename_i hd
          rw [draw_succ f _ _ _ hd]; exact h
        · rename_i hd
          rw [draw_succ f _ _ _ hd]; exact h
  | f + 1, .both o c d, m, r, h => by
    rw [draw_both] at h
    rw [draw_both (f + 1)]
    split at h
    · rename_i ho
      rw [if_pos ho]; exact h
    · rename_i ho
      rw [if_neg ho]
      split at h
      · cases h
      · rename_i h1
        rw [draw_succ f _ _ _ h1]
        split at h
        · cases h
        · rename_i h2
          show (match draw (f + 1) d _ with | none => _ | some (.num b, d', m2) => _ | some (.fin, d', m2) => _ | some (.long, d', m2) => _) = _
          rw [draw_succ f _ _ _ h2]; exact h
        · rename_i h2
          show (match draw (f + 1) d _ with | none => _ | some (.num b, d', m2) => _ | some (.fin, d', m2) => _ | some (.long, d', m2) => _) = _
          rw [draw_succ f _ _ _ h2]; exact h
        · rename_i h2
          show (match draw (f + 1) d _ with | none => _ | some (.num b, d', m2) => _ | some (.fin, d', m2) => _ | some (.long, d', m2) => _) = _
          rw [draw_succ f _ _ _ h2]; exact h
      · rename_i h1
        rw [draw_succ f _ _ _ h1]; exact h
      · rename_i h1
        rw [draw_succ f _ _ _ h1]; exact h
  | f + 1, .thn o c d, m, r, h => by
    rw [draw_thn] at h
    rw [draw_thn (f + 1)]
    split at h
    · rename_i ho
      rw [if_pos ho]; exact h
    · rename_i ho
      rw [if_neg ho]
      split at h
      · rename_i hl
        rw [if_pos hl]
        split at h
        · cases h
        · rename_i h1
          rw [draw_succ f _ _ _ h1]; exact h
      · rename_i hl
        rw [if_neg hl]
        split at h
        · cases h
        · rename_i h1
          rw [draw_succ f _ _ _ h1]
          split at h
          · cases h
          · rename_i h2
            show (match draw (f + 1) d _ with | none => _ | some (r, d', m2) => _) = _
            rw [draw_succ f _ _ _ h2]; exact h
        · rename_i h1
          rw [draw_succ f _ _ _ h1]; exact h
        · rename_i h1
          rw [draw_succ f _ _ _ h1]; exact h
theorem draw_mono {f g : Nat} {x : Nd} {m : Mt} {r : Rs × Nd × Mt} (h : draw f x m = some r) (q : f ≤ g) : draw g x m = some r := by
  induction q with
  | refl => exact h
  | step _ ih => exact draw_succ _ _ _ _ ih
theorem ended_draw (f : Nat) {x : Nd} (m : Mt) (h : x.ended) : draw (f + 1) x m = some (.fin, x, m) := by
  cases x with
  | mkr k g =>
    cases k with
    | row ns => simp only [draw]; exact if_pos h
    | count b s => exact absurd h (fun q => q)
  | st k o c => rw [draw_st]; exact if_pos h
  | both o c d => rw [draw_both]; exact if_pos h
  | thn o c d => rw [draw_thn]; exact if_pos h
theorem draw_st_tot (c0 : Nat) (tot : ∀ (x : Nd) (m : Mt), x.sz ≤ c0 → x.inv → m.book ≤ 200 → ∃ f r, draw f x m = some r) :
    ∀ (n : Nat) (k : Kd) (o : Ow) (c : Nd) (m : Mt), c.sz ≤ c0 → (Nd.st k o c).inv → m.book ≤ 200 → (200 - m.book) * (c.mx + 1) + c.pot < n → ∃ f r, draw f (.st k o c) m = some r
  | 0, _, _, _, _, _, _, _, h => absurd h (Nat.not_lt_zero _)
  | n + 1, k, o, c, m, hs, hi, hb, hn => by
    cases ho : o.over with
    | true => exact ⟨1, _, ended_draw 0 m ho⟩
    | false =>
      have ho' : ¬ o.over = true := by rw [ho]; decide
      cases ha : ahead k o with
      | some p => exact ⟨1, _, by rw [draw_st, if_neg ho', ha]⟩
      | none =>
        obtain ⟨f, ⟨r, c', m'⟩, hd⟩ := tot c m hs hi.2.2 hb
        have F := draw_facts f c m r c' m' hd hi.2.2 hb
        cases r with
        | fin => exact ⟨f + 1, _, by rw [draw_st, if_neg ho', ha, hd]⟩
        | long => exact ⟨f + 1, _, by rw [draw_st, if_neg ho', ha, hd]⟩
        | num v =>
          cases hp : pass k o v with
          | tell w o' => exact ⟨f + 1, (_, _, _), by rw [draw_st, if_neg ho', ha, hd]; show (match pass k o v with | .again o' => _ | .tell v o' => _ | .stop => _) = _; rw [hp]⟩
          | stop => exact ⟨f + 1, (_, _, _), by rw [draw_st, if_neg ho', ha, hd]; show (match pass k o v with | .again o' => _ | .tell v o' => _ | .stop => _) = _; rw [hp]⟩
          | again o' =>
            obtain ⟨q1, q2, q3, q4⟩ := pass_again hp hi.2.1
            have less : (200 - m'.book) * (c'.mx + 1) + c'.pot < n := by
              have b1 := F.b1
              rw [F.mx]
              by_cases e : m'.book = m.book
              · have := F.p2 v rfl e
                rw [e]; omega
              · have h1 : c'.pot ≤ c'.mx := Nd.pot_le F.inv
                rw [F.mx] at h1
                have h2 := Nat.mul_le_mul_right (c.mx + 1) (show (200 - m'.book) + 1 ≤ 200 - m.book by have := F.b2; omega)
                rw [Nat.add_mul, Nat.one_mul] at h2
                omega
            obtain ⟨g, r, hg⟩ := draw_st_tot c0 tot n k o' c' m' (by rw [F.sz]; exact hs) ⟨hi.1, q1, F.inv⟩ F.b2 less
            refine ⟨f + g + 1, r, ?_⟩
            rw [draw_st, if_neg ho', ha, draw_mono hd (Nat.le_add_right f g)]
            show (match pass k o v with | .again o' => _ | .tell v o' => _ | .stop => _) = _
            rw [hp]
            exact draw_mono hg (Nat.le_add_left g f)
theorem draw_total_n : ∀ (n : Nat) (x : Nd) (m : Mt), x.sz ≤ n → x.inv → m.book ≤ 200 → ∃ f r, draw f x m = some r
  | 0, x, _, h, _, _ => by cases x <;> exact absurd h (Nat.not_succ_le_zero _)
  | n + 1, .mkr (.row ns) g, m, _, _, _ => by
    refine ⟨1, ?_⟩
    simp only [draw]
    split
    · exact ⟨_, rfl⟩
    · split <;> exact ⟨_, rfl⟩
  | n + 1, .mkr (.count b s) g, m, _, _, _ => by
    refine ⟨1, ?_⟩
    simp only [draw]
    split <;> exact ⟨_, rfl⟩
  | n + 1, .st k o c, m, hs, hi, hb => draw_st_tot n (draw_total_n n) _ k o c m (Nat.le_of_succ_le_succ hs) hi hb (Nat.lt_succ_self _)
  | n + 1, .both o c d, m, hs, hi, hb => by
    have hs' : c.sz + d.sz + 1 ≤ n + 1 := hs
    cases ho : o.over with
    | true => exact ⟨1, _, ended_draw 0 m ho⟩
    | false =>
      have ho' : ¬ o.over = true := by rw [ho]; decide
      obtain ⟨f, ⟨r, c', m'⟩, hd⟩ := draw_total_n n c m (by omega) hi.1 hb
      have F := draw_facts f c m r c' m' hd hi.1 hb
      cases r with
      | fin => exact ⟨f + 1, _, by rw [draw_both, if_neg ho', hd]⟩
      | long => exact ⟨f + 1, _, by rw [draw_both, if_neg ho', hd]⟩
      | num v =>
        obtain ⟨g, ⟨r2, d', m2⟩, he⟩ := draw_total_n n d m' (by omega) hi.2 F.b2
        have h1 := draw_mono hd (Nat.le_add_right f g)
        have h2 := draw_mono he (Nat.le_add_left g f)
        cases r2 with
        | num w => exact ⟨f + g + 1, (_, _, _), by rw [draw_both, if_neg ho', h1]; show (match draw (f + g) d m' with | none => _ | some (.num b, d', m2) => _ | some (.fin, d', m2) => _ | some (.long, d', m2) => _) = _; rw [h2]⟩
        | fin => exact ⟨f + g + 1, (_, _, _), by rw [draw_both, if_neg ho', h1]; show (match draw (f + g) d m' with | none => _ | some (.num b, d', m2) => _ | some (.fin, d', m2) => _ | some (.long, d', m2) => _) = _; rw [h2]⟩
        | long => exact ⟨f + g + 1, (_, _, _), by rw [draw_both, if_neg ho', h1]; show (match draw (f + g) d m' with | none => _ | some (.num b, d', m2) => _ | some (.fin, d', m2) => _ | some (.long, d', m2) => _) = _; rw [h2]⟩
  | n + 1, .thn o c d, m, hs, hi, hb => by
    have hs' : c.sz + d.sz + 1 ≤ n + 1 := hs
    cases ho : o.over with
    | true => exact ⟨1, _, ended_draw 0 m ho⟩
    | false =>
      have ho' : ¬ o.over = true := by rw [ho]; decide
      by_cases hl : o.left = 1
      · obtain ⟨g, ⟨r2, d', m2⟩, he⟩ := draw_total_n n d m (by omega) hi.2.2 hb
        exact ⟨g + 1, (_, _, _), by rw [draw_thn, if_neg ho', if_pos hl, he]⟩
      · obtain ⟨f, ⟨r, c', m'⟩, hd⟩ := draw_total_n n c m (by omega) hi.2.1 hb
        have F := draw_facts f c m r c' m' hd hi.2.1 hb
        cases r with
        | num v => exact ⟨f + 1, _, by rw [draw_thn, if_neg ho', if_neg hl, hd]⟩
        | long => exact ⟨f + 1, _, by rw [draw_thn, if_neg ho', if_neg hl, hd]⟩
        | fin =>
          obtain ⟨g, ⟨r2, d', m2⟩, he⟩ := draw_total_n n d m' (by omega) hi.2.2 F.b2
          have h1 := draw_mono hd (Nat.le_add_right f g)
          have h2 := draw_mono he (Nat.le_add_left g f)
          exact ⟨f + g + 1, (_, _, _), by rw [draw_thn, if_neg ho', if_neg hl, h1]; show (match draw (f + g) d m' with | none => _ | some (r, d', m2) => _) = _; rw [h2]⟩
theorem draw_total {x : Nd} {m : Mt} (h : x.inv) (hb : m.book ≤ 200) : ∃ f r, draw f x m = some r := draw_total_n _ x m (Nat.le_refl _) h hb
end Dc

set_option Elab.async false
set_option linter.all false
set_option maxRecDepth 100000
set_option maxHeartbeats 2000000
namespace Dc
open PySem PySem.Spec PyProof.Rows L2
/-! ### the program's stages in the heap -/
structure Cls' where
  count : Addr
  row : Addr
  reckon : Addr
  keep : Addr
  drop : Addr
  take : Addr
  each : Addr
  until' : Addr
  unlike : Addr
  both : Addr
  thn : Addr
  meter : Addr
  drawer : Addr
  long : Addr
inductive Tr where
  | mkr (a : Addr)
  | st (a : Addr) (t : Tr)
  | two (a : Addr) (t u : Tr)
def Tr.ad : Tr → Addr
  | .mkr a => a
  | .st a _ => a
  | .two a _ _ => a
def Tr.ads : Tr → List Addr
  | .mkr a => [a]
  | .st a t => a :: t.ads
  | .two a t u => a :: (t.ads ++ u.ads)
theorem Tr.ad_mem : ∀ t : Tr, t.ad ∈ t.ads
  | .mkr _ => List.mem_cons_self
  | .st _ _ => List.mem_cons_self
  | .two _ _ _ => List.mem_cons_self
def Tr.dj : Tr → Prop
  | .mkr _ => True
  | .st a t => a ∉ t.ads ∧ t.dj
  | .two a t u => a ∉ t.ads ∧ a ∉ u.ads ∧ (∀ b, b ∈ t.ads → b ∉ u.ads) ∧ t.dj ∧ u.dj
def Kd.cls (J : Cls') : Kd → Addr
  | .add _ => J.reckon
  | .times _ => J.reckon
  | .keep _ _ => J.keep
  | .drop _ => J.drop
  | .take _ => J.take
  | .each _ => J.each
  | .until _ => J.until'
  | .unlike => J.unlike
def Nd.cls (J : Cls') : Nd → Addr
  | .mkr (.count _ _) _ => J.count
  | .mkr (.row _) _ => J.row
  | .st k _ _ => k.cls J
  | .both _ _ _ => J.both
  | .thn _ _ _ => J.thn
def optV : Option Int → V
  | none => .non
  | some n => .int n
def Kd.flds (me : Addr) : Kd → Ow → List (Str × V) → Prop
  | .add n, _, fs => fs = ([("factor", .int 1), ("term", .int n)] : List (Str × V))
  | .times n, _, fs => fs = ([("factor", .int n), ("term", .int 0)] : List (Str × V))
  | .keep r w, _, fs => fs = ([("rest", .int r), ("wheel", .int w)] : List (Str × V))
  | .drop k, o, fs => ∃ l : Int, fs = ([("left", .int l)] : List (Str × V)) ∧ (o.over = false → 0 ≤ l ∧ ((l = 0 ∧ k ≤ o.left) ∨ l = k - o.left))
  | .take k, o, fs => ∃ l : Int, fs = ([("left", .int l)] : List (Str × V)) ∧ (o.over = false → l = k - o.told)
  | .each k, o, fs => ∃ (l : Int) (v : V), fs = ([("many", .int k), ("left", .int l), ("number", v)] : List (Str × V)) ∧ (o.over = false → l = o.left ∧ (0 < o.left → v = .int (o.last.getD 0)))
  | .until n, _, fs => fs = ([("n", .int n), ("meter", .ref me)] : List (Str × V))
  | .unlike, o, fs => ∃ v, fs = ([("last", v)] : List (Str × V)) ∧ (o.over = false → v = optV o.last)
/-- an object of class C, with these fields behind the two that all stages have -/
def ObAt (H : Hp) (a C : Addr) (ah : Addr) (e : Bool) (fs : List (Str × V)) : Prop := ∃ dx, H a = some (.ins C dx (("ahead", .ref ah) :: ("ended", .bl e) :: fs))
def MkrAt (J : Cls') (H : Hp) (me : Addr) (off : Nat) : Mkr → Nat → Addr → Prop
  | .count b s, g, a => ∃ dx, H a = some (.ins J.count dx [("number", .int (b + g * s)), ("step", .int s), ("meter", .ref me), ("place", .int off)])
  | .row ns, g, a => ∃ dx p, H a = some (.ins J.row dx [("numbers", .ref p), ("at", .int g), ("meter", .ref me), ("place", .int off)]) ∧ H p = some (.tup (ns.map .int))
def NdAt (J : Cls') (H : Hp) (me : Addr) : Nat → Nd → Tr → Prop
  | off, .mkr m g, .mkr a => MkrAt J H me off m g a
  | off, .st k o c, .st a t => (∃ fs, ObAt H a (k.cls J) t.ad o.over fs ∧ k.flds me o fs) ∧ NdAt J H me off c t
  | off, .both o c d, .two a t u => ObAt H a J.both t.ad o.over [("other", .ref u.ad), ("meter", .ref me)] ∧ NdAt J H me off c t ∧ NdAt J H me (off + c.gv.length) d u
  | off, .thn o c d, .two a t u => ObAt H a J.thn t.ad o.over [("other", .ref u.ad)] ∧ NdAt J H me off c t ∧ NdAt J H me (off + c.gv.length) d u
  | _, _, _ => False
section
variable {J : Cls'} {H H' : Hp} {me cs lo a : Addr} {S : List Addr} {off : Nat}
theorem ObAt.fr {C ah : Addr} {e : Bool} {fs : List (Str × V)} (h : ObAt H a C ah e fs) (f : Fr S H H') (n : a ∉ S) : ObAt H' a C ah e fs := let ⟨dx, e⟩ := h; ⟨dx, f.at e n⟩
theorem NdAt.fr (f : Fr S H H') : ∀ {off : Nat} {x : Nd} {t : Tr}, NdAt J H me off x t → (∀ b, b ∈ t.ads → b ∉ S) → NdAt J H' me off x t
  | off, .mkr (.count b s) g, .mkr a, h, n => let ⟨dx, e⟩ := h; ⟨dx, f.at e (n a List.mem_cons_self)⟩
  | off, .mkr (.row ns) g, .mkr a, h, n => let ⟨dx, p, e, q⟩ := h; ⟨dx, p, f.at e (n a List.mem_cons_self), f.tp q⟩
  | off, .st k o c, .st a t, h, n => by
    obtain ⟨⟨fs, q, z⟩, r⟩ := h
    exact ⟨⟨fs, q.fr f (n a List.mem_cons_self), z⟩, NdAt.fr f r fun b hb => n b (List.mem_cons_of_mem _ hb)⟩
  | off, .both o c d, .two a t u, h, n => by
    obtain ⟨q, r1, r2⟩ := h
    exact ⟨q.fr f (n a List.mem_cons_self), NdAt.fr f r1 fun b hb => n b (List.mem_cons_of_mem _ (List.mem_append_left _ hb)), NdAt.fr f r2 fun b hb => n b (List.mem_cons_of_mem _ (List.mem_append_right _ hb))⟩
  | off, .thn o c d, .two a t u, h, n => by
    obtain ⟨q, r1, r2⟩ := h
    exact ⟨q.fr f (n a List.mem_cons_self), NdAt.fr f r1 fun b hb => n b (List.mem_cons_of_mem _ (List.mem_append_left _ hb)), NdAt.fr f r2 fun b hb => n b (List.mem_cons_of_mem _ (List.mem_append_right _ hb))⟩
  | _, .mkr (.count _ _) _, .st _ _, h, _ => h.elim
  | _, .mkr (.row _) _, .st _ _, h, _ => h.elim
  | _, .mkr (.count _ _) _, .two _ _ _, h, _ => h.elim
  | _, .mkr (.row _) _, .two _ _ _, h, _ => h.elim
  | _, .st _ _ _, .mkr _, h, _ => h.elim
  | _, .st _ _ _, .two _ _ _, h, _ => h.elim
  | _, .both _ _ _, .mkr _, h, _ => h.elim
  | _, .both _ _ _, .st _ _, h, _ => h.elim
  | _, .thn _ _ _, .mkr _, h, _ => h.elim
  | _, .thn _ _ _, .st _ _, h, _ => h.elim
/-- the classes that draw -/
def DrawC (J : Cls') (C : Addr) : Prop := C = J.count ∨ C = J.row ∨ C = J.reckon ∨ C = J.keep ∨ C = J.drop ∨ C = J.take ∨ C = J.each ∨ C = J.until' ∨ C = J.unlike ∨ C = J.both ∨ C = J.thn
theorem Kd.flds_draw {k : Kd} {o : Ow} {fs : List (Str × V)} (h : k.flds me o fs) : fs.lookup ("draw" : Str) = none ∧ fs.lookup ("work" : Str) = none ∧ fs.length ≤ 3 := by
  cases k with
  | add _ => subst h; exact ⟨rfl, rfl, Nat.le_of_ble_eq_true rfl⟩
  | times _ => subst h; exact ⟨rfl, rfl, Nat.le_of_ble_eq_true rfl⟩
  | keep _ _ => subst h; exact ⟨rfl, rfl, Nat.le_of_ble_eq_true rfl⟩
  | drop _ => obtain ⟨l, rfl, _⟩ := h; exact ⟨rfl, rfl, Nat.le_of_ble_eq_true rfl⟩
  | take _ => obtain ⟨l, rfl, _⟩ := h; exact ⟨rfl, rfl, Nat.le_of_ble_eq_true rfl⟩
  | each _ => obtain ⟨l, v, rfl, _⟩ := h; exact ⟨rfl, rfl, by show 3 ≤ 3; omega⟩
  | «until» _ => subst h; exact ⟨rfl, rfl, Nat.le_of_ble_eq_true rfl⟩
  | unlike => obtain ⟨l, rfl, _⟩ := h; exact ⟨rfl, rfl, Nat.le_of_ble_eq_true rfl⟩
theorem Nd.cls_draw (J : Cls') : ∀ x : Nd, DrawC J (x.cls J)
  | .mkr (.count _ _) _ => .inl rfl
  | .mkr (.row _) _ => .inr (.inl rfl)
  | .st (.add _) _ _ => .inr (.inr (.inl rfl))
  | .st (.times _) _ _ => .inr (.inr (.inl rfl))
  | .st (.keep _ _) _ _ => .inr (.inr (.inr (.inl rfl)))
  | .st (.drop _) _ _ => .inr (.inr (.inr (.inr (.inl rfl))))
  | .st (.take _) _ _ => .inr (.inr (.inr (.inr (.inr (.inl rfl)))))
  | .st (.each _) _ _ => .inr (.inr (.inr (.inr (.inr (.inr (.inl rfl))))))
  | .st (.until _) _ _ => .inr (.inr (.inr (.inr (.inr (.inr (.inr (.inl rfl)))))))
  | .st .unlike _ _ => .inr (.inr (.inr (.inr (.inr (.inr (.inr (.inr (.inl rfl))))))))
  | .both _ _ _ => .inr (.inr (.inr (.inr (.inr (.inr (.inr (.inr (.inr (.inl rfl)))))))))
  | .thn _ _ _ => .inr (.inr (.inr (.inr (.inr (.inr (.inr (.inr (.inr (.inr rfl)))))))))
theorem lookup_tail {x : Str} {ah : Addr} {e : Bool} {fs : List (Str × V)} (h : fs.lookup x = none) (h1 : (x == "ahead") = false) (h2 : (x == "ended") = false) : ((("ahead" : Str), V.ref ah) :: (("ended" : Str), V.bl e) :: fs).lookup x = none := by
  rw [List.lookup_cons, h1, List.lookup_cons, h2]; exact h
theorem NdAt.obj : ∀ {off : Nat} {x : Nd} {t : Tr}, NdAt J H me off x t → ∃ dx fs, H t.ad = some (.ins (x.cls J) dx fs) ∧ fs.lookup ("draw" : Str) = none
  | off, .mkr (.count b s) g, .mkr a, h => let ⟨dx, e⟩ := h; ⟨dx, _, e, rfl⟩
  | off, .mkr (.row ns) g, .mkr a, h => let ⟨dx, p, e, q⟩ := h; ⟨dx, _, e, rfl⟩
  | off, .st k o c, .st a t, h => by
    obtain ⟨⟨fs, ⟨dx, e⟩, z⟩, r⟩ := h
    exact ⟨dx, _, e, lookup_tail (Kd.flds_draw z).1 (by decide) (by decide)⟩
  | off, .both o c d, .two a t u, h => by
    obtain ⟨⟨dx, e⟩, r1, r2⟩ := h
    exact ⟨dx, _, e, rfl⟩
  | off, .thn o c d, .two a t u, h => by
    obtain ⟨⟨dx, e⟩, r1, r2⟩ := h
    exact ⟨dx, _, e, rfl⟩
  | _, .mkr (.count _ _) _, .st _ _, h => h.elim
  | _, .mkr (.row _) _, .st _ _, h => h.elim
  | _, .mkr (.count _ _) _, .two _ _ _, h => h.elim
  | _, .mkr (.row _) _, .two _ _ _, h => h.elim
  | _, .st _ _ _, .mkr _, h => h.elim
  | _, .st _ _ _, .two _ _ _, h => h.elim
  | _, .both _ _ _, .mkr _, h => h.elim
  | _, .both _ _ _, .st _ _, h => h.elim
  | _, .thn _ _ _, .mkr _, h => h.elim
  | _, .thn _ _ _, .st _ _, h => h.elim
/-- the meter -/
def MetAt (J : Cls') (H : Hp) (me cs lo : Addr) (m : Mt) (gs : List Int) : Prop :=
  (∃ dx, H me = some (.ins J.meter dx [("counts", .ref cs), ("lost", .ref lo), ("left", .int (200 - m.book))])) ∧ H cs = some (.lst (gs.map .int)) ∧ H lo = some (.lst (m.lost.map .int))
theorem MetAt.fr {m : Mt} {gs : List Int} (h : MetAt J H me cs lo m gs) (f : Fr S H H') (n : ∀ b, b ∈ [me, cs, lo] → b ∉ S) : MetAt J H' me cs lo m gs := by
  obtain ⟨⟨dx, e⟩, h1, h2⟩ := h
  exact ⟨⟨dx, f.at e (n _ (by simp))⟩, f.at h1 (n _ (by simp)), f.at h2 (n _ (by simp))⟩
structure Sep (me cs lo : Addr) (t : Tr) : Prop where
  dj : t.dj
  hme : me ∉ t.ads
  hcs : cs ∉ t.ads
  hlo : lo ∉ t.ads
  n1 : me ≠ cs
  n2 : me ≠ lo
  n3 : cs ≠ lo
def Nd.dep : Nd → Nat
  | .mkr _ _ => 0
  | .st _ _ c => c.dep + 1
  | .both _ c d => max c.dep d.dep + 1
  | .thn _ c d => max c.dep d.dep + 1
def Ow.al (o : Ow) : Nat := if o.over = true then 0 else 1
def Nd.alive : Nd → Nat
  | .mkr _ _ => 0
  | .st _ o c => o.al + c.alive
  | .both o c d => o.al + c.alive + d.alive
  | .thn o c d => o.al + c.alive + d.alive
end
/-! ### numbers undone are few -/
theorem al_fin {o : Ow} : (o.fin .fin).al = 0 := rfl
theorem al_same {o o' : Ow} (h : o'.over = o.over) : o'.al = o.al := by unfold Ow.al; rw [h]
theorem al_one {o : Ow} (h : ¬ o.over = true) : o.al = 1 := if_neg h
theorem fin_al (o : Ow) (r : Rs) : (o.fin r).al ≤ o.al := by
  cases r with
  | fin => exact Nat.zero_le _
  | _ => exact Nat.le_refl _
theorem ahead_over {k : Kd} {o o' : Ow} {r : Rs} (h : ahead k o = some (r, o')) : o'.over = o.over := by
  cases k with
  | take k =>
    simp only [ahead] at h
    split at h <;> cases h
    rfl
  | each k =>
    simp only [ahead] at h
    split at h <;> cases h
    rfl
  | _ => cases h
theorem pass_over {k : Kd} {o : Ow} {n : Int} : (∀ o', pass k o n = .again o' → o'.over = o.over) ∧ ∀ v o', pass k o n = .tell v o' → o'.over = o.over := by
  refine ⟨fun o' h => ?_, fun v o' h => ?_⟩
  all_goals
    cases k <;> simp only [pass] at h
  all_goals first
    | (cases h; rfl)
    | cases h
    | (split at h <;> cases h <;> rfl)
    | (split at h <;> cases h)
theorem draw_lost : ∀ (f : Nat) (x : Nd) (m : Mt) (r : Rs) (x' : Nd) (m' : Mt), draw f x m = some (r, x', m') → m'.lost.length + x'.alive ≤ m.lost.length + x.alive ∧ x'.dep = x.dep
  | 0, _, _, _, _, _, h => by simp only [draw] at h; cases h
  | f + 1, .mkr (.row ns) g, m, r, x', m', h => by
    simp only [draw] at h
    split at h
    · cases h; exact ⟨Nat.le_refl _, rfl⟩
    · split at h <;> (cases h; exact ⟨Nat.le_refl _, rfl⟩)
  | f + 1, .mkr (.count b s) g, m, r, x', m', h => by
    simp only [draw] at h
    split at h <;> (cases h; exact ⟨Nat.le_refl _, rfl⟩)
  | f + 1, .st k o c, m, r, x', m', h => by
    rw [draw_st] at h
    split at h
    · cases h; exact ⟨Nat.le_refl _, rfl⟩
    · rename_i ho
      split at h
      · rename_i r0 o' ha
        cases h
        refine ⟨?_, rfl⟩
        have := fin_al o' r
        have := al_same (ahead_over ha)
        show _ + ((o'.fin r).al + c.alive) ≤ _ + (o.al + c.alive)
        omega
      · rename_i ha
        split at h
        · cases h
        · rename_i n c' m1 hd
          obtain ⟨F1, F2⟩ := draw_lost f c m _ c' m1 hd
          split at h
          · rename_i o' hp
            obtain ⟨G1, G2⟩ := draw_lost f (.st k o' c') m1 r x' m' h
            have := al_same (pass_over.1 o' hp)
            refine ⟨?_, by rw [G2]; show c'.dep + 1 = c.dep + 1; rw [F2]⟩
            have G1' : m'.lost.length + x'.alive ≤ m1.lost.length + (o'.al + c'.alive) := G1
            show _ ≤ _ + (o.al + c.alive)
            omega
          · rename_i v o' hp
            cases h
            have := al_same (pass_over.2 v o' hp)
            refine ⟨?_, by show c'.dep + 1 = c.dep + 1; rw [F2]⟩
            show _ + (o'.al + c'.alive) ≤ _ + (o.al + c.alive)
            omega
          · cases h
            refine ⟨?_, by show c'.dep + 1 = c.dep + 1; rw [F2]⟩
            show (m1.lost ++ [n]).length + (0 + c'.alive) ≤ _ + (o.al + c.alive)
            have := al_one ho
            simp only [List.length_append, List.length_singleton]
            omega
        · rename_i c' m1 hd
          cases h
          obtain ⟨F1, F2⟩ := draw_lost f c m _ c' _ hd
          refine ⟨?_, by show c'.dep + 1 = c.dep + 1; rw [F2]⟩
          show _ + (0 + c'.alive) ≤ _ + (o.al + c.alive)
          omega
        · rename_i c' m1 hd
          cases h
          obtain ⟨F1, F2⟩ := draw_lost f c m _ c' _ hd
          refine ⟨?_, by show c'.dep + 1 = c.dep + 1; rw [F2]⟩
          show _ + (o.al + c'.alive) ≤ _ + (o.al + c.alive)
          omega
  | f + 1, .both o c d, m, r, x', m', h => by
    rw [draw_both] at h
    split at h
    · cases h; exact ⟨Nat.le_refl _, rfl⟩
    · rename_i ho
      have := al_one ho
      split at h
      · cases h
      · rename_i a c' m1 h1
        obtain ⟨F1, F2⟩ := draw_lost f c m _ c' m1 h1
        split at h
        · cases h
        · rename_i b d' m2 h2
          obtain ⟨G1, G2⟩ := draw_lost f d m1 _ d' m2 h2
          cases h
          refine ⟨?_, by show max c'.dep d'.dep + 1 = max c.dep d.dep + 1; rw [F2, G2]⟩
          show _ + (o.al + c'.alive + d'.alive) ≤ _ + (o.al + c.alive + d.alive)
          omega
        · rename_i d' m2 h2
          obtain ⟨G1, G2⟩ := draw_lost f d m1 _ d' m2 h2
          cases h
          refine ⟨?_, by show max c'.dep d'.dep + 1 = max c.dep d.dep + 1; rw [F2, G2]⟩
          show (m2.lost ++ [a]).length + (0 + c'.alive + d'.alive) ≤ _ + (o.al + c.alive + d.alive)
          simp only [List.length_append, List.length_singleton]
          omega
        · rename_i d' m2 h2
          obtain ⟨G1, G2⟩ := draw_lost f d m1 _ d' _ h2
          cases h
          refine ⟨?_, by show max c'.dep d'.dep + 1 = max c.dep d.dep + 1; rw [F2, G2]⟩
          show _ + (o.al + c'.alive + d'.alive) ≤ _ + (o.al + c.alive + d.alive)
          omega
      · rename_i c' m1 h1
        obtain ⟨F1, F2⟩ := draw_lost f c m _ c' _ h1
        cases h
        refine ⟨?_, by show max c'.dep d.dep + 1 = max c.dep d.dep + 1; rw [F2]⟩
        show _ + (0 + c'.alive + d.alive) ≤ _ + (o.al + c.alive + d.alive)
        omega
      · rename_i c' m1 h1
        obtain ⟨F1, F2⟩ := draw_lost f c m _ c' _ h1
        cases h
        refine ⟨?_, by show max c'.dep d.dep + 1 = max c.dep d.dep + 1; rw [F2]⟩
        show _ + (o.al + c'.alive + d.alive) ≤ _ + (o.al + c.alive + d.alive)
        omega
  | f + 1, .thn o c d, m, r, x', m', h => by
    rw [draw_thn] at h
    split at h
    · cases h; exact ⟨Nat.le_refl _, rfl⟩
    · rename_i ho
      split at h
      · split at h
        · cases h
        · rename_i r0 d' m1 h1
          obtain ⟨G1, G2⟩ := draw_lost f d m _ d' m1 h1
          cases h
          refine ⟨?_, by show max c.dep d'.dep + 1 = max c.dep d.dep + 1; rw [G2]⟩
          have := fin_al o r
          show _ + ((o.fin r).al + c.alive + d'.alive) ≤ _ + (o.al + c.alive + d.alive)
          omega
      · split at h
        · cases h
        · rename_i c' m1 h1
          obtain ⟨F1, F2⟩ := draw_lost f c m _ c' m1 h1
          split at h
          · cases h
          · rename_i r0 d' m2 h2
            obtain ⟨G1, G2⟩ := draw_lost f d m1 _ d' _ h2
            cases h
            refine ⟨?_, by show max c'.dep d'.dep + 1 = max c.dep d.dep + 1; rw [F2, G2]⟩
            have := fin_al { o with left := 1 } r
            have e : Ow.al { o with left := 1 } = o.al := rfl
            show _ + ((Ow.fin { o with left := 1 } r).al + c'.alive + d'.alive) ≤ _ + (o.al + c.alive + d.alive)
            omega
        · rename_i n c' m1 h1
          obtain ⟨F1, F2⟩ := draw_lost f c m _ c' _ h1
          cases h
          refine ⟨?_, by show max c'.dep d.dep + 1 = max c.dep d.dep + 1; rw [F2]⟩
          show _ + (o.al + c'.alive + d.alive) ≤ _ + (o.al + c.alive + d.alive)
          omega
        · rename_i c' m1 h1
          obtain ⟨F1, F2⟩ := draw_lost f c m _ c' _ h1
          cases h
          refine ⟨?_, by show max c'.dep d.dep + 1 = max c.dep d.dep + 1; rw [F2]⟩
          show _ + (o.al + c'.alive + d.alive) ≤ _ + (o.al + c.alive + d.alive)
          omega
end Dc

set_option Elab.async false
set_option linter.all false
set_option maxRecDepth 100000
set_option maxHeartbeats 2000000
namespace Dc
open PySem PySem.Spec PyProof.Rows L2
local macro_rules | `(tactic| walk_at "ne") => `(tactic| first | assumption | (refine Ne.symm ?_; assumption) | exact ne_of (by assumption) (by assumption) (by intro q; cases q) | exact ne_of_none (by assumption) (by assumption) | exact Ne.symm (ne_of_none (by assumption) (by assumption)))
local macro_rules | `(tactic| walk_at "hp") => `(tactic| first | assumption | exact upd_same | (refine upd_keep ?_ (by assumption); walk_at "hp") | (refine upd_other ?_ ?_; · walk_at "ne"; · walk_at "hp"))
local macro_rules | `(tactic| walk_at "hl") => `(tactic| first | assumption | exact SqL.of (by walk_at "hp"))
local macro_rules | `(tactic| walk_at "ht") => `(tactic| first | assumption | exact SqT.of (by walk_at "hp"))
local macro_rules | `(tactic| walk_at "rd1") => `(tactic| first
  | ((with_reducible apply rd_var); exact rfl)
  | ((with_reducible apply rd_eq); exact rfl) | ((with_reducible apply rd_ne); exact rfl)
  | with_reducible first
  | refine iteT ?_ | refine iteF ?_ | refine rd_nF ?_ | refine rd_nT ?_ | refine rd_yes ?_ | refine rd_c ?_ | refine rd_op ?_ | refine rd_un ?_ | refine rd_test ?_ | refine rd_B ?_ | refine rd_bl ?_ | refine rd_seq ?_ | refine rd_next ?_ | refine rd_ifs ?_ | refine rd_asg ?_ | refine rd_name ?_ | refine rd_ret ?_ | refine rd_drop ?_
  | refine rd_call ?_ | refine rd_cons ?_ | refine rd_nil ?_ | refine rd_cb ?_ | refine rd_I0 ?_ | refine rd_U ?_ | refine rd_gsub ?_ | refine rd_lst ?_ | refine rd_tup ?_ | refine rd_if ?_ | refine rd_not ?_ | refine rd_rng1 ?_ | refine rd_itup ?_ | refine rd_ilst ?_ | refine rd_bm ?_ | refine rd_bm0 ?_ | refine rd_andV ?_ | refine rd_orV ?_ | refine rd_notV ?_)
local macro_rules | `(tactic| walk_at "rd") => `(tactic| repeat walk_at "rd1")
local macro_rules | `(tactic| walk_at "ci") => `(tactic| first | assumption | (show (0 : Int) < _; first | decide | omega) | exact ⟨by decide, by decide⟩ | exact Or.inr ⟨by decide, by decide⟩ | exact Or.inl ⟨by decide, by decide⟩ | exact ⟨by decide, by decide, by decide⟩ | exact Or.inl ⟨by omega, by omega⟩ | exact Or.inr ⟨by omega, by omega⟩)
local macro_rules | `(tactic| walk_at "ix") => `(tactic| first
  | ((with_reducible apply rd_ixL); (walk_at "hl"); exact rfl)
  | ((with_reducible apply rd_ixT); (walk_at "ht"); exact rfl)
  | ((with_reducible apply rd_lenL); (walk_at "hl"))
  | ((with_reducible apply rd_lenT); (walk_at "ht"))
  | ((with_reducible apply rd_tupOf); (walk_at "hl"))
  | ((with_reducible apply rd_listOf); (walk_at "hl"))
  | (with_reducible refine rd_min2 ?_)
  | ((with_reducible apply rd_I); (walk_at "ci"))
  | ((with_reducible apply rd_setL); (walk_at "hp"); exact rfl))
local macro_rules | `(tactic| walk_at "gs") => `(tactic| repeat first | walk_at "rd1" | walk_at "ix")
local macro_rules | `(tactic| walk_at "go") => `(tactic| repeat first | walk_at "rd1" | walk_at "ix" | with_reducible refine rd_and ?_ | with_reducible refine rd_or ?_)
local macro_rules | `(tactic| walk_at "fo") => `(tactic| (with_reducible refine rd_for ?_))
local macro_rules | `(tactic| walk_at "pm") => `(tactic| repeat first
  | with_reducible first | refine rd_pcons ?_ | refine rd_pstr ?_ | refine rd_pcap ?_ | refine rd_pwild ?_ | refine rd_pnil ?_ | refine rd_por ?_ | refine rd_pno ?_
  | ((with_reducible refine rd_eq rfl ?_); refine ⟨_, rfl, ?_⟩; first | refine rd_T rfl ?_ | refine rd_F (by decide) ?_)
  | dsimp only [List.nil_append, List.singleton_append, List.cons_append, setAll])
local macro_rules | `(tactic| walk_at "pc") => `(tactic| (refine rd_case ?_); (first | (refine rd_phit (SqT.of (by assumption)) rfl ?_) | (refine rd_pmiss (SqT.of (by assumption)) (by simp) ?_)); (walk_at "pm"))

/-! ### defs that may let an exception out -/
theorem okX {P : Program} {w : World} {K : PySem.W.Frag} {mg : Str → Option Value} {base : Heap} {x qual : Str} {params : Arguments} {body : List Stmt} {scope : Scope} {f : Addr} {fd : FuncData}
    {N ps : List Str} {k : Nat} {sp : Sp} (F : FunD K x qual params body scope [] [] f fd) (S : FnScope N ps scope) (len : ∀ vs H Q E, sp vs H Q E → vs.length = ps.length)
    (hbody : ∀ (cdv : Value) (A : Around) (outer : List Env) (s : Shared) (H : Hp) (vs : List V) (Q : VK) (E : XK), Room k (A.deeper (envOfC qual scope s.heap.objs.size f cdv)) → sp vs H Q E →
      Passes (L2.CX P w) (cxOf (L2.CX P w) P w K mg base N qual scope f cdv A outer s H E) E →
      Takes (cxOf (L2.CX P w) P w K mg base N qual scope f cdv A outer s H E) (fun cls d _ H => E cls d H) →
      PassesOwn (model P w) (A.deeper (envOfC qual scope s.heap.objs.size f cdv)) (envOfC qual scope s.heap.objs.size f cdv) (cxOf (L2.CX P w) P w K mg base N qual scope f cdv A outer s H E).xe →
      ∃ t, PSs (cxOf (L2.CX P w) P w K mg base N qual scope f cdv A outer s H E) body t ∧ t { nx := fun _ H' => Q .non H', rt := Q } (start N vs) H) : FnOk P w K mg base (L2.CX P w) (k + 1) f fd ps sp := by
  refine F.ok S len fun cdv A outer s H vs Q E hr h => ?_
  have tk : Takes (cxOf (L2.CX P w) P w K mg base N qual scope f cdv A outer s H E) (fun cls d _ H => E cls d H) := takes_of rfl rfl rfl rfl
  exact hbody cdv A outer s H vs Q E hr h (passes_call tk fun _ _ _ _ h => h) tk (passes_of rfl)
/-- behind a callee that lets nothing out -/
theorem passX0 {X : Cx} : Passes (L2.CX X.prog X.w) X E0 := fun _ _ _ _ _ _ _ ⟨_, _, _, _, _, _, _, _, _, _, _, _, h⟩ => h.elim
theorem rd_augS {to ti te : TE} {tget : V → V → Hp → VK → Prop} {tip : TIp} {tset : TSet} {D : Ends} {σ : L2.St} {H : Hp} (h : to σ H fun o H1 => ti σ H1 fun i H2 => tget o i H2 fun x H3 => te σ H3 fun y H4 => tip x y H4 fun z H5 => tset o i z H5 fun H6 => D.nx σ H6) : tAugS to ti te tget tip tset D σ H := h
/-! ### the meter -/
structure LongF (K : PySem.W.Frag) (mg : Str → Option Value) (J : Cls') : Prop where
  ex : PySem.W.excIn K J.long [Value.type "Exception", Value.type "BaseException", Value.type "object"] "Exception.__new__" = true
  g : mg "LongDraw" = some (.ref J.long)
  kp : PySem.W.keepIn K (.ref J.long) = true
  sub : PySem.W.subIn K (.ref J.long) (.type "BaseException") = some true
  ty : PySem.W.typeIn K (.ref J.long) = some (.type "type")
structure MetF (K : PySem.W.Frag) (J : Cls') : Prop where
  c : Cls K J.meter
  counts : NoAttr K J.meter "counts"
  lost : NoAttr K J.meter "lost"
  left : NoAttr K J.meter "left"
def spNote (J : Cls') : Sp := fun vs H Q E => ∃ (me cs lo : Addr) (m : Mt) (pre post : List Int) (g : Int), vs = [.ref me, .int (pre.length : Nat)] ∧ MetAt J H me cs lo m (pre ++ g :: post) ∧ me ≠ cs ∧ me ≠ lo ∧ cs ≠ lo ∧ m.book ≤ 200 ∧
  (m.book = 200 → E (.ref J.long) none H) ∧ (m.book ≠ 200 → ∀ H', MetAt J H' me cs lo { m with book := m.book + 1 } (pre ++ (g + 1) :: post) → Fr [me, cs] H H' → Q .non H')
def spUndone (J : Cls') : Sp := fun vs H Q _ => ∃ (me cs lo : Addr) (m : Mt) (gs : List Int) (n : Int), vs = [.ref me, .int n] ∧ MetAt J H me cs lo m gs ∧ me ≠ cs ∧ me ≠ lo ∧ cs ≠ lo ∧ m.lost.length ≤ 1000 ∧
  ∀ H', MetAt J H' me cs lo { m with lost := m.lost ++ [n] } gs → Fr [lo] H H' → Q .non H'
def spEnter (J : Cls') : Sp := fun vs H Q _ => ∃ (me cs lo : Addr) (m : Mt) (gs : List Int), vs = [.ref me] ∧ MetAt J H me cs lo m gs ∧ me ≠ cs ∧ me ≠ lo ∧ cs ≠ lo ∧ gs.length ≤ 1000 ∧
  ∀ H', MetAt J H' me cs lo m (gs ++ [0]) → Fr [cs] H H' → Q (.int gs.length) H'
def spBegin (J : Cls') : Sp := fun vs H Q _ => ∃ (me cs lo : Addr) (m : Mt) (gs : List Int), vs = [.ref me] ∧ MetAt J H me cs lo m gs ∧ me ≠ cs ∧ me ≠ lo ∧ cs ≠ lo ∧
  ∀ H', MetAt J H' me cs lo { m with book := 0 } gs → Fr [me] H H' → Q .non H'
section
variable {P : Program} {w : World} {K : PySem.W.Frag} {mg : Str → Option Value} {base : Heap} {J : Cls'} {f : Addr} {fd : FuncData}
theorem sc_Meter_note_drawn : FnScope ["self", "place"] ["self", "place"] (defScope s_Meter_note_drawn) := ⟨rfl, rfl, rfl, by decide +kernel, rfl, by decide +kernel, by decide +kernel⟩
theorem ok_Meter_note_drawn (T : Txt K mg) (M : MetF K J) (L : LongF K mg J) (F : FnP K "note_drawn" "Meter.note_drawn" s_Meter_note_drawn f fd) :
    FnOk P w K mg base (L2.CX P w) 1 f fd ["self", "place"] (spNote J) := by
  refine okX F sc_Meter_note_drawn (fun vs H Q E h => ?_) (fun cdv A outer s H vs Q E hr h px tk po => ?_)
  · obtain ⟨me, cs, lo, m, pre, post, g, rfl, _⟩ := h
    rfl
  · obtain ⟨me, cs, lo, m, pre, post, g, rfl, ⟨⟨dx, e0⟩, e1, e2⟩, n1, n2, n3, hb, kE, kN⟩ := h
    refine ⟨_, (pss_cons (ps_if (pt_cmpR op_eq (pe_fld (pv 0) rfl) pe_int (nomark _))
    (pss_one (ps_raise rfl tk (pmk_own PySem.F.excBase_Exception L.ex L.g L.kp (raises_own L.sub L.ty) (by rfl)))) pss_nil)
  (pss_cons (ps_fldaug (pv 0) pe_int in_sub)
  (pss_one (ps_augS (pe_fld (pv 0) rfl) (pv 1) (get_listK K) pe_int ip_add set_list)))), ?_⟩
    try dsimp only [cxOf, Cx.nox, Cx.wish]
    refine rd_at (σ' := [some (.ref me), some (.int (pre.length : Nat))]) rfl ?_
    walk_at "go"
    refine rd_sf rfl e0 M.c M.left rfl ?_
    walk_at "go"
    refine rd_dec (fun c => ?_) (fun c => ?_)
    · exact kE (by have := V.int.inj c; omega)
    · have c' : m.book ≠ 200 := fun z => c (by rw [z]; rfl)
      walk_at "go"
      refine rd_faug rfl e0 M.c M.left rfl ?_
      walk_at "go"
      refine ⟨_, _, rfl, rfl, dx, _, e0, by show 3 < 1000; omega, ?_⟩
      have e0' : upd H me (.ins J.meter dx [("counts", .ref cs), ("lost", .ref lo), ("left", .int (200 - m.book - 1))]) me = some (.ins J.meter dx [("counts", .ref cs), ("lost", .ref lo), ("left", .int (200 - m.book - 1))]) := upd_same
      dsimp only
      refine rd_augS ?_
      refine rd_sf rfl e0' M.c M.counts rfl ?_
      walk_at "go"
      have e1' := upd_other (u := .ins J.meter dx [("counts", .ref cs), ("lost", .ref lo), ("left", .int (200 - m.book - 1))]) n1.symm e1
      refine ⟨cs, _, pre.length, .int g, rfl, rfl, SqL.of e1', by simp, ?_⟩
      walk_at "go"
      refine ⟨_, _, rfl, rfl, ?_⟩
      refine rd_setL e1' (j := pre.length) ?_ ?_
      · have l : ((pre ++ g :: post).map V.int).length = pre.length + (post.length + 1) := by simp
        show ixN _ ((pre.length : Nat) : Int) = some pre.length
        unfold ixN
        simp [l]
        omega
      · refine kN c' _ ⟨⟨dx, ?_⟩, ?_, ?_⟩ ?_
        · rw [upd_other n1 upd_same]
          show some (HO.ins J.meter dx [("counts", .ref cs), ("lost", .ref lo), ("left", .int (200 - m.book - 1))]) = some (HO.ins J.meter dx [("counts", .ref cs), ("lost", .ref lo), ("left", .int (200 - (m.book + 1 : Nat)))])
          rw [show (200 : Int) - m.book - 1 = 200 - (m.book + 1 : Nat) by omega]
        · rw [upd_same]
          simp
        · exact upd_other n3.symm (upd_other n2.symm e2)
        · exact ((Fr.put (S := [me, cs]) (by simp) (nt e0)).putN (.inl (by simp)) (nt e1'))
theorem sc_Meter_note_undone : FnScope ["self", "number"] ["self", "number"] (defScope s_Meter_note_undone) := ⟨rfl, rfl, rfl, by decide +kernel, rfl, by decide +kernel, by decide +kernel⟩
theorem ok_Meter_note_undone (T : Txt K mg) (M : MetF K J) (F : FnP K "note_undone" "Meter.note_undone" s_Meter_note_undone f fd) :
    FnOk P w K mg base CX0 1 f fd ["self", "number"] (spUndone J) := by
  refine ok0 F sc_Meter_note_undone (fun vs H Q E h => ?_) (fun cdv A outer s H vs Q E hr h => ?_)
  · obtain ⟨me, cs, lo, m, gs, n, rfl, _⟩ := h
    rfl
  · obtain ⟨me, cs, lo, m, gs, n, rfl, ⟨⟨dx, e0⟩, e1, e2⟩, n1, n2, n3, hb, k⟩ := h
    refine ⟨_, (pss_one (ps_expr (pe_bm PySem.F.plainAttrs_list PySem.F.slot_list_append PySem.F.type_list_append mt_append (pe_fld (pv 0) rfl) (pa_cons (pv 1) pa_nil)))), ?_⟩
    try dsimp only [cxOf, Cx.nox, Cx.wish]
    refine rd_at (σ' := [some (.ref me), some (.int n)]) rfl ?_
    walk_at "go"
    refine rd_sf rfl e0 M.c M.lost rfl ?_
    refine ⟨tyl e2, ?_⟩
    walk_at "go"
    refine rd_append e2 ?_ ?_
    · rw [List.length_map]; exact Nat.lt_of_le_of_lt hb (by decide)
    · walk_at "go"
      refine k _ ⟨⟨dx, upd_other n2 e0⟩, upd_other n3 e1, ?_⟩ (Fr.put (S := [lo]) (by simp) (nt e2))
      rw [upd_same, List.map_append]
      rfl
theorem sc_Meter_enter : FnScope ["self"] ["self"] (defScope s_Meter_enter) := ⟨rfl, rfl, rfl, by decide +kernel, rfl, by decide +kernel, by decide +kernel⟩
theorem ok_Meter_enter (T : Txt K mg) (M : MetF K J) (F : FnP K "enter" "Meter.enter" s_Meter_enter f fd) :
    FnOk P w K mg base CX0 1 f fd ["self"] (spEnter J) := by
  refine ok0 F sc_Meter_enter (fun vs H Q E h => ?_) (fun cdv A outer s H vs Q E hr h => ?_)
  · obtain ⟨me, cs, lo, m, gs, rfl, _⟩ := h
    rfl
  · obtain ⟨me, cs, lo, m, gs, rfl, ⟨⟨dx, e0⟩, e1, e2⟩, n1, n2, n3, hb, k⟩ := h
    refine ⟨_, (pss_cons (ps_expr (pe_bm PySem.F.plainAttrs_list PySem.F.slot_list_append PySem.F.type_list_append mt_append (pe_fld (pv 0) rfl) (pa_cons pe_int pa_nil)))
  (pss_one (ps_ret (pe_op op_sub (pe_callB (call_len1K K) (by rfl) T.free_len (by decide +kernel) (pa_cons (pe_fld (pv 0) rfl) pa_nil)) pe_int)))), ?_⟩
    try dsimp only [cxOf, Cx.nox, Cx.wish]
    refine rd_at (σ' := [some (.ref me)]) rfl ?_
    walk_at "go"
    refine rd_sf rfl e0 M.c M.counts rfl ?_
    refine ⟨tyl e1, ?_⟩
    walk_at "go"
    refine rd_append e1 ?_ ?_
    · rw [List.length_map]; exact Nat.lt_of_le_of_lt hb (by decide)
    · walk_at "go"
      refine rd_sf rfl (upd_other n1 e0) M.c M.counts rfl ?_
      walk_at "go"
      have e : ((gs.map V.int ++ [V.int 0]).length : Int) - 1 = gs.length := by simp
      rw [e]
      refine k _ ⟨⟨dx, upd_other n1 e0⟩, ?_, upd_other n3.symm e2⟩ (Fr.put (S := [cs]) (by simp) (nt e1))
      rw [upd_same, List.map_append]
      rfl
theorem sc_Meter_begin_next : FnScope ["self"] ["self"] (defScope s_Meter_begin_next) := ⟨rfl, rfl, rfl, by decide +kernel, rfl, by decide +kernel, by decide +kernel⟩
theorem ok_Meter_begin_next (T : Txt K mg) (M : MetF K J) (F : FnP K "begin_next" "Meter.begin_next" s_Meter_begin_next f fd) :
    FnOk P w K mg base CX0 1 f fd ["self"] (spBegin J) := by
  refine ok0 F sc_Meter_begin_next (fun vs H Q E h => ?_) (fun cdv A outer s H vs Q E hr h => ?_)
  · obtain ⟨me, cs, lo, m, gs, rfl, _⟩ := h
    rfl
  · obtain ⟨me, cs, lo, m, gs, rfl, ⟨⟨dx, e0⟩, e1, e2⟩, n1, n2, n3, k⟩ := h
    refine ⟨_, (pss_one (ps_fld (pv 0) (pe_cint T.c_DRAWN_AT_MOST) rfl)), ?_⟩
    try dsimp only [cxOf, Cx.nox, Cx.wish]
    refine rd_at (σ' := [some (.ref me)]) rfl ?_
    walk_at "go"
    refine rd_fset ?_
    walk_at "go"
    refine rd_st e0 M.c M.left (by show 3 < 1000; omega) ?_
    exact k _ ⟨⟨dx, upd_same⟩, upd_other n1.symm e1, upd_other n2.symm e2⟩ (Fr.put (S := [me]) (by simp) (nt e0))
end
end Dc

set_option Elab.async false
set_option linter.all false
set_option maxRecDepth 100000
set_option maxHeartbeats 2000000
namespace Dc
open PySem PySem.Spec PyProof.Rows L2
local macro_rules | `(tactic| walk_at "ne") => `(tactic| first | assumption | (refine Ne.symm ?_; assumption) | exact ne_of (by assumption) (by assumption) (by intro q; cases q) | exact ne_of_none (by assumption) (by assumption) | exact Ne.symm (ne_of_none (by assumption) (by assumption)))
local macro_rules | `(tactic| walk_at "hp") => `(tactic| first | assumption | exact upd_same | (refine upd_keep ?_ (by assumption); walk_at "hp") | (refine upd_other ?_ ?_; · walk_at "ne"; · walk_at "hp"))
local macro_rules | `(tactic| walk_at "hl") => `(tactic| first | assumption | exact SqL.of (by walk_at "hp"))
local macro_rules | `(tactic| walk_at "ht") => `(tactic| first | assumption | exact SqT.of (by walk_at "hp"))
local macro_rules | `(tactic| walk_at "rd1") => `(tactic| first
  | ((with_reducible apply rd_var); exact rfl)
  | ((with_reducible apply rd_eq); exact rfl) | ((with_reducible apply rd_ne); exact rfl)
  | with_reducible first
  | refine iteT ?_ | refine iteF ?_ | refine rd_nF ?_ | refine rd_nT ?_ | refine rd_yes ?_ | refine rd_c ?_ | refine rd_op ?_ | refine rd_un ?_ | refine rd_test ?_ | refine rd_B ?_ | refine rd_bl ?_ | refine rd_seq ?_ | refine rd_next ?_ | refine rd_ifs ?_ | refine rd_asg ?_ | refine rd_name ?_ | refine rd_ret ?_ | refine rd_drop ?_
  | refine rd_call ?_ | refine rd_cons ?_ | refine rd_nil ?_ | refine rd_cb ?_ | refine rd_I0 ?_ | refine rd_U ?_ | refine rd_gsub ?_ | refine rd_lst ?_ | refine rd_tup ?_ | refine rd_if ?_ | refine rd_not ?_ | refine rd_rng1 ?_ | refine rd_itup ?_ | refine rd_ilst ?_ | refine rd_bm ?_ | refine rd_bm0 ?_ | refine rd_andV ?_ | refine rd_orV ?_ | refine rd_notV ?_)
local macro_rules | `(tactic| walk_at "rd") => `(tactic| repeat walk_at "rd1")
local macro_rules | `(tactic| walk_at "ci") => `(tactic| first | assumption | (show (0 : Int) < _; first | decide | omega) | exact ⟨by decide, by decide⟩ | exact Or.inr ⟨by decide, by decide⟩ | exact Or.inl ⟨by decide, by decide⟩ | exact ⟨by decide, by decide, by decide⟩ | exact Or.inl ⟨by omega, by omega⟩ | exact Or.inr ⟨by omega, by omega⟩)
local macro_rules | `(tactic| walk_at "ix") => `(tactic| first
  | ((with_reducible apply rd_ixL); (walk_at "hl"); exact rfl)
  | ((with_reducible apply rd_ixT); (walk_at "ht"); exact rfl)
  | ((with_reducible apply rd_lenL); (walk_at "hl"))
  | ((with_reducible apply rd_lenT); (walk_at "ht"))
  | ((with_reducible apply rd_tupOf); (walk_at "hl"))
  | ((with_reducible apply rd_listOf); (walk_at "hl"))
  | (with_reducible refine rd_min2 ?_)
  | ((with_reducible apply rd_I); (walk_at "ci"))
  | ((with_reducible apply rd_setL); (walk_at "hp"); exact rfl))
local macro_rules | `(tactic| walk_at "gs") => `(tactic| repeat first | walk_at "rd1" | walk_at "ix")
local macro_rules | `(tactic| walk_at "go") => `(tactic| repeat first | walk_at "rd1" | walk_at "ix" | with_reducible refine rd_and ?_ | with_reducible refine rd_or ?_)
local macro_rules | `(tactic| walk_at "fo") => `(tactic| (with_reducible refine rd_for ?_))
local macro_rules | `(tactic| walk_at "pm") => `(tactic| repeat first
  | with_reducible first | refine rd_pcons ?_ | refine rd_pstr ?_ | refine rd_pcap ?_ | refine rd_pwild ?_ | refine rd_pnil ?_ | refine rd_por ?_ | refine rd_pno ?_
  | ((with_reducible refine rd_eq rfl ?_); refine ⟨_, rfl, ?_⟩; first | refine rd_T rfl ?_ | refine rd_F (by decide) ?_)
  | dsimp only [List.nil_append, List.singleton_append, List.cons_append, setAll])
local macro_rules | `(tactic| walk_at "pc") => `(tactic| (refine rd_case ?_); (first | (refine rd_phit (SqT.of (by assumption)) rfl ?_) | (refine rd_pmiss (SqT.of (by assumption)) (by simp) ?_)); (walk_at "pm"))

/-! ### drawing, the program's -/
structure NodeF (K : PySem.W.Frag) (J : Cls') : Prop where
  c : ∀ C, DrawC J C → Cls K C
  na_number : ∀ C, DrawC J C → NoAttr K C "number"
  na_step : ∀ C, DrawC J C → NoAttr K C "step"
  na_meter : ∀ C, DrawC J C → NoAttr K C "meter"
  na_place : ∀ C, DrawC J C → NoAttr K C "place"
  na_numbers : ∀ C, DrawC J C → NoAttr K C "numbers"
  na_at : ∀ C, DrawC J C → NoAttr K C "at"
  na_ahead : ∀ C, DrawC J C → NoAttr K C "ahead"
  na_ended : ∀ C, DrawC J C → NoAttr K C "ended"
  na_factor : ∀ C, DrawC J C → NoAttr K C "factor"
  na_term : ∀ C, DrawC J C → NoAttr K C "term"
  na_rest : ∀ C, DrawC J C → NoAttr K C "rest"
  na_wheel : ∀ C, DrawC J C → NoAttr K C "wheel"
  na_left : ∀ C, DrawC J C → NoAttr K C "left"
  na_many : ∀ C, DrawC J C → NoAttr K C "many"
  na_n : ∀ C, DrawC J C → NoAttr K C "n"
  na_last : ∀ C, DrawC J C → NoAttr K C "last"
  na_other : ∀ C, DrawC J C → NoAttr K C "other"
/-- what is asked of a draw -/
structure Ask (J : Cls') (d : Nat) (me cs lo : Addr) (pre post : List Int) (t : Tr) (x : Nd) (m : Mt) (r : Rs) (x' : Nd) (m' : Mt) (H : Hp) (Q : VK) (E : XK) : Prop where
  sep : Sep me cs lo t
  nd : NdAt J H me pre.length x t
  mt : MetAt J H me cs lo m (pre ++ x.gv ++ post)
  inv : x.inv
  dep : x.dep ≤ d
  bk : m.book ≤ 200
  al : m.lost.length + x.alive ≤ 1000
  num : ∀ n, r = .num n → ∀ H', NdAt J H' me pre.length x' t → MetAt J H' me cs lo m' (pre ++ x'.gv ++ post) → Fr (t.ads ++ [me, cs, lo]) H H' → Q (.int n) H'
  fin : r = .fin → ∀ H', NdAt J H' me pre.length x' t → MetAt J H' me cs lo m' (pre ++ x'.gv ++ post) → Fr (t.ads ++ [me, cs, lo]) H H' → Q .non H'
  long : r = .long → ∀ H', MetAt J H' me cs lo m' (pre ++ x'.gv ++ post) → Fr (t.ads ++ [me, cs, lo]) H H' → E (.ref J.long) none H'
def spDraw (J : Cls') (d : Nat) (C : Addr) : Sp := fun vs H Q E => ∃ me cs lo pre post t x m f r x' m', vs = [.ref t.ad] ∧ x.cls J = C ∧ draw f x m = some (r, x', m') ∧ Ask J d me cs lo pre post t x m r x' m' H Q E
theorem spDraw.len {J : Cls'} {d : Nat} {C : Addr} {vs : List V} {H : Hp} {Q : VK} {E : XK} (h : spDraw J d C vs H Q E) : vs.length = 1 := by
  obtain ⟨_, _, _, _, _, _, _, _, _, _, _, _, rfl, _⟩ := h
  rfl
/-- the classes are set apart -/
structure Apart (J : Cls') : Prop where
  nd : [J.count, J.row, J.reckon, J.keep, J.drop, J.take, J.each, J.until', J.unlike, J.both, J.thn].Nodup
section
variable {P : Program} {w : World} {K : PySem.W.Frag} {mg : Str → Option Value} {base : Heap} {J : Cls'} {f : Addr} {fd : FuncData}
theorem Ask.n1 {d : Nat} {me cs lo : Addr} {pre post : List Int} {t : Tr} {x : Nd} {m : Mt} {r : Rs} {x' : Nd} {m' : Mt} {H : Hp} {Q : VK} {E : XK} (A : Ask J d me cs lo pre post t x m r x' m' H Q E) : True := trivial
theorem cls_count {J : Cls'} (D : Apart J) {x : Nd} (h : x.cls J = J.count) : ∃ b s g, x = .mkr (.count b s) g := by
  have nd := D.nd
  simp only [List.nodup_cons, List.mem_cons, List.not_mem_nil, or_false, not_or] at nd
  obtain ⟨⟨a1, a2, a3, a4, a5, a6, a7, a8, a9, a10⟩, _⟩ := nd
  cases x with
  | mkr k g =>
    cases k with
    | count b s => exact ⟨b, s, g, rfl⟩
    | row ns => exact absurd h.symm a1
  | st k o c => cases k <;> exact absurd h.symm (by assumption)
  | both o c d => exact absurd h.symm a9
  | thn o c d => exact absurd h.symm a10
theorem cls_row {J : Cls'} (D : Apart J) {x : Nd} (h : x.cls J = J.row) : ∃ ns g, x = .mkr (.row ns) g := by
  have nd := D.nd
  simp only [List.nodup_cons, List.mem_cons, List.not_mem_nil, or_false, not_or] at nd
  obtain ⟨⟨a1, _⟩, ⟨a2, a3, a4, a5, a6, a7, a8, a9, a10⟩, _⟩ := nd
  cases x with
  | mkr k g =>
    cases k with
    | count b s => exact absurd h a1
    | row ns => exact ⟨ns, g, rfl⟩
  | st k o c => cases k <;> exact absurd h.symm (by assumption)
  | both o c d => exact absurd h.symm a9
  | thn o c d => exact absurd h.symm a10
theorem Tr.of_mkr {me : Addr} {off : Nat} {m : Mkr} {g : Nat} {t : Tr} {H : Hp} (h : NdAt J H me off (.mkr m g) t) : ∃ a, t = .mkr a := by
  cases t with
  | mkr a => exact ⟨a, rfl⟩
  | st a t => cases m <;> exact h.elim
  | two a t u => cases m <;> exact h.elim
theorem draw_count_long {f g : Nat} {b s : Int} {m m' : Mt} {r : Rs} {x' : Nd} (hb : m.book = 200) (h : draw f (.mkr (.count b s) g) m = some (r, x', m')) : r = .long ∧ x' = .mkr (.count b s) g ∧ m' = m := by
  cases f with
  | zero => simp only [draw] at h; cases h
  | succ f => simp only [draw, if_pos hb] at h; cases h; exact ⟨rfl, rfl, rfl⟩
theorem draw_count_num {f g : Nat} {b s : Int} {m m' : Mt} {r : Rs} {x' : Nd} (hb : m.book ≠ 200) (h : draw f (.mkr (.count b s) g) m = some (r, x', m')) : r = .num (b + g * s) ∧ x' = .mkr (.count b s) (g + 1) ∧ m' = { m with book := m.book + 1 } := by
  cases f with
  | zero => simp only [draw] at h; cases h
  | succ f => simp only [draw, if_neg hb] at h; cases h; exact ⟨rfl, rfl, rfl⟩
theorem draw_row_fin {f g : Nat} {ns : List Int} {m m' : Mt} {r : Rs} {x' : Nd} (hl : ns.length ≤ g) (h : draw f (.mkr (.row ns) g) m = some (r, x', m')) : r = .fin ∧ x' = .mkr (.row ns) g ∧ m' = m := by
  cases f with
  | zero => simp only [draw] at h; cases h
  | succ f => simp only [draw, if_pos hl] at h; cases h; exact ⟨rfl, rfl, rfl⟩
theorem draw_row_long {f g : Nat} {ns : List Int} {m m' : Mt} {r : Rs} {x' : Nd} (hl : ¬ ns.length ≤ g) (hb : m.book = 200) (h : draw f (.mkr (.row ns) g) m = some (r, x', m')) : r = .long ∧ x' = .mkr (.row ns) g ∧ m' = m := by
  cases f with
  | zero => simp only [draw] at h; cases h
  | succ f => simp only [draw, if_neg hl, if_pos hb] at h; cases h; exact ⟨rfl, rfl, rfl⟩
theorem draw_row_num {f g : Nat} {ns : List Int} {m m' : Mt} {r : Rs} {x' : Nd} (hl : ¬ ns.length ≤ g) (hb : m.book ≠ 200) (h : draw f (.mkr (.row ns) g) m = some (r, x', m')) : r = .num (ns.getD g 0) ∧ x' = .mkr (.row ns) (g + 1) ∧ m' = { m with book := m.book + 1 } := by
  cases f with
  | zero => simp only [draw] at h; cases h
  | succ f => simp only [draw, if_neg hl, if_neg hb] at h; cases h; exact ⟨rfl, rfl, rfl⟩
theorem in2 {L : List Addr} {me cs lo b : Addr} (h : b ∈ [me, cs]) : b ∈ L ++ [me, cs, lo] := by
  simp only [List.mem_cons, List.not_mem_nil, or_false] at h
  rcases h with rfl | rfl <;> simp
theorem in1 {L : List Addr} {me cs lo b : Addr} (h : b ∈ [lo]) : b ∈ L ++ [me, cs, lo] := by
  simp only [List.mem_singleton] at h
  subst h; simp
theorem MetAt.put {H : Hp} {me cs lo a : Addr} {m : Mt} {gs : List Int} {o : HO} (h : MetAt J H me cs lo m gs) (n : a ≠ me ∧ a ≠ cs ∧ a ≠ lo) : MetAt J (upd H a o) me cs lo m gs := by
  obtain ⟨⟨dx, e⟩, h1, h2⟩ := h
  exact ⟨⟨dx, upd_other n.1.symm e⟩, upd_other n.2.1.symm h1, upd_other n.2.2.symm h2⟩
theorem sep_mkr {me cs lo a : Addr} (S : Sep me cs lo (.mkr a)) : a ≠ me ∧ a ≠ cs ∧ a ≠ lo := by
  have h1 := S.hme
  have h2 := S.hcs
  have h3 := S.hlo
  simp only [Tr.ads, List.mem_singleton] at h1 h2 h3
  exact ⟨fun z => h1 z.symm, fun z => h2 z.symm, fun z => h3 z.symm⟩
theorem sc_Count_draw : FnScope ["self", "number"] ["self"] (defScope s_Count_draw) := ⟨rfl, rfl, rfl, by decide +kernel, rfl, by decide +kernel, by decide +kernel⟩
theorem ok_Count_draw {d : Nat} (D : Apart J) (T : Txt K mg) (N : NodeF K J) (F : FnP K "draw" "Count.draw" s_Count_draw f fd)
    (G_note : CalM P w K mg base (L2.CX P w) 1 J.meter "note_drawn" ["self", "place"] (spNote J)) :
    FnOk P w K mg base (L2.CX P w) 2 f fd ["self"] (spDraw J d J.count) := by
  refine okX F sc_Count_draw (fun vs H Q E h => h.len) (fun cdv A outer s H vs Q E hr h px tk po => ?_)
  · obtain ⟨me, cs, lo, pre, post, t, x, m, f, r, x', m', rfl, hC, hd, G⟩ := h
    obtain ⟨b, st, g, rfl⟩ := cls_count D hC
    obtain ⟨a, rfl⟩ := Tr.of_mkr G.nd
    obtain ⟨dx, e⟩ := G.nd
    have ca := N.c _ (.inl rfl)
    obtain ⟨⟨dm, e0⟩, e1, e2⟩ := id G.mt
    refine ⟨_, (pss_cons (ps_expr (pe_cm (pe_fld (pv 0) rfl) G_note (hr.mono (by omega)) px (pa_cons (pe_fld (pv 0) rfl) pa_nil)))
  (pss_cons (ps_set (i := 1) sc_Count_draw.nd rfl (Or.inl rfl) (pe_fld (pv 0) rfl))
  (pss_cons (ps_fld (pv 0) (pe_op op_add (pv 1) (pe_fld (pv 0) rfl)) rfl)
  (pss_one (ps_ret (pv 1)))))), ?_⟩
    try dsimp only [cxOf, Cx.nox, Cx.wish]
    refine rd_at (σ' := [some (.ref a), none]) rfl ?_
    walk_at "go"
    refine rd_meth ?_
    refine rd_sf rfl e ca (N.na_meter _ (.inl rfl)) rfl ?_
    refine rd_m e0 rfl ?_
    walk_at "go"
    refine rd_sf rfl e ca (N.na_place _ (.inl rfl)) rfl ?_
    walk_at "go"
    refine ⟨me, cs, lo, m, pre, post, g, rfl, by simpa [Nd.gv] using G.mt, G.sep.n1, G.sep.n2, G.sep.n3, G.bk, fun hb => ?_, fun hb H' M' f' => ?_⟩
    · obtain ⟨rfl, rfl, rfl⟩ := draw_count_long hb hd
      exact G.long rfl _ G.mt (Fr.refl _ _)
    · obtain ⟨rfl, rfl, rfl⟩ := draw_count_num hb hd
      have na : a ∉ [me, cs] := by
        have h1 := G.sep.hme
        have h2 := G.sep.hcs
        simp only [Tr.ads, List.mem_singleton] at h1 h2
        simp only [List.mem_cons, List.not_mem_nil, or_false, not_or]
        exact ⟨fun z => h1 z.symm, fun z => h2 z.symm⟩
      have e' := f'.at e na
      walk_at "go"
      refine rd_sf rfl e' ca (N.na_number _ (.inl rfl)) rfl ?_
      walk_at "go"
      refine rd_fset ?_
      walk_at "go"
      refine rd_sf rfl e' ca (N.na_step _ (.inl rfl)) rfl ?_
      walk_at "go"
      refine rd_st e' ca (N.na_number _ (.inl rfl)) (by show 4 < 1000; omega) ?_
      walk_at "go"
      have es : b + (g : Int) * st + st = b + ((g + 1 : Nat) : Int) * st := by rw [Int.natCast_add, Int.add_mul]; omega
      exact G.num _ rfl _ ⟨dx, by rw [upd_same, ← es]; rfl⟩ (by have := M'.put (o := .ins J.count dx (putF "number" (.int (b + g * st + st)) [("number", .int (b + g * st)), ("step", .int st), ("meter", .ref me), ("place", .int pre.length)])) (sep_mkr G.sep); simpa [Nd.gv] using this) ((f'.mono fun b hb => in2 hb).putN (.inl (by simp [Tr.ads])) (nt e'))
theorem sc_Row_draw : FnScope ["self", "number"] ["self"] (defScope s_Row_draw) := ⟨rfl, rfl, rfl, by decide +kernel, rfl, by decide +kernel, by decide +kernel⟩
theorem ok_Row_draw {d : Nat} (D : Apart J) (T : Txt K mg) (N : NodeF K J) (F : FnP K "draw" "Row.draw" s_Row_draw f fd)
    (G_note : CalM P w K mg base (L2.CX P w) 1 J.meter "note_drawn" ["self", "place"] (spNote J)) :
    FnOk P w K mg base (L2.CX P w) 2 f fd ["self"] (spDraw J d J.row) := by
  refine okX F sc_Row_draw (fun vs H Q E h => h.len) (fun cdv A outer s H vs Q E hr h px tk po => ?_)
  · obtain ⟨me, cs, lo, pre, post, t, x, m, f, r, x', m', rfl, hC, hd, G⟩ := h
    obtain ⟨ns, g, rfl⟩ := cls_row D hC
    obtain ⟨a, rfl⟩ := Tr.of_mkr G.nd
    obtain ⟨dx, p, e, ep⟩ := G.nd
    have hC : DrawC J J.row := .inr (.inl rfl)
    have ca := N.c _ hC
    obtain ⟨⟨dm, e0⟩, e1, e2⟩ := id G.mt
    have gi : g ≤ ns.length := G.inv.1
    refine ⟨_, (pss_cons (ps_if (pt_cmpR op_eq (pe_fld (pv 0) rfl) (pe_callB (call_len1K K) (by rfl) T.free_len (by decide +kernel) (pa_cons (pe_fld (pv 0) rfl) pa_nil)) (nomark _))
    (pss_one (ps_ret pe_non)) pss_nil)
  (pss_cons (ps_expr (pe_cm (pe_fld (pv 0) rfl) G_note (hr.mono (by omega)) px (pa_cons (pe_fld (pv 0) rfl) pa_nil)))
  (pss_cons (ps_set (i := 1) sc_Row_draw.nd rfl (Or.inl rfl) (pe_ix (ix_tupK K) (pe_fld (pv 0) rfl) (pe_fld (pv 0) rfl) (fun _ _ => rfl)))
  (pss_cons (ps_fldaug (pv 0) pe_int in_add)
  (pss_one (ps_ret (pv 1))))))), ?_⟩
    try dsimp only [cxOf, Cx.nox, Cx.wish]
    refine rd_at (σ' := [some (.ref a), none]) rfl ?_
    walk_at "go"
    refine rd_sf rfl e ca (N.na_at _ hC) rfl ?_
    walk_at "go"
    refine rd_sf rfl e ca (N.na_numbers _ hC) rfl ?_
    walk_at "go"
    rw [List.length_map]
    refine rd_dec (fun c => ?_) (fun c => ?_)
    · have hl : ns.length ≤ g := by have := V.int.inj c; omega
      obtain ⟨rfl, rfl, rfl⟩ := draw_row_fin hl hd
      walk_at "go"
      exact G.fin rfl _ G.nd G.mt (Fr.refl _ _)
    · have hl : ¬ ns.length ≤ g := fun z => c (by rw [show g = ns.length by omega])
      walk_at "go"
      refine rd_meth ?_
      refine rd_sf rfl e ca (N.na_meter _ hC) rfl ?_
      refine rd_m e0 rfl ?_
      walk_at "go"
      refine rd_sf rfl e ca (N.na_place _ hC) rfl ?_
      walk_at "go"
      refine ⟨me, cs, lo, m, pre, post, g, rfl, by simpa [Nd.gv] using G.mt, G.sep.n1, G.sep.n2, G.sep.n3, G.bk, fun hb => ?_, fun hb H' M' f' => ?_⟩
      · obtain ⟨rfl, rfl, rfl⟩ := draw_row_long hl hb hd
        exact G.long rfl _ G.mt (Fr.refl _ _)
      · obtain ⟨rfl, rfl, rfl⟩ := draw_row_num hl hb hd
        have na := sep_mkr G.sep
        have e' := f'.at e (show a ∉ [me, cs] by simp [na.1, na.2.1])
        walk_at "go"
        refine rd_sf rfl e' ca (N.na_numbers _ hC) rfl ?_
        walk_at "go"
        refine rd_sf rfl e' ca (N.na_at _ hC) rfl ?_
        have hv : (ns.map V.int)[g]? = some (.int (ns.getD g 0)) := by
          rw [List.getElem?_map, List.getElem?_eq_getElem (by omega), List.getD_eq_getElem?_getD, List.getElem?_eq_getElem (by omega)]
          rfl
        refine rd_ixT (SqT.of (f'.tp ep)) (atI_nat hv) ?_
        walk_at "go"
        refine rd_faug rfl e' ca (N.na_at _ hC) rfl ?_
        walk_at "go"
        refine ⟨_, _, rfl, rfl, dx, _, e', by show 4 < 1000; omega, ?_⟩
        walk_at "go"
        refine G.num _ rfl _ ⟨dx, p, by rw [upd_same]; rfl, upd_other (fun z => ?_) (f'.tp ep)⟩ (by have := M'.put (o := .ins J.row dx (putF "at" (.int (g + 1)) [("numbers", .ref p), ("at", .int g), ("meter", .ref me), ("place", .int pre.length)])) na; simpa [Nd.gv] using this) ((f'.mono fun b hb => in2 hb).putN (.inl (by simp [Tr.ads])) (nt e'))
        rw [z] at ep
        rw [e] at ep
        cases ep
end
end Dc

set_option Elab.async false
set_option linter.all false
set_option maxRecDepth 100000
set_option maxHeartbeats 2000000
namespace Dc
open PySem PySem.Spec PyProof.Rows L2
local macro_rules | `(tactic| walk_at "ne") => `(tactic| first | assumption | (refine Ne.symm ?_; assumption) | exact ne_of (by assumption) (by assumption) (by intro q; cases q) | exact ne_of_none (by assumption) (by assumption) | exact Ne.symm (ne_of_none (by assumption) (by assumption)))
local macro_rules | `(tactic| walk_at "hp") => `(tactic| first | assumption | exact upd_same | (refine upd_keep ?_ (by assumption); walk_at "hp") | (refine upd_other ?_ ?_; · walk_at "ne"; · walk_at "hp"))
local macro_rules | `(tactic| walk_at "hl") => `(tactic| first | assumption | exact SqL.of (by walk_at "hp"))
local macro_rules | `(tactic| walk_at "ht") => `(tactic| first | assumption | exact SqT.of (by walk_at "hp"))
local macro_rules | `(tactic| walk_at "rd1") => `(tactic| first
  | ((with_reducible apply rd_var); exact rfl)
  | ((with_reducible apply rd_eq); exact rfl) | ((with_reducible apply rd_ne); exact rfl)
  | with_reducible first
  | refine iteT ?_ | refine iteF ?_ | refine rd_nF ?_ | refine rd_nT ?_ | refine rd_yes ?_ | refine rd_c ?_ | refine rd_op ?_ | refine rd_un ?_ | refine rd_test ?_ | refine rd_B ?_ | refine rd_bl ?_ | refine rd_seq ?_ | refine rd_next ?_ | refine rd_ifs ?_ | refine rd_asg ?_ | refine rd_name ?_ | refine rd_ret ?_ | refine rd_drop ?_
  | refine rd_call ?_ | refine rd_cons ?_ | refine rd_nil ?_ | refine rd_cb ?_ | refine rd_I0 ?_ | refine rd_U ?_ | refine rd_gsub ?_ | refine rd_lst ?_ | refine rd_tup ?_ | refine rd_if ?_ | refine rd_not ?_ | refine rd_rng1 ?_ | refine rd_itup ?_ | refine rd_ilst ?_ | refine rd_bm ?_ | refine rd_bm0 ?_ | refine rd_andV ?_ | refine rd_orV ?_ | refine rd_notV ?_)
local macro_rules | `(tactic| walk_at "rd") => `(tactic| repeat walk_at "rd1")
local macro_rules | `(tactic| walk_at "ci") => `(tactic| first | assumption | (show (0 : Int) < _; first | decide | omega) | exact ⟨by decide, by decide⟩ | exact Or.inr ⟨by decide, by decide⟩ | exact Or.inl ⟨by decide, by decide⟩ | exact ⟨by decide, by decide, by decide⟩ | exact Or.inl ⟨by omega, by omega⟩ | exact Or.inr ⟨by omega, by omega⟩)
local macro_rules | `(tactic| walk_at "ix") => `(tactic| first
  | ((with_reducible apply rd_ixL); (walk_at "hl"); exact rfl)
  | ((with_reducible apply rd_ixT); (walk_at "ht"); exact rfl)
  | ((with_reducible apply rd_lenL); (walk_at "hl"))
  | ((with_reducible apply rd_lenT); (walk_at "ht"))
  | ((with_reducible apply rd_tupOf); (walk_at "hl"))
  | ((with_reducible apply rd_listOf); (walk_at "hl"))
  | (with_reducible refine rd_min2 ?_)
  | ((with_reducible apply rd_I); (walk_at "ci"))
  | ((with_reducible apply rd_setL); (walk_at "hp"); exact rfl))
local macro_rules | `(tactic| walk_at "gs") => `(tactic| repeat first | walk_at "rd1" | walk_at "ix")
local macro_rules | `(tactic| walk_at "go") => `(tactic| repeat first | walk_at "rd1" | walk_at "ix" | with_reducible refine rd_and ?_ | with_reducible refine rd_or ?_)
local macro_rules | `(tactic| walk_at "fo") => `(tactic| (with_reducible refine rd_for ?_))
local macro_rules | `(tactic| walk_at "pm") => `(tactic| repeat first
  | with_reducible first | refine rd_pcons ?_ | refine rd_pstr ?_ | refine rd_pcap ?_ | refine rd_pwild ?_ | refine rd_pnil ?_ | refine rd_por ?_ | refine rd_pno ?_
  | ((with_reducible refine rd_eq rfl ?_); refine ⟨_, rfl, ?_⟩; first | refine rd_T rfl ?_ | refine rd_F (by decide) ?_)
  | dsimp only [List.nil_append, List.singleton_append, List.cons_append, setAll])
local macro_rules | `(tactic| walk_at "pc") => `(tactic| (refine rd_case ?_); (first | (refine rd_phit (SqT.of (by assumption)) rfl ?_) | (refine rd_pmiss (SqT.of (by assumption)) (by simp) ?_)); (walk_at "pm"))

def StageC (J : Cls') (C : Addr) : Prop := C = J.reckon ∨ C = J.keep ∨ C = J.drop ∨ C = J.take ∨ C = J.each ∨ C = J.until' ∨ C = J.unlike ∨ C = J.both ∨ C = J.thn
theorem StageC.draw {J : Cls'} {C : Addr} (h : StageC J C) : DrawC J C := .inr (.inr h)
def Nd.ovr : Nd → Bool
  | .mkr _ _ => false
  | .st _ o _ => o.over
  | .both o _ _ => o.over
  | .thn o _ _ => o.over
/-- not ended yet, or so it seems -/
def NdW (J : Cls') (H : Hp) (me : Addr) : Nat → Nd → Tr → Prop
  | off, .st k o c, .st a t => (∃ fs, ObAt H a (k.cls J) t.ad false fs ∧ k.flds me o fs) ∧ NdAt J H me off c t
  | off, .both _ c d, .two a t u => ObAt H a J.both t.ad false [("other", .ref u.ad), ("meter", .ref me)] ∧ NdAt J H me off c t ∧ NdAt J H me (off + c.gv.length) d u
  | off, .thn _ c d, .two a t u => ObAt H a J.thn t.ad false [("other", .ref u.ad)] ∧ NdAt J H me off c t ∧ NdAt J H me (off + c.gv.length) d u
  | _, _, _ => False
structure AskW (J : Cls') (d : Nat) (me cs lo : Addr) (pre post : List Int) (t : Tr) (x : Nd) (m : Mt) (r : Rs) (x' : Nd) (m' : Mt) (H : Hp) (Q : VK) (E : XK) : Prop where
  sep : Sep me cs lo t
  nd : NdW J H me pre.length x t
  ov : x.ovr = false
  mt : MetAt J H me cs lo m (pre ++ x.gv ++ post)
  inv : x.inv
  dep : x.dep ≤ d
  bk : m.book ≤ 200
  al : m.lost.length + x.alive ≤ 1000
  num : ∀ n, r = .num n → ∀ H', NdW J H' me pre.length x' t → MetAt J H' me cs lo m' (pre ++ x'.gv ++ post) → Fr (t.ads ++ [me, cs, lo]) H H' → Q (.int n) H'
  fin : r = .fin → ∀ H', NdW J H' me pre.length x' t → MetAt J H' me cs lo m' (pre ++ x'.gv ++ post) → Fr (t.ads ++ [me, cs, lo]) H H' → Q .non H'
  long : r = .long → ∀ H', MetAt J H' me cs lo m' (pre ++ x'.gv ++ post) → Fr (t.ads ++ [me, cs, lo]) H H' → E (.ref J.long) none H'
def spWork (J : Cls') (d : Nat) (C : Addr) : Sp := fun vs H Q E => ∃ me cs lo pre post t x m f r x' m', vs = [.ref t.ad] ∧ x.cls J = C ∧ draw f x m = some (r, x', m') ∧ AskW J d me cs lo pre post t x m r x' m' H Q E
theorem spWork.len {J : Cls'} {d : Nat} {C : Addr} {vs : List V} {H : Hp} {Q : VK} {E : XK} (h : spWork J d C vs H Q E) : vs.length = 1 := by
  obtain ⟨_, _, _, _, _, _, _, _, _, _, _, _, rfl, _⟩ := h
  rfl
/-- told a number, so not over -/
theorem draw_num_live : ∀ (f : Nat) (x : Nd) (m : Mt) (n : Int) (x' : Nd) (m' : Mt), draw f x m = some (.num n, x', m') → x'.ovr = false
  | 0, _, _, _, _, _, h => by simp only [draw] at h; cases h
  | f + 1, .mkr (.row ns) g, m, n, x', m', h => by
    simp only [draw] at h
    split at h
    · cases h
    · split at h <;> cases h
      rfl
  | f + 1, .mkr (.count b s) g, m, n, x', m', h => by
    simp only [draw] at h
    split at h <;> cases h
    rfl
  | f + 1, .st k o c, m, n, x', m', h => by
    rw [draw_st] at h
    split at h
    · cases h
    · rename_i ho
      have ho' : o.over = false := by cases q : o.over with | true => exact absurd q ho | false => rfl
      split at h
      · rename_i r0 o' ha
        cases h
        show (o'.fin (.num n)).over = false
        exact (ahead_over ha).trans ho'
      · split at h
        · cases h
        · rename_i v c' m1 hd
          split at h
          · exact draw_num_live f _ _ _ _ _ h
          · rename_i w o' hp
            cases h
            exact (pass_over.2 _ _ hp).trans ho'
          · cases h
        · cases h
        · cases h
  | f + 1, .both o c d, m, n, x', m', h => by
    rw [draw_both] at h
    split at h
    · cases h
    · rename_i ho
      have ho' : o.over = false := by cases q : o.over with | true => exact absurd q ho | false => rfl
      split at h
      · cases h
      · split at h <;> cases h
        exact ho'
      · cases h
      · cases h
  | f + 1, .thn o c d, m, n, x', m', h => by
    rw [draw_thn] at h
    split at h
    · cases h
    · rename_i ho
      have ho' : o.over = false := by cases q : o.over with | true => exact absurd q ho | false => rfl
      split at h
      · split at h <;> cases h
        exact ho'
      · split at h
        · cases h
        · split at h <;> cases h
          exact ho'
        · cases h
          exact ho'
        · cases h
section
variable {P : Program} {w : World} {K : PySem.W.Frag} {mg : Str → Option Value} {base : Heap} {J : Cls'} {f : Addr} {fd : FuncData} {H : Hp} {me cs lo : Addr}
theorem cls_stage (D : Apart J) {x : Nd} (h : StageC J (x.cls J)) : ∀ m g, x ≠ .mkr m g := by
  have nd := D.nd
  simp only [List.nodup_cons, List.mem_cons, List.not_mem_nil, or_false, not_or] at nd
  obtain ⟨⟨a1, a2, a3, a4, a5, a6, a7, a8, a9, a10⟩, ⟨b2, b3, b4, b5, b6, b7, b8, b9, b10⟩, _⟩ := nd
  rintro m g rfl
  cases m with
  | count b s => rcases h with h | h | h | h | h | h | h | h | h <;> exact absurd h (by assumption)
  | row ns => rcases h with h | h | h | h | h | h | h | h | h <;> exact absurd h (by assumption)
/-- ended or not, as it stands -/
theorem NdAt.top {off : Nat} {x : Nd} {t : Tr} (hm : ∀ m g, x ≠ .mkr m g) (h : NdAt J H me off x t) : ∃ dx ah fs, H t.ad = some (.ins (x.cls J) dx (("ahead", .ref ah) :: ("ended", .bl x.ovr) :: fs)) ∧ fs.lookup ("work" : Str) = none ∧ fs.length ≤ 3 := by
  cases x with
  | mkr m g => exact absurd rfl (hm m g)
  | st k o c =>
    cases t with
    | st a t =>
      obtain ⟨⟨fs, ⟨dx, e⟩, z⟩, r⟩ := h
      exact ⟨dx, _, fs, e, (Kd.flds_draw z).2⟩
    | mkr a => exact h.elim
    | two a t u => exact h.elim
  | both o c d =>
    cases t with
    | two a t u =>
      obtain ⟨⟨dx, e⟩, r1, r2⟩ := h
      exact ⟨dx, _, _, e, rfl, by show 2 ≤ 3; omega⟩
    | mkr a => exact h.elim
    | st a t => exact h.elim
  | thn o c d =>
    cases t with
    | two a t u =>
      obtain ⟨⟨dx, e⟩, r1, r2⟩ := h
      exact ⟨dx, _, _, e, rfl, by show 1 ≤ 3; omega⟩
    | mkr a => exact h.elim
    | st a t => exact h.elim
theorem NdAt.toW {off : Nat} {x : Nd} {t : Tr} (hm : ∀ m g, x ≠ .mkr m g) (ho : x.ovr = false) (h : NdAt J H me off x t) : NdW J H me off x t := by
  cases x with
  | mkr m g => exact absurd rfl (hm m g)
  | st k o c =>
    cases t with
    | st a t => rw [show NdAt J H me off (.st k o c) (.st a t) = ((∃ fs, ObAt H a (k.cls J) t.ad o.over fs ∧ k.flds me o fs) ∧ NdAt J H me off c t) from rfl, show o.over = false from ho] at h; exact h
    | mkr a => exact h.elim
    | two a t u => exact h.elim
  | both o c d =>
    cases t with
    | two a t u => rw [show NdAt J H me off (.both o c d) (.two a t u) = (ObAt H a J.both t.ad o.over [("other", .ref u.ad), ("meter", .ref me)] ∧ NdAt J H me off c t ∧ NdAt J H me (off + c.gv.length) d u) from rfl, show o.over = false from ho] at h; exact h
    | mkr a => exact h.elim
    | st a t => exact h.elim
  | thn o c d =>
    cases t with
    | two a t u => rw [show NdAt J H me off (.thn o c d) (.two a t u) = (ObAt H a J.thn t.ad o.over [("other", .ref u.ad)] ∧ NdAt J H me off c t ∧ NdAt J H me (off + c.gv.length) d u) from rfl, show o.over = false from ho] at h; exact h
    | mkr a => exact h.elim
    | st a t => exact h.elim
theorem NdW.at_ {off : Nat} {x : Nd} {t : Tr} (ho : x.ovr = false) (h : NdW J H me off x t) : NdAt J H me off x t := by
  cases x with
  | mkr m g => cases t <;> exact h.elim
  | st k o c =>
    cases t with
    | st a t => show (∃ fs, ObAt H a (k.cls J) t.ad o.over fs ∧ k.flds me o fs) ∧ NdAt J H me off c t; rw [show o.over = false from ho]; exact h
    | mkr a => exact h.elim
    | two a t u => exact h.elim
  | both o c d =>
    cases t with
    | two a t u => show ObAt H a J.both t.ad o.over [("other", .ref u.ad), ("meter", .ref me)] ∧ NdAt J H me off c t ∧ NdAt J H me (off + c.gv.length) d u; rw [show o.over = false from ho]; exact h
    | mkr a => exact h.elim
    | st a t => exact h.elim
  | thn o c d =>
    cases t with
    | two a t u => show ObAt H a J.thn t.ad o.over [("other", .ref u.ad)] ∧ NdAt J H me off c t ∧ NdAt J H me (off + c.gv.length) d u; rw [show o.over = false from ho]; exact h
    | mkr a => exact h.elim
    | st a t => exact h.elim
theorem NdW.top {off : Nat} {x : Nd} {t : Tr} (h : NdW J H me off x t) : ∃ dx ah fs, H t.ad = some (.ins (x.cls J) dx (("ahead", .ref ah) :: ("ended", .bl false) :: fs)) ∧ fs.length ≤ 3 := by
  cases x with
  | mkr m g => cases t <;> exact h.elim
  | st k o c =>
    cases t with
    | st a t =>
      obtain ⟨⟨fs, ⟨dx, e⟩, z⟩, r⟩ := h
      exact ⟨dx, _, fs, e, (Kd.flds_draw z).2.2⟩
    | mkr a => exact h.elim
    | two a t u => exact h.elim
  | both o c d =>
    cases t with
    | two a t u =>
      obtain ⟨⟨dx, e⟩, r1, r2⟩ := h
      exact ⟨dx, _, _, e, by show 2 ≤ 3; omega⟩
    | mkr a => exact h.elim
    | st a t => exact h.elim
  | thn o c d =>
    cases t with
    | two a t u =>
      obtain ⟨⟨dx, e⟩, r1, r2⟩ := h
      exact ⟨dx, _, _, e, by show 1 ≤ 3; omega⟩
    | mkr a => exact h.elim
    | st a t => exact h.elim
/-- self.ended = True -/
theorem NdW.end_ {off : Nat} {x : Nd} {t : Tr} (dj : t.dj) (ho : x.ovr = true) (h : NdW J H me off x t) {dx ah : Addr} {fs : List (Str × V)} (e : H t.ad = some (.ins (x.cls J) dx (("ahead", .ref ah) :: ("ended", .bl false) :: fs))) :
    NdAt J (upd H t.ad (.ins (x.cls J) dx (("ahead", .ref ah) :: ("ended", .bl true) :: fs))) me off x t := by
  cases x with
  | mkr m g => cases t <;> exact h.elim
  | st k o c =>
    cases t with
    | st a t =>
      obtain ⟨⟨fs', ⟨dx', e'⟩, z⟩, r⟩ := h
      have e : H a = some (.ins (k.cls J) dx (("ahead", .ref ah) :: ("ended", .bl false) :: fs)) := e
      rw [e'] at e
      cases e
      refine ⟨⟨fs, ⟨dx, ?_⟩, z⟩, r.fr (Fr.put (S := [a]) (by simp) (nt e')) fun b hb q => ?_⟩
      · show upd H a _ a = _
        rw [upd_same, show o.over = true from ho]; rfl
      · rw [List.mem_singleton] at q
        rw [q] at hb
        exact dj.1 hb
    | mkr a => exact h.elim
    | two a t u => exact h.elim
  | both o c d =>
    cases t with
    | two a t u =>
      obtain ⟨⟨dx', e'⟩, r1, r2⟩ := h
      have e : H a = some (.ins J.both dx (("ahead", .ref ah) :: ("ended", .bl false) :: fs)) := e
      rw [e'] at e
      cases e
      refine ⟨⟨dx, ?_⟩, r1.fr (Fr.put (S := [a]) (by simp) (nt e')) fun b hb q => ?_, r2.fr (Fr.put (S := [a]) (by simp) (nt e')) fun b hb q => ?_⟩
      · show upd H a _ a = _
        rw [upd_same, show o.over = true from ho]; rfl
      · rw [List.mem_singleton] at q
        rw [q] at hb
        exact dj.1 hb
      · rw [List.mem_singleton] at q
        rw [q] at hb
        exact dj.2.1 hb
    | mkr a => exact h.elim
    | st a t => exact h.elim
  | thn o c d =>
    cases t with
    | two a t u =>
      obtain ⟨⟨dx', e'⟩, r1, r2⟩ := h
      have e : H a = some (.ins J.thn dx (("ahead", .ref ah) :: ("ended", .bl false) :: fs)) := e
      rw [e'] at e
      cases e
      refine ⟨⟨dx, ?_⟩, r1.fr (Fr.put (S := [a]) (by simp) (nt e')) fun b hb q => ?_, r2.fr (Fr.put (S := [a]) (by simp) (nt e')) fun b hb q => ?_⟩
      · show upd H a _ a = _
        rw [upd_same, show o.over = true from ho]; rfl
      · rw [List.mem_singleton] at q
        rw [q] at hb
        exact dj.1 hb
      · rw [List.mem_singleton] at q
        rw [q] at hb
        exact dj.2.1 hb
    | mkr a => exact h.elim
    | st a t => exact h.elim
theorem draw_ovr {f : Nat} {x : Nd} {m m' : Mt} {r : Rs} {x' : Nd} (ho : x.ovr = true) (h : draw f x m = some (r, x', m')) : r = .fin ∧ x' = x ∧ m' = m := by
  cases f with
  | zero => simp only [draw] at h; cases h
  | succ f =>
    have he : x.ended := by
      cases x with
      | mkr m g => cases ho
      | st k o c => exact ho
      | both o c d => exact ho
      | thn o c d => exact ho
    rw [ended_draw f m he] at h
    cases h
    exact ⟨rfl, rfl, rfl⟩
theorem ended_ovr {x : Nd} (hm : ∀ m g, x ≠ .mkr m g) (h : x.ended) : x.ovr = true := by
  cases x with
  | mkr m g => exact absurd rfl (hm m g)
  | st k o c => exact h
  | both o c d => exact h
  | thn o c d => exact h
theorem Sep.ad {t : Tr} (S : Sep me cs lo t) : t.ad ≠ me ∧ t.ad ≠ cs ∧ t.ad ≠ lo :=
  ⟨fun z => S.hme (z ▸ t.ad_mem), fun z => S.hcs (z ▸ t.ad_mem), fun z => S.hlo (z ▸ t.ad_mem)⟩
theorem NdW.not_mkr {off : Nat} {x : Nd} {t : Tr} (h : NdW J H me off x t) : ∀ m g, x ≠ .mkr m g := by
  rintro m g rfl
  cases t <;> exact h.elim
theorem draw_cls : ∀ (f : Nat) (x : Nd) (m : Mt) (r : Rs) (x' : Nd) (m' : Mt), draw f x m = some (r, x', m') → x'.cls J = x.cls J
  | 0, _, _, _, _, _, h => by simp only [draw] at h; cases h
  | f + 1, .mkr (.row ns) g, m, r, x', m', h => by
    simp only [draw] at h
    split at h
    · cases h; rfl
    · split at h <;> (cases h; rfl)
  | f + 1, .mkr (.count b s) g, m, r, x', m', h => by
    simp only [draw] at h
    split at h <;> (cases h; rfl)
  | f + 1, .st k o c, m, r, x', m', h => by
    rw [draw_st] at h
    split at h
    · cases h; rfl
    · split at h
      · cases h; rfl
      · split at h
        · cases h
        · split at h
          · have z := draw_cls f _ _ _ _ _ h
            exact z
          · cases h; rfl
          · cases h; rfl
        · cases h; rfl
        · cases h; rfl
  | f + 1, .both o c d, m, r, x', m', h => by
    rw [draw_both] at h
    split at h
    · cases h; rfl
    · split at h
      · cases h
      · split at h <;> cases h <;> rfl
      · cases h; rfl
      · cases h; rfl
  | f + 1, .thn o c d, m, r, x', m', h => by
    rw [draw_thn] at h
    split at h
    · cases h; rfl
    · split at h
      · split at h <;> cases h
        rfl
      · split at h
        · cases h
        · split at h <;> cases h
          rfl
        · cases h; rfl
        · cases h; rfl
theorem sc_Stage_draw : FnScope ["self", "number"] ["self"] (defScope s_Stage_draw) := ⟨rfl, rfl, rfl, by decide +kernel, rfl, by decide +kernel, by decide +kernel⟩
theorem ok_Stage_draw {d : Nat} {C : Addr} (hC : StageC J C) (D : Apart J) (T : Txt K mg) (N : NodeF K J) (F : FnP K "draw" "Stage.draw" s_Stage_draw f fd)
    (G_work : ∀ C, StageC J C → CalM P w K mg base (L2.CX P w) (2 * d + 1) C "work" ["self"] (spWork J d C)) :
    FnOk P w K mg base (L2.CX P w) (2 * d + 2) f fd ["self"] (spDraw J d C) := by
  refine okX F sc_Stage_draw (fun vs H Q E h => h.len) (fun cdv A outer s H vs Q E hr h px tk po => ?_)
  · obtain ⟨me, cs, lo, pre, post, t, x, m, f, r, x', m', rfl, hx, hd, G⟩ := h
    have nm : ∀ m g, x ≠ .mkr m g := cls_stage D (hx ▸ hC)
    obtain ⟨dx, ah, fs, e, lk, lf⟩ := G.nd.top nm
    rw [hx] at e
    have hC' := hC.draw
    have ca := N.c _ hC'
    refine ⟨_, (pss_cons (ps_if (pt_val (pe_fld (pv 0) rfl))
    (pss_one (ps_ret pe_non)) pss_nil)
  (pss_cons (ps_set (i := 1) sc_Stage_draw.nd rfl (Or.inl rfl) (pe_dyn0 (pv 0) G_work (hr.mono (by omega)) px))
  (pss_cons (ps_if (pt_cmpR op_isN (pv 1) pe_non (nomark _))
    (pss_one (ps_fld (pv 0) pe_bl rfl)) pss_nil)
  (pss_one (ps_ret (pv 1)))))), ?_⟩
    try dsimp only [cxOf, Cx.nox, Cx.wish]
    refine rd_at (σ' := [some (.ref t.ad), none]) rfl ?_
    walk_at "go"
    refine rd_sf rfl e ca (N.na_ended _ hC') rfl ?_
    walk_at "go"
    refine rd_b (fun c => ?_) (fun c => ?_)
    · obtain ⟨rfl, rfl, rfl⟩ := draw_ovr c hd
      walk_at "go"
      exact G.fin rfl _ G.nd G.mt (Fr.refl _ _)
    · walk_at "go"
      refine rd_dyn ?_
      walk_at "go"
      refine rd_d hC e (lookup_tail lk (by decide) (by decide)) ?_
      have F' := draw_facts _ _ _ _ _ _ hd G.inv G.bk
      refine ⟨me, cs, lo, pre, post, t, x, m, f, r, x', m', rfl, hx, hd, ⟨G.sep, G.nd.toW nm c, c, G.mt, G.inv, G.dep, G.bk, G.al, fun n hn H' W' M' f' => ?_, fun hn H' W' M' f' => ?_, G.long⟩⟩
      · walk_at "go"
        refine ⟨rfl, ?_⟩
        walk_at "go"
        refine rd_F (fun z => by cases z) ?_
        walk_at "go"
        subst hn
        exact G.num n rfl _ (W'.at_ (draw_num_live _ _ _ _ _ _ hd)) M' f'
      · obtain ⟨dx', ah', fs', e', lf'⟩ := W'.top
        have hx' : x'.cls J = C := (draw_cls _ _ _ _ _ _ hd).trans hx
        walk_at "go"
        refine ⟨rfl, ?_⟩
        walk_at "go"
        refine rd_T rfl ?_
        walk_at "go"
        refine rd_fset ?_
        walk_at "go"
        rw [hx'] at e'
        refine rd_st e' ca (N.na_ended _ hC') (by show fs'.length + 1 + 1 < 1000; omega) ?_
        walk_at "go"
        have ho' : x'.ovr = true := ended_ovr W'.not_mkr (F'.en hn)
        refine G.fin hn _ ?_ (M'.put G.sep.ad) (f'.putN (.inl (List.mem_append_left _ t.ad_mem)) (nt e'))
        have z := W'.end_ G.sep.dj ho' (by rw [hx']; exact e')
        rw [hx'] at z
        exact z
end
end Dc

set_option Elab.async false
set_option linter.all false
set_option maxRecDepth 100000
set_option maxHeartbeats 2000000
namespace Dc
open PySem PySem.Spec PyProof.Rows L2
local macro_rules | `(tactic| walk_at "ne") => `(tactic| first | assumption | (refine Ne.symm ?_; assumption) | exact ne_of (by assumption) (by assumption) (by intro q; cases q) | exact ne_of_none (by assumption) (by assumption) | exact Ne.symm (ne_of_none (by assumption) (by assumption)))
local macro_rules | `(tactic| walk_at "hp") => `(tactic| first | assumption | exact upd_same | (refine upd_keep ?_ (by assumption); walk_at "hp") | (refine upd_other ?_ ?_; · walk_at "ne"; · walk_at "hp"))
local macro_rules | `(tactic| walk_at "hl") => `(tactic| first | assumption | exact SqL.of (by walk_at "hp"))
local macro_rules | `(tactic| walk_at "ht") => `(tactic| first | assumption | exact SqT.of (by walk_at "hp"))
local macro_rules | `(tactic| walk_at "rd1") => `(tactic| first
  | ((with_reducible apply rd_var); exact rfl)
  | ((with_reducible apply rd_eq); exact rfl) | ((with_reducible apply rd_ne); exact rfl)
  | with_reducible first
  | refine iteT ?_ | refine iteF ?_ | refine rd_nF ?_ | refine rd_nT ?_ | refine rd_yes ?_ | refine rd_c ?_ | refine rd_op ?_ | refine rd_un ?_ | refine rd_test ?_ | refine rd_B ?_ | refine rd_bl ?_ | refine rd_seq ?_ | refine rd_next ?_ | refine rd_ifs ?_ | refine rd_asg ?_ | refine rd_name ?_ | refine rd_ret ?_ | refine rd_drop ?_
  | refine rd_call ?_ | refine rd_cons ?_ | refine rd_nil ?_ | refine rd_cb ?_ | refine rd_I0 ?_ | refine rd_U ?_ | refine rd_gsub ?_ | refine rd_lst ?_ | refine rd_tup ?_ | refine rd_if ?_ | refine rd_not ?_ | refine rd_rng1 ?_ | refine rd_itup ?_ | refine rd_ilst ?_ | refine rd_bm ?_ | refine rd_bm0 ?_ | refine rd_andV ?_ | refine rd_orV ?_ | refine rd_notV ?_)
local macro_rules | `(tactic| walk_at "rd") => `(tactic| repeat walk_at "rd1")
local macro_rules | `(tactic| walk_at "ci") => `(tactic| first | assumption | (show (0 : Int) < _; first | decide | omega) | exact ⟨by decide, by decide⟩ | exact Or.inr ⟨by decide, by decide⟩ | exact Or.inl ⟨by decide, by decide⟩ | exact ⟨by decide, by decide, by decide⟩ | exact Or.inl ⟨by omega, by omega⟩ | exact Or.inr ⟨by omega, by omega⟩)
local macro_rules | `(tactic| walk_at "ix") => `(tactic| first
  | ((with_reducible apply rd_ixL); (walk_at "hl"); exact rfl)
  | ((with_reducible apply rd_ixT); (walk_at "ht"); exact rfl)
  | ((with_reducible apply rd_lenL); (walk_at "hl"))
  | ((with_reducible apply rd_lenT); (walk_at "ht"))
  | ((with_reducible apply rd_tupOf); (walk_at "hl"))
  | ((with_reducible apply rd_listOf); (walk_at "hl"))
  | (with_reducible refine rd_min2 ?_)
  | ((with_reducible apply rd_I); (walk_at "ci"))
  | ((with_reducible apply rd_setL); (walk_at "hp"); exact rfl))
local macro_rules | `(tactic| walk_at "gs") => `(tactic| repeat first | walk_at "rd1" | walk_at "ix")
local macro_rules | `(tactic| walk_at "go") => `(tactic| repeat first | walk_at "rd1" | walk_at "ix" | with_reducible refine rd_and ?_ | with_reducible refine rd_or ?_)
local macro_rules | `(tactic| walk_at "fo") => `(tactic| (with_reducible refine rd_for ?_))
local macro_rules | `(tactic| walk_at "pm") => `(tactic| repeat first
  | with_reducible first | refine rd_pcons ?_ | refine rd_pstr ?_ | refine rd_pcap ?_ | refine rd_pwild ?_ | refine rd_pnil ?_ | refine rd_por ?_ | refine rd_pno ?_
  | ((with_reducible refine rd_eq rfl ?_); refine ⟨_, rfl, ?_⟩; first | refine rd_T rfl ?_ | refine rd_F (by decide) ?_)
  | dsimp only [List.nil_append, List.singleton_append, List.cons_append, setAll])
local macro_rules | `(tactic| walk_at "pc") => `(tactic| (refine rd_case ?_); (first | (refine rd_phit (SqT.of (by assumption)) rfl ?_) | (refine rd_pmiss (SqT.of (by assumption)) (by simp) ?_)); (walk_at "pm"))

/-! ### the stages' work -/
def Step (f0 : Nat) (k : Kd) (o : Ow) (r : Rs) (x' : Nd) (m' : Mt) (c' : Nd) (m1 : Mt) : Rs → Prop
  | .num n => match pass k o n with
    | .again o' => draw f0 (.st k o' c') m1 = some (r, x', m')
    | .tell v o' => r = .num v ∧ x' = .st k (o'.fin (.num v)) c' ∧ m' = m1
    | .stop => r = .fin ∧ x' = .st k (o.fin .fin) c' ∧ m' = { m1 with lost := m1.lost ++ [n] }
  | .fin => r = .fin ∧ x' = .st k (o.fin .fin) c' ∧ m' = m1
  | .long => r = .long ∧ x' = .st k o c' ∧ m' = m1
theorem st_step {f : Nat} {k : Kd} {o : Ow} {c : Nd} {m m' : Mt} {r : Rs} {x' : Nd} (ho : o.over = false) (ha : ahead k o = none) (h : draw f (.st k o c) m = some (r, x', m')) :
    ∃ f0 rc c' m1, f = f0 + 1 ∧ draw f0 c m = some (rc, c', m1) ∧ Step f0 k o r x' m' c' m1 rc := by
  cases f with
  | zero => simp only [draw] at h; cases h
  | succ f =>
    rw [draw_st, if_neg (by rw [ho]; decide), ha] at h
    dsimp only at h
    cases hd : draw f c m with
    | none => rw [hd] at h; cases h
    | some p =>
      obtain ⟨rc, c', m1⟩ := p
      refine ⟨f, rc, c', m1, rfl, hd.symm ▸ rfl, ?_⟩
      rw [hd] at h
      cases rc with
      | num n =>
        dsimp only at h
        show (match pass k o n with
          | .again o' => draw f (.st k o' c') m1 = some (r, x', m')
          | .tell v o' => r = .num v ∧ x' = .st k (o'.fin (.num v)) c' ∧ m' = m1
          | .stop => r = .fin ∧ x' = .st k (o.fin .fin) c' ∧ m' = { m1 with lost := m1.lost ++ [n] })
        cases hp : pass k o n with
        | again o' => rw [hp] at h; exact h
        | tell v o' => rw [hp] at h; cases h; exact ⟨rfl, rfl, rfl⟩
        | stop => rw [hp] at h; cases h; exact ⟨rfl, rfl, rfl⟩
      | fin => cases h; exact ⟨rfl, rfl, rfl⟩
      | long => cases h; exact ⟨rfl, rfl, rfl⟩
/-- amid a stage's work -/
structure Mid (J : Cls') (d : Nat) (me cs lo : Addr) (pre post : List Int) (a : Addr) (tc : Tr) (ob : HO) (c : Nd) (m : Mt) (H0 H : Hp) : Prop where
  ob : H a = some ob
  nd : NdAt J H me pre.length c tc
  mt : MetAt J H me cs lo m (pre ++ c.gv ++ post)
  inv : c.inv
  dep : c.dep ≤ d
  bk : m.book ≤ 200
  al : m.lost.length + c.alive ≤ 999
  fr : Fr ((a :: tc.ads) ++ [me, cs, lo]) H0 H
theorem Sep.st {me cs lo a : Addr} {tc : Tr} (S : Sep me cs lo (.st a tc)) : Sep me cs lo tc :=
  ⟨S.dj.2, fun h => S.hme (List.mem_cons_of_mem _ h), fun h => S.hcs (List.mem_cons_of_mem _ h), fun h => S.hlo (List.mem_cons_of_mem _ h), S.n1, S.n2, S.n3⟩
theorem Sep.out {me cs lo a : Addr} {tc : Tr} (S : Sep me cs lo (.st a tc)) : a ∉ tc.ads ++ [me, cs, lo] := by
  have h1 := S.ad
  simp only [Tr.ad] at h1
  simp only [List.mem_append, List.mem_cons, List.not_mem_nil, or_false, not_or]
  exact ⟨S.dj.1, h1.1, h1.2.1, h1.2.2⟩
section
variable {P : Program} {w : World} {K : PySem.W.Frag} {mg : Str → Option Value} {base : Heap} {J : Cls'} {f : Addr} {fd : FuncData} {H H0 : Hp} {me cs lo a : Addr} {d : Nat} {pre post : List Int} {tc : Tr} {ob : HO} {c : Nd} {m : Mt}
theorem Mid.ask {f : Nat} {rc : Rs} {c' : Nd} {m1 : Mt} {Q : VK} {E : XK} (S : Sep me cs lo (.st a tc)) (M : Mid J d me cs lo pre post a tc ob c m H0 H) (hd : draw f c m = some (rc, c', m1))
    (hnum : ∀ n, rc = .num n → ∀ H', Mid J d me cs lo pre post a tc ob c' m1 H0 H' → Q (.int n) H') (hfin : rc = .fin → ∀ H', Mid J d me cs lo pre post a tc ob c' m1 H0 H' → Q .non H')
    (hlong : rc = .long → ∀ H', MetAt J H' me cs lo m1 (pre ++ c'.gv ++ post) → Fr ((a :: tc.ads) ++ [me, cs, lo]) H0 H' → E (.ref J.long) none H') : Ask J d me cs lo pre post tc c m rc c' m1 H Q E := by
  have F := draw_facts _ _ _ _ _ _ hd M.inv M.bk
  have L := draw_lost _ _ _ _ _ _ hd
  have fr : ∀ H', Fr (tc.ads ++ [me, cs, lo]) H H' → Fr ((a :: tc.ads) ++ [me, cs, lo]) H0 H' := fun H' f' => M.fr.tr (f'.mono fun b hb => List.mem_cons_of_mem _ hb)
  have mid : ∀ H', NdAt J H' me pre.length c' tc → MetAt J H' me cs lo m1 (pre ++ c'.gv ++ post) → Fr (tc.ads ++ [me, cs, lo]) H H' → Mid J d me cs lo pre post a tc ob c' m1 H0 H' :=
    fun H' n' t' f' => ⟨f'.at M.ob S.out, n', t', F.inv, by rw [L.2]; exact M.dep, F.b2, Nat.le_trans L.1 M.al, fr H' f'⟩
  exact ⟨S.st, M.nd, M.mt, M.inv, M.dep, M.bk, Nat.le_trans M.al (by omega), fun n e H' n' t' f' => hnum n e H' (mid H' n' t' f'), fun e H' n' t' f' => hfin e H' (mid H' n' t' f'), fun e H' t' f' => hlong e H' t' (fr H' f')⟩
/-- at the work's begin -/
theorem AskW.mid {k : Kd} {o : Ow} {x' : Nd} {m' : Mt} {r : Rs} {Q : VK} {E : XK} {dx : Addr} {fs : List (Str × V)} (G : AskW J (d + 1) me cs lo pre post (.st a tc) (.st k o c) m r x' m' H Q E) (e : H a = some (.ins (k.cls J) dx (("ahead", .ref tc.ad) :: ("ended", .bl false) :: fs))) :
    Mid J d me cs lo pre post a tc (.ins (k.cls J) dx (("ahead", .ref tc.ad) :: ("ended", .bl false) :: fs)) c m H H :=
  ⟨e, G.nd.2, G.mt, G.inv.2.2, by have : c.dep + 1 ≤ d + 1 := G.dep; omega, G.bk, by have h : m.lost.length + (o.al + c.alive) ≤ 1000 := G.al; rw [al_one (by rw [show o.over = false from G.ov]; decide)] at h; omega, Fr.refl _ _⟩
theorem NdW.st {off : Nat} {k : Kd} {o : Ow} {c : Nd} {t : Tr} (h : NdW J H me off (.st k o c) t) : ∃ a tc dx fs, t = .st a tc ∧ H a = some (.ins (k.cls J) dx (("ahead", .ref tc.ad) :: ("ended", .bl false) :: fs)) ∧ k.flds me o fs ∧ NdAt J H me off c tc := by
  cases t with
  | mkr a => exact h.elim
  | two a t u => exact h.elim
  | st a tc =>
    obtain ⟨⟨fs, ⟨dx, e⟩, z⟩, r⟩ := h
    exact ⟨a, tc, dx, fs, rfl, e, z, r⟩
/-- back to what is asked -/
theorem Mid.toW {k : Kd} {o : Ow} {dx : Addr} {fs : List (Str × V)} {c' : Nd} {m1 : Mt} {H' : Hp} (M : Mid J d me cs lo pre post a tc (.ins (k.cls J) dx (("ahead", .ref tc.ad) :: ("ended", .bl false) :: fs)) c' m1 H0 H') (h : k.flds me o fs) :
    NdW J H' me pre.length (.st k o c') (.st a tc) := ⟨⟨fs, ⟨dx, M.ob⟩, h⟩, M.nd⟩
theorem cls_reckon (D : Apart J) {x : Nd} (h : x.cls J = J.reckon) : ∃ k o c, x = .st k o c ∧ ((∃ n, k = .add n) ∨ ∃ n, k = .times n) := by
  have nd := D.nd
  simp only [List.nodup_cons, List.mem_cons, List.not_mem_nil, or_false, not_or] at nd
  obtain ⟨⟨a1, a2, a3, a4, a5, a6, a7, a8, a9, a10⟩, ⟨b2, b3, b4, b5, b6, b7, b8, b9, b10⟩, ⟨c3, c4, c5, c6, c7, c8, c9, c10⟩, _⟩ := nd
  cases x with
  | mkr k g => cases k <;> exact absurd h (by assumption)
  | st k o c =>
    cases k with
    | add n => exact ⟨_, o, c, rfl, .inl ⟨n, rfl⟩⟩
    | times n => exact ⟨_, o, c, rfl, .inr ⟨n, rfl⟩⟩
    | _ => exact absurd h.symm (by assumption)
  | both o c d => exact absurd h.symm (by assumption)
  | thn o c d => exact absurd h.symm (by assumption)
theorem sc_Reckon_work : FnScope ["self", "number"] ["self"] (defScope s_Reckon_work) := ⟨rfl, rfl, rfl, by decide +kernel, rfl, by decide +kernel, by decide +kernel⟩
theorem ok_Reckon_work (D : Apart J) (T : Txt K mg) (N : NodeF K J) (F : FnP K "work" "Reckon.work" s_Reckon_work f fd)
    (G_draw : ∀ C, DrawC J C → CalM P w K mg base (L2.CX P w) (2 * d + 2) C "draw" ["self"] (spDraw J d C)) :
    FnOk P w K mg base (L2.CX P w) (2 * d + 3) f fd ["self"] (spWork J (d + 1) J.reckon) := by
  refine okX F sc_Reckon_work (fun vs H Q E h => h.len) (fun cdv A outer s H vs Q E hr h px tk po => ?_)
  · obtain ⟨me, cs, lo, pre, post, t, x, m, f, r, x', m', rfl, hx, hd, G⟩ := h
    obtain ⟨k, o, c, rfl, hk⟩ := cls_reckon D hx
    have hC : DrawC J J.reckon := .inr (.inr (.inl rfl))
    have ca := N.c _ hC
    obtain ⟨a, tc, dx, fs, rfl, e, z, nc⟩ := G.nd.st
    obtain ⟨fa, te, ez, km, ha, hp⟩ : ∃ fa te : Int, fs = ([("factor", .int fa), ("term", .int te)] : List (Str × V)) ∧ (-(2 ^ 64) < fa ∧ fa < 2 ^ 64) ∧ ahead k o = none ∧ ∀ n, pass k o n = .tell (n * fa + te) o := by
      rcases hk with ⟨n, rfl⟩ | ⟨n, rfl⟩
      · exact ⟨1, n, z, by decide, rfl, fun v => by show Ps.tell _ _ = _; rw [Int.mul_one]⟩
      · exact ⟨n, 0, z, ⟨G.inv.1.2.1, G.inv.1.2.2⟩, rfl, fun v => by show Ps.tell _ _ = _; rw [Int.add_zero]⟩
    subst ez
    have M := G.mid e
    obtain ⟨f0, rc, c', m1, rfl, hc, st⟩ := st_step G.ov ha hd
    have ek : k.cls J = J.reckon := hx
    rw [ek] at e
    refine ⟨_, (pss_cons (ps_set (i := 1) sc_Reckon_work.nd rfl (Or.inl rfl) (pe_dyn0 (pe_fld (pv 0) rfl) G_draw (hr.mono (by omega)) px))
  (pss_cons (ps_if (pt_cmpR op_isN (pv 1) pe_non (nomark _))
    (pss_one (ps_ret pe_non)) pss_nil)
  (pss_one (ps_ret (pe_op op_add (pe_op op_mul (pv 1) (pe_fld (pv 0) rfl)) (pe_fld (pv 0) rfl)))))), ?_⟩
    try dsimp only [cxOf, Cx.nox, Cx.wish]
    refine rd_at (σ' := [some (.ref a), none]) rfl ?_
    walk_at "go"
    refine rd_dyn ?_
    walk_at "go"
    refine rd_sf rfl e ca (N.na_ahead _ hC) rfl ?_
    obtain ⟨dc, fc, ec, lc⟩ := nc.obj
    refine rd_d (c.cls_draw J) ec lc ?_
    refine ⟨me, cs, lo, pre, post, tc, c, m, f0, rc, c', m1, rfl, rfl, hc, M.ask G.sep hc (fun n hn H' M' => ?_) (fun hn H' M' => ?_) (fun hn H' M' f' => ?_)⟩
    · subst hn
      rw [show Step f0 k o r x' m' c' m1 (.num n) = (match pass k o n with
          | .again o' => draw f0 (.st k o' c') m1 = some (r, x', m')
          | .tell v o' => r = .num v ∧ x' = .st k (o'.fin (.num v)) c' ∧ m' = m1
          | .stop => r = .fin ∧ x' = .st k (o.fin .fin) c' ∧ m' = { m1 with lost := m1.lost ++ [n] }) from rfl, hp] at st
      obtain ⟨rfl, rfl, rfl⟩ := st
      have e' := M'.ob
      rw [ek] at e'
      walk_at "go"
      refine ⟨rfl, ?_⟩
      walk_at "go"
      refine rd_F (fun z => by cases z) ?_
      walk_at "go"
      refine rd_sf rfl e' ca (N.na_factor _ hC) rfl ?_
      refine rd_I ?_ ?_
      · exact .inr km
      · refine rd_sf rfl e' ca (N.na_term _ hC) rfl ?_
        walk_at "go"
        refine G.num _ rfl _ (M'.toW ?_) M'.mt M'.fr
        rcases hk with ⟨n, rfl⟩ | ⟨n, rfl⟩ <;> exact z
    · subst hn
      obtain ⟨rfl, rfl, rfl⟩ := st
      walk_at "go"
      refine ⟨rfl, ?_⟩
      walk_at "go"
      refine rd_T rfl ?_
      walk_at "go"
      refine G.fin rfl _ (M'.toW ?_) M'.mt M'.fr
      rcases hk with ⟨n, rfl⟩ | ⟨n, rfl⟩ <;> exact z
    · subst hn
      obtain ⟨rfl, rfl, rfl⟩ := st
      exact G.long rfl H' M' f'
end
end Dc

set_option Elab.async false
set_option linter.all false
set_option maxRecDepth 100000
set_option maxHeartbeats 2000000
namespace Dc
open PySem PySem.Spec PyProof.Rows L2
local macro_rules | `(tactic| walk_at "ne") => `(tactic| first | assumption | (refine Ne.symm ?_; assumption) | exact ne_of (by assumption) (by assumption) (by intro q; cases q) | exact ne_of_none (by assumption) (by assumption) | exact Ne.symm (ne_of_none (by assumption) (by assumption)))
local macro_rules | `(tactic| walk_at "hp") => `(tactic| first | assumption | exact upd_same | (refine upd_keep ?_ (by assumption); walk_at "hp") | (refine upd_other ?_ ?_; · walk_at "ne"; · walk_at "hp"))
local macro_rules | `(tactic| walk_at "hl") => `(tactic| first | assumption | exact SqL.of (by walk_at "hp"))
local macro_rules | `(tactic| walk_at "ht") => `(tactic| first | assumption | exact SqT.of (by walk_at "hp"))
local macro_rules | `(tactic| walk_at "rd1") => `(tactic| first
  | ((with_reducible apply rd_var); exact rfl)
  | ((with_reducible apply rd_eq); exact rfl) | ((with_reducible apply rd_ne); exact rfl)
  | with_reducible first
  | refine iteT ?_ | refine iteF ?_ | refine rd_nF ?_ | refine rd_nT ?_ | refine rd_yes ?_ | refine rd_c ?_ | refine rd_op ?_ | refine rd_un ?_ | refine rd_test ?_ | refine rd_B ?_ | refine rd_bl ?_ | refine rd_seq ?_ | refine rd_next ?_ | refine rd_ifs ?_ | refine rd_asg ?_ | refine rd_name ?_ | refine rd_ret ?_ | refine rd_drop ?_
  | refine rd_call ?_ | refine rd_cons ?_ | refine rd_nil ?_ | refine rd_cb ?_ | refine rd_I0 ?_ | refine rd_U ?_ | refine rd_gsub ?_ | refine rd_lst ?_ | refine rd_tup ?_ | refine rd_if ?_ | refine rd_not ?_ | refine rd_rng1 ?_ | refine rd_itup ?_ | refine rd_ilst ?_ | refine rd_bm ?_ | refine rd_bm0 ?_ | refine rd_andV ?_ | refine rd_orV ?_ | refine rd_notV ?_)
local macro_rules | `(tactic| walk_at "rd") => `(tactic| repeat walk_at "rd1")
local macro_rules | `(tactic| walk_at "ci") => `(tactic| first | assumption | (show (0 : Int) < _; first | decide | omega) | exact ⟨by decide, by decide⟩ | exact Or.inr ⟨by decide, by decide⟩ | exact Or.inl ⟨by decide, by decide⟩ | exact ⟨by decide, by decide, by decide⟩ | exact Or.inl ⟨by omega, by omega⟩ | exact Or.inr ⟨by omega, by omega⟩)
local macro_rules | `(tactic| walk_at "ix") => `(tactic| first
  | ((with_reducible apply rd_ixL); (walk_at "hl"); exact rfl)
  | ((with_reducible apply rd_ixT); (walk_at "ht"); exact rfl)
  | ((with_reducible apply rd_lenL); (walk_at "hl"))
  | ((with_reducible apply rd_lenT); (walk_at "ht"))
  | ((with_reducible apply rd_tupOf); (walk_at "hl"))
  | ((with_reducible apply rd_listOf); (walk_at "hl"))
  | (with_reducible refine rd_min2 ?_)
  | ((with_reducible apply rd_I); (walk_at "ci"))
  | ((with_reducible apply rd_setL); (walk_at "hp"); exact rfl))
local macro_rules | `(tactic| walk_at "gs") => `(tactic| repeat first | walk_at "rd1" | walk_at "ix")
local macro_rules | `(tactic| walk_at "go") => `(tactic| repeat first | walk_at "rd1" | walk_at "ix" | with_reducible refine rd_and ?_ | with_reducible refine rd_or ?_)
local macro_rules | `(tactic| walk_at "fo") => `(tactic| (with_reducible refine rd_for ?_))
local macro_rules | `(tactic| walk_at "pm") => `(tactic| repeat first
  | with_reducible first | refine rd_pcons ?_ | refine rd_pstr ?_ | refine rd_pcap ?_ | refine rd_pwild ?_ | refine rd_pnil ?_ | refine rd_por ?_ | refine rd_pno ?_
  | ((with_reducible refine rd_eq rfl ?_); refine ⟨_, rfl, ?_⟩; first | refine rd_T rfl ?_ | refine rd_F (by decide) ?_)
  | dsimp only [List.nil_append, List.singleton_append, List.cons_append, setAll])
local macro_rules | `(tactic| walk_at "pc") => `(tactic| (refine rd_case ?_); (first | (refine rd_phit (SqT.of (by assumption)) rfl ?_) | (refine rd_pmiss (SqT.of (by assumption)) (by simp) ?_)); (walk_at "pm"))

section
variable {P : Program} {w : World} {K : PySem.W.Frag} {mg : Str → Option Value} {base : Heap} {J : Cls'} {f : Addr} {fd : FuncData} {H H0 : Hp} {me cs lo a : Addr} {d : Nat} {pre post : List Int} {tc : Tr} {ob : HO} {c : Nd} {m : Mt}
theorem Apart.all (D : Apart J) : J.count ≠ J.row ∧ J.count ≠ J.reckon ∧ J.count ≠ J.keep ∧ J.count ≠ J.drop ∧ J.count ≠ J.take ∧ J.count ≠ J.each ∧ J.count ≠ J.until' ∧ J.count ≠ J.unlike ∧ J.count ≠ J.both ∧ J.count ≠ J.thn ∧ J.row ≠ J.reckon ∧ J.row ≠ J.keep ∧ J.row ≠ J.drop ∧ J.row ≠ J.take ∧ J.row ≠ J.each ∧ J.row ≠ J.until' ∧ J.row ≠ J.unlike ∧ J.row ≠ J.both ∧ J.row ≠ J.thn ∧ J.reckon ≠ J.keep ∧ J.reckon ≠ J.drop ∧ J.reckon ≠ J.take ∧ J.reckon ≠ J.each ∧ J.reckon ≠ J.until' ∧ J.reckon ≠ J.unlike ∧ J.reckon ≠ J.both ∧ J.reckon ≠ J.thn ∧ J.keep ≠ J.drop ∧ J.keep ≠ J.take ∧ J.keep ≠ J.each ∧ J.keep ≠ J.until' ∧ J.keep ≠ J.unlike ∧ J.keep ≠ J.both ∧ J.keep ≠ J.thn ∧ J.drop ≠ J.take ∧ J.drop ≠ J.each ∧ J.drop ≠ J.until' ∧ J.drop ≠ J.unlike ∧ J.drop ≠ J.both ∧ J.drop ≠ J.thn ∧ J.take ≠ J.each ∧ J.take ≠ J.until' ∧ J.take ≠ J.unlike ∧ J.take ≠ J.both ∧ J.take ≠ J.thn ∧ J.each ≠ J.until' ∧ J.each ≠ J.unlike ∧ J.each ≠ J.both ∧ J.each ≠ J.thn ∧ J.until' ≠ J.unlike ∧ J.until' ≠ J.both ∧ J.until' ≠ J.thn ∧ J.unlike ≠ J.both ∧ J.unlike ≠ J.thn ∧ J.both ≠ J.thn := by
  have nd := D.nd
  simp only [List.nodup_cons, List.mem_cons, List.not_mem_nil, or_false, not_or] at nd
  obtain ⟨⟨h0_1, h0_2, h0_3, h0_4, h0_5, h0_6, h0_7, h0_8, h0_9, h0_10⟩, ⟨h1_2, h1_3, h1_4, h1_5, h1_6, h1_7, h1_8, h1_9, h1_10⟩, ⟨h2_3, h2_4, h2_5, h2_6, h2_7, h2_8, h2_9, h2_10⟩, ⟨h3_4, h3_5, h3_6, h3_7, h3_8, h3_9, h3_10⟩, ⟨h4_5, h4_6, h4_7, h4_8, h4_9, h4_10⟩, ⟨h5_6, h5_7, h5_8, h5_9, h5_10⟩, ⟨h6_7, h6_8, h6_9, h6_10⟩, ⟨h7_8, h7_9, h7_10⟩, ⟨h8_9, h8_10⟩, h9_10, _⟩ := nd
  exact ⟨h0_1, h0_2, h0_3, h0_4, h0_5, h0_6, h0_7, h0_8, h0_9, h0_10, h1_2, h1_3, h1_4, h1_5, h1_6, h1_7, h1_8, h1_9, h1_10, h2_3, h2_4, h2_5, h2_6, h2_7, h2_8, h2_9, h2_10, h3_4, h3_5, h3_6, h3_7, h3_8, h3_9, h3_10, h4_5, h4_6, h4_7, h4_8, h4_9, h4_10, h5_6, h5_7, h5_8, h5_9, h5_10, h6_7, h6_8, h6_9, h6_10, h7_8, h7_9, h7_10, h8_9, h8_10, h9_10⟩
theorem cls_keep (D : Apart J) {x : Nd} (h : x.cls J = J.keep) : ∃ r w o c, x = .st (.keep r w) o c := by
  obtain ⟨h0_1, h0_2, h0_3, h0_4, h0_5, h0_6, h0_7, h0_8, h0_9, h0_10, h1_2, h1_3, h1_4, h1_5, h1_6, h1_7, h1_8, h1_9, h1_10, h2_3, h2_4, h2_5, h2_6, h2_7, h2_8, h2_9, h2_10, h3_4, h3_5, h3_6, h3_7, h3_8, h3_9, h3_10, h4_5, h4_6, h4_7, h4_8, h4_9, h4_10, h5_6, h5_7, h5_8, h5_9, h5_10, h6_7, h6_8, h6_9, h6_10, h7_8, h7_9, h7_10, h8_9, h8_10, h9_10⟩ := D.all
  cases x with
  | mkr k g => cases k <;> exact absurd h (by assumption)
  | st k o c =>
    cases k with
    | keep r w => exact ⟨r, w, o, c, rfl⟩
    | _ => first | exact absurd h.symm (by assumption) | exact absurd h (by assumption)
  | both o c d => first | exact absurd h.symm (by assumption) | exact absurd h (by assumption)
  | thn o c d => first | exact absurd h.symm (by assumption) | exact absurd h (by assumption)
theorem cls_drop (D : Apart J) {x : Nd} (h : x.cls J = J.drop) : ∃ k o c, x = .st (.drop k) o c := by
  obtain ⟨h0_1, h0_2, h0_3, h0_4, h0_5, h0_6, h0_7, h0_8, h0_9, h0_10, h1_2, h1_3, h1_4, h1_5, h1_6, h1_7, h1_8, h1_9, h1_10, h2_3, h2_4, h2_5, h2_6, h2_7, h2_8, h2_9, h2_10, h3_4, h3_5, h3_6, h3_7, h3_8, h3_9, h3_10, h4_5, h4_6, h4_7, h4_8, h4_9, h4_10, h5_6, h5_7, h5_8, h5_9, h5_10, h6_7, h6_8, h6_9, h6_10, h7_8, h7_9, h7_10, h8_9, h8_10, h9_10⟩ := D.all
  cases x with
  | mkr k g => cases k <;> exact absurd h (by assumption)
  | st k o c =>
    cases k with
    | drop k => exact ⟨k, o, c, rfl⟩
    | _ => first | exact absurd h.symm (by assumption) | exact absurd h (by assumption)
  | both o c d => first | exact absurd h.symm (by assumption) | exact absurd h (by assumption)
  | thn o c d => first | exact absurd h.symm (by assumption) | exact absurd h (by assumption)
theorem cls_take (D : Apart J) {x : Nd} (h : x.cls J = J.take) : ∃ k o c, x = .st (.take k) o c := by
  obtain ⟨h0_1, h0_2, h0_3, h0_4, h0_5, h0_6, h0_7, h0_8, h0_9, h0_10, h1_2, h1_3, h1_4, h1_5, h1_6, h1_7, h1_8, h1_9, h1_10, h2_3, h2_4, h2_5, h2_6, h2_7, h2_8, h2_9, h2_10, h3_4, h3_5, h3_6, h3_7, h3_8, h3_9, h3_10, h4_5, h4_6, h4_7, h4_8, h4_9, h4_10, h5_6, h5_7, h5_8, h5_9, h5_10, h6_7, h6_8, h6_9, h6_10, h7_8, h7_9, h7_10, h8_9, h8_10, h9_10⟩ := D.all
  cases x with
  | mkr k g => cases k <;> exact absurd h (by assumption)
  | st k o c =>
    cases k with
    | take k => exact ⟨k, o, c, rfl⟩
    | _ => first | exact absurd h.symm (by assumption) | exact absurd h (by assumption)
  | both o c d => first | exact absurd h.symm (by assumption) | exact absurd h (by assumption)
  | thn o c d => first | exact absurd h.symm (by assumption) | exact absurd h (by assumption)
theorem cls_each (D : Apart J) {x : Nd} (h : x.cls J = J.each) : ∃ k o c, x = .st (.each k) o c := by
  obtain ⟨h0_1, h0_2, h0_3, h0_4, h0_5, h0_6, h0_7, h0_8, h0_9, h0_10, h1_2, h1_3, h1_4, h1_5, h1_6, h1_7, h1_8, h1_9, h1_10, h2_3, h2_4, h2_5, h2_6, h2_7, h2_8, h2_9, h2_10, h3_4, h3_5, h3_6, h3_7, h3_8, h3_9, h3_10, h4_5, h4_6, h4_7, h4_8, h4_9, h4_10, h5_6, h5_7, h5_8, h5_9, h5_10, h6_7, h6_8, h6_9, h6_10, h7_8, h7_9, h7_10, h8_9, h8_10, h9_10⟩ := D.all
  cases x with
  | mkr k g => cases k <;> exact absurd h (by assumption)
  | st k o c =>
    cases k with
    | each k => exact ⟨k, o, c, rfl⟩
    | _ => first | exact absurd h.symm (by assumption) | exact absurd h (by assumption)
  | both o c d => first | exact absurd h.symm (by assumption) | exact absurd h (by assumption)
  | thn o c d => first | exact absurd h.symm (by assumption) | exact absurd h (by assumption)
theorem cls_until (D : Apart J) {x : Nd} (h : x.cls J = J.until') : ∃ n o c, x = .st (.until n) o c := by
  obtain ⟨h0_1, h0_2, h0_3, h0_4, h0_5, h0_6, h0_7, h0_8, h0_9, h0_10, h1_2, h1_3, h1_4, h1_5, h1_6, h1_7, h1_8, h1_9, h1_10, h2_3, h2_4, h2_5, h2_6, h2_7, h2_8, h2_9, h2_10, h3_4, h3_5, h3_6, h3_7, h3_8, h3_9, h3_10, h4_5, h4_6, h4_7, h4_8, h4_9, h4_10, h5_6, h5_7, h5_8, h5_9, h5_10, h6_7, h6_8, h6_9, h6_10, h7_8, h7_9, h7_10, h8_9, h8_10, h9_10⟩ := D.all
  cases x with
  | mkr k g => cases k <;> exact absurd h (by assumption)
  | st k o c =>
    cases k with
    | «until» n => exact ⟨n, o, c, rfl⟩
    | _ => first | exact absurd h.symm (by assumption) | exact absurd h (by assumption)
  | both o c d => first | exact absurd h.symm (by assumption) | exact absurd h (by assumption)
  | thn o c d => first | exact absurd h.symm (by assumption) | exact absurd h (by assumption)
theorem cls_unlike (D : Apart J) {x : Nd} (h : x.cls J = J.unlike) : ∃  o c, x = .st .unlike o c := by
  obtain ⟨h0_1, h0_2, h0_3, h0_4, h0_5, h0_6, h0_7, h0_8, h0_9, h0_10, h1_2, h1_3, h1_4, h1_5, h1_6, h1_7, h1_8, h1_9, h1_10, h2_3, h2_4, h2_5, h2_6, h2_7, h2_8, h2_9, h2_10, h3_4, h3_5, h3_6, h3_7, h3_8, h3_9, h3_10, h4_5, h4_6, h4_7, h4_8, h4_9, h4_10, h5_6, h5_7, h5_8, h5_9, h5_10, h6_7, h6_8, h6_9, h6_10, h7_8, h7_9, h7_10, h8_9, h8_10, h9_10⟩ := D.all
  cases x with
  | mkr k g => cases k <;> exact absurd h (by assumption)
  | st k o c =>
    cases k with
    | unlike  => exact ⟨o, c, rfl⟩
    | _ => first | exact absurd h.symm (by assumption) | exact absurd h (by assumption)
  | both o c d => first | exact absurd h.symm (by assumption) | exact absurd h (by assumption)
  | thn o c d => first | exact absurd h.symm (by assumption) | exact absurd h (by assumption)
theorem cls_both (D : Apart J) {x : Nd} (h : x.cls J = J.both) : ∃ o c d, x = .both o c d := by
  obtain ⟨h0_1, h0_2, h0_3, h0_4, h0_5, h0_6, h0_7, h0_8, h0_9, h0_10, h1_2, h1_3, h1_4, h1_5, h1_6, h1_7, h1_8, h1_9, h1_10, h2_3, h2_4, h2_5, h2_6, h2_7, h2_8, h2_9, h2_10, h3_4, h3_5, h3_6, h3_7, h3_8, h3_9, h3_10, h4_5, h4_6, h4_7, h4_8, h4_9, h4_10, h5_6, h5_7, h5_8, h5_9, h5_10, h6_7, h6_8, h6_9, h6_10, h7_8, h7_9, h7_10, h8_9, h8_10, h9_10⟩ := D.all
  cases x with
  | mkr k g => cases k <;> exact absurd h (by assumption)
  | st k o c => cases k <;> exact absurd h (by assumption)
  | both o c d => exact ⟨o, c, d, rfl⟩
  | thn o c d => first | exact absurd h.symm (by assumption) | exact absurd h (by assumption)
theorem cls_thn (D : Apart J) {x : Nd} (h : x.cls J = J.thn) : ∃ o c d, x = .thn o c d := by
  obtain ⟨h0_1, h0_2, h0_3, h0_4, h0_5, h0_6, h0_7, h0_8, h0_9, h0_10, h1_2, h1_3, h1_4, h1_5, h1_6, h1_7, h1_8, h1_9, h1_10, h2_3, h2_4, h2_5, h2_6, h2_7, h2_8, h2_9, h2_10, h3_4, h3_5, h3_6, h3_7, h3_8, h3_9, h3_10, h4_5, h4_6, h4_7, h4_8, h4_9, h4_10, h5_6, h5_7, h5_8, h5_9, h5_10, h6_7, h6_8, h6_9, h6_10, h7_8, h7_9, h7_10, h8_9, h8_10, h9_10⟩ := D.all
  cases x with
  | mkr k g => cases k <;> exact absurd h (by assumption)
  | st k o c => cases k <;> exact absurd h (by assumption)
  | both o c d => first | exact absurd h.symm (by assumption) | exact absurd h (by assumption)
  | thn o c d => exact ⟨o, c, d, rfl⟩

def resV : Rs → V
  | .num n => .int n
  | _ => .non
theorem step_again {f0 : Nat} {k : Kd} {o o' : Ow} {r : Rs} {x' : Nd} {m' : Mt} {c' : Nd} {m1 : Mt} {n : Int} (h : Step f0 k o r x' m' c' m1 (.num n)) (q : pass k o n = .again o') : draw f0 (.st k o' c') m1 = some (r, x', m') := by
  unfold Step at h
  dsimp only at h
  rw [q] at h
  exact h
theorem step_tell {f0 : Nat} {k : Kd} {o o' : Ow} {r : Rs} {x' : Nd} {m' : Mt} {c' : Nd} {m1 : Mt} {n v : Int} (h : Step f0 k o r x' m' c' m1 (.num n)) (q : pass k o n = .tell v o') : r = .num v ∧ x' = .st k (o'.fin (.num v)) c' ∧ m' = m1 := by
  unfold Step at h
  dsimp only at h
  rw [q] at h
  exact h
theorem step_stop {f0 : Nat} {k : Kd} {o : Ow} {r : Rs} {x' : Nd} {m' : Mt} {c' : Nd} {m1 : Mt} {n : Int} (h : Step f0 k o r x' m' c' m1 (.num n)) (q : pass k o n = .stop) : r = .fin ∧ x' = .st k (o.fin .fin) c' ∧ m' = { m1 with lost := m1.lost ++ [n] } := by
  unfold Step at h
  dsimp only at h
  rw [q] at h
  exact h
theorem Mid.askR {f : Nat} {rc : Rs} {c' : Nd} {m1 : Mt} {Q : VK} {E : XK} (S : Sep me cs lo (.st a tc)) (M : Mid J d me cs lo pre post a tc ob c m H0 H) (hd : draw f c m = some (rc, c', m1))
    (hgo : rc ≠ .long → ∀ H', Mid J d me cs lo pre post a tc ob c' m1 H0 H' → Q (resV rc) H')
    (hlong : rc = .long → ∀ H', MetAt J H' me cs lo m1 (pre ++ c'.gv ++ post) → Fr ((a :: tc.ads) ++ [me, cs, lo]) H0 H' → E (.ref J.long) none H') : Ask J d me cs lo pre post tc c m rc c' m1 H Q E := by
  refine M.ask S hd (fun n e H' M' => ?_) (fun e H' M' => ?_) hlong
  · have z := hgo (fun q => by rw [e] at q; cases q) H' M'
    rw [e] at z
    exact z
  · have z := hgo (fun q => by rw [e] at q; cases q) H' M'
    rw [e] at z
    exact z
theorem rd_NF {c A B : Prop} [Decidable c] (h : c) (q : B) : if (!decide c) = true then A else B := by rw [if_neg (by rw [decide_eq_true h]; decide)]; exact q
theorem rd_NT {c A B : Prop} [Decidable c] (h : ¬ c) (q : A) : if (!decide c) = true then A else B := by rw [if_pos (by rw [decide_eq_false h]; decide)]; exact q
theorem mod_iff {n r w : Int} (h0 : 0 ≤ r) (h1 : r < w) : (n - r) % w = 0 ↔ n % w = r := by
  have := Int.emod_eq_emod_iff_emod_sub_eq_zero (m := n) (n := w) (k := r)
  rw [Int.emod_eq_of_lt h0 h1] at this
  exact this.symm
theorem sc_Keep_work : FnScope ["self", "number"] ["self"] (defScope s_Keep_work) := ⟨rfl, rfl, rfl, by decide +kernel, rfl, by decide +kernel, by decide +kernel⟩
theorem ok_Keep_work (D : Apart J) (T : Txt K mg) (N : NodeF K J) (F : FnP K "work" "Keep.work" s_Keep_work f fd)
    (G_draw : ∀ C, DrawC J C → CalM P w K mg base (L2.CX P w) (2 * d + 2) C "draw" ["self"] (spDraw J d C)) :
    FnOk P w K mg base (L2.CX P w) (2 * d + 3) f fd ["self"] (spWork J (d + 1) J.keep) := by
  refine okX F sc_Keep_work (fun vs H Q E h => h.len) (fun cdv A outer s H vs Q E hr h px tk po => ?_)
  · obtain ⟨me, cs, lo, pre, post, t, x, m, f, r, x', m', rfl, hx, hd, G⟩ := h
    obtain ⟨rest, wh, o, c, rfl⟩ := cls_keep D hx
    have hC : DrawC J J.keep := .inr (.inr (.inr (.inl rfl)))
    have ca := N.c _ hC
    obtain ⟨a, tc, dx, fs, rfl, e, z, nc⟩ := G.nd.st
    obtain rfl := z
    have hw := G.inv.1
    have M := G.mid e
    obtain ⟨f0, rc, c', m1, rfl, hc, st⟩ := st_step G.ov rfl hd
    refine ⟨_, (pss_cons (ps_set (i := 1) sc_Keep_work.nd rfl (Or.inl rfl) (pe_dyn0 (pe_fld (pv 0) rfl) G_draw (hr.mono (by omega)) px))
  (pss_cons (ps_while po (PW.pt (pw_and (pt_cmpR op_notN (pv 1) pe_non (nomark _)) (pw_and1 (pt_cmpR op_ne (pe_op op_mod (pv 1) (pe_fld (pv 0) rfl)) (pe_fld (pv 0) rfl) (nomark _)))))
    (pss_one (ps_set (i := 1) sc_Keep_work.nd rfl (Or.inl rfl) (pe_dyn0 (pe_fld (pv 0) rfl) G_draw (hr.mono (by omega)) px))))
  (pss_one (ps_ret (pv 1))))), ?_⟩
    try dsimp only [cxOf, Cx.nox, Cx.wish]
    refine rd_at (σ' := [some (.ref a), none]) rfl ?_
    walk_at "go"
    refine rd_dyn ?_
    walk_at "go"
    refine rd_sf rfl e ca (N.na_ahead _ hC) rfl ?_
    obtain ⟨dc, fc, ec, lc⟩ := nc.obj
    refine rd_d (c.cls_draw J) ec lc ?_
    refine ⟨me, cs, lo, pre, post, tc, c, m, f0, rc, c', m1, rfl, rfl, hc, M.askR G.sep hc (fun hl H' M' => ?_) (fun hn H' M' f' => ?_)⟩
    · walk_at "go"
      refine ⟨fun f0 σ H' => ∃ rc c' m1, σ = [some (.ref a), some (resV rc)] ∧ rc ≠ .long ∧ Mid J d me cs lo pre post a tc (.ins J.keep dx [("ahead", .ref tc.ad), ("ended", .bl false), ("rest", .int rest), ("wheel", .int wh)]) c' m1 H H' ∧ Step f0 (.keep rest wh) o r x' m' c' m1 rc, ⟨f0, rc, c', m1, rfl, hl, M', st⟩, ?_⟩
      clear st M' hl H' hc m1 c' rc f0 hd
      rintro f0 σ H' ⟨rc, c', m1, rfl, hl, M', st⟩
      have e' := M'.ob
      walk_at "go"
      refine ⟨rfl, ?_⟩
      walk_at "go"
      cases rc with
      | long => exact absurd rfl hl
      | fin =>
        obtain ⟨rfl, rfl, rfl⟩ := st
        refine rd_NF rfl ?_
        walk_at "go"
        exact G.fin rfl _ (M'.toW rfl) M'.mt M'.fr
      | num n =>
        refine rd_NT (fun z => by cases z) ?_
        walk_at "go"
        refine rd_sf rfl e' ca (N.na_wheel _ hC) rfl ?_
        refine rd_I (by have := hw.1; omega) ?_
        walk_at "go"
        refine rd_sf rfl e' ca (N.na_rest _ hC) rfl ?_
        refine rd_ne rfl ?_
        walk_at "go"
        by_cases c0 : n % wh = rest
        · obtain ⟨rfl, rfl, rfl⟩ := step_tell (v := n) (o' := o) st (if_pos ((mod_iff hw.2.2.1 hw.2.2.2).mpr c0))
          refine rd_NF (by rw [c0]) ?_
          walk_at "go"
          exact G.num _ rfl _ (M'.toW rfl) M'.mt M'.fr
        · refine rd_NT (fun z => c0 (V.int.inj z)) ?_
          have ag := step_again (o' := o) st (if_neg fun z => c0 ((mod_iff hw.2.2.1 hw.2.2.2).mp z))
          obtain ⟨f1, rc1, c1, m1', rfl, hc1, st1⟩ := st_step G.ov rfl ag
          refine ⟨_, fun σ' H' z => ⟨f1, Nat.lt_succ_self _, z⟩, ?_⟩
          walk_at "go"
          refine rd_dyn ?_
          walk_at "go"
          refine rd_sf rfl e' ca (N.na_ahead _ hC) rfl ?_
          obtain ⟨dc, fc, ec, lc⟩ := M'.nd.obj
          refine rd_d (c'.cls_draw J) ec lc ?_
          refine ⟨me, cs, lo, pre, post, tc, c', m1, f1, rc1, c1, m1', rfl, rfl, hc1, M'.askR G.sep hc1 (fun hl H'' M'' => ?_) (fun hn H'' M'' f' => ?_)⟩
          · walk_at "go"
            exact ⟨rc1, c1, m1', rfl, hl, M'', st1⟩
          · subst hn
            obtain ⟨rfl, rfl, rfl⟩ := st1
            exact G.long rfl H'' M'' f'
    · subst hn
      obtain ⟨rfl, rfl, rfl⟩ := st
      exact G.long rfl H' M' f'
end
end Dc

set_option Elab.async false
set_option linter.all false
set_option maxRecDepth 100000
set_option maxHeartbeats 2000000
namespace Dc
open PySem PySem.Spec PyProof.Rows L2
local macro_rules | `(tactic| walk_at "ne") => `(tactic| first | assumption | (refine Ne.symm ?_; assumption) | exact ne_of (by assumption) (by assumption) (by intro q; cases q) | exact ne_of_none (by assumption) (by assumption) | exact Ne.symm (ne_of_none (by assumption) (by assumption)))
local macro_rules | `(tactic| walk_at "hp") => `(tactic| first | assumption | exact upd_same | (refine upd_keep ?_ (by assumption); walk_at "hp") | (refine upd_other ?_ ?_; · walk_at "ne"; · walk_at "hp"))
local macro_rules | `(tactic| walk_at "hl") => `(tactic| first | assumption | exact SqL.of (by walk_at "hp"))
local macro_rules | `(tactic| walk_at "ht") => `(tactic| first | assumption | exact SqT.of (by walk_at "hp"))
local macro_rules | `(tactic| walk_at "rd1") => `(tactic| first
  | ((with_reducible apply rd_var); exact rfl)
  | ((with_reducible apply rd_eq); exact rfl) | ((with_reducible apply rd_ne); exact rfl)
  | with_reducible first
  | refine iteT ?_ | refine iteF ?_ | refine rd_nF ?_ | refine rd_nT ?_ | refine rd_yes ?_ | refine rd_c ?_ | refine rd_op ?_ | refine rd_un ?_ | refine rd_test ?_ | refine rd_B ?_ | refine rd_bl ?_ | refine rd_seq ?_ | refine rd_next ?_ | refine rd_ifs ?_ | refine rd_asg ?_ | refine rd_name ?_ | refine rd_ret ?_ | refine rd_drop ?_
  | refine rd_call ?_ | refine rd_cons ?_ | refine rd_nil ?_ | refine rd_cb ?_ | refine rd_I0 ?_ | refine rd_U ?_ | refine rd_gsub ?_ | refine rd_lst ?_ | refine rd_tup ?_ | refine rd_if ?_ | refine rd_not ?_ | refine rd_rng1 ?_ | refine rd_itup ?_ | refine rd_ilst ?_ | refine rd_bm ?_ | refine rd_bm0 ?_ | refine rd_andV ?_ | refine rd_orV ?_ | refine rd_notV ?_)
local macro_rules | `(tactic| walk_at "rd") => `(tactic| repeat walk_at "rd1")
local macro_rules | `(tactic| walk_at "ci") => `(tactic| first | assumption | (show (0 : Int) < _; first | decide | omega) | exact ⟨by decide, by decide⟩ | exact Or.inr ⟨by decide, by decide⟩ | exact Or.inl ⟨by decide, by decide⟩ | exact ⟨by decide, by decide, by decide⟩ | exact Or.inl ⟨by omega, by omega⟩ | exact Or.inr ⟨by omega, by omega⟩)
local macro_rules | `(tactic| walk_at "ix") => `(tactic| first
  | ((with_reducible apply rd_ixL); (walk_at "hl"); exact rfl)
  | ((with_reducible apply rd_ixT); (walk_at "ht"); exact rfl)
  | ((with_reducible apply rd_lenL); (walk_at "hl"))
  | ((with_reducible apply rd_lenT); (walk_at "ht"))
  | ((with_reducible apply rd_tupOf); (walk_at "hl"))
  | ((with_reducible apply rd_listOf); (walk_at "hl"))
  | (with_reducible refine rd_min2 ?_)
  | ((with_reducible apply rd_I); (walk_at "ci"))
  | ((with_reducible apply rd_setL); (walk_at "hp"); exact rfl))
local macro_rules | `(tactic| walk_at "gs") => `(tactic| repeat first | walk_at "rd1" | walk_at "ix")
local macro_rules | `(tactic| walk_at "go") => `(tactic| repeat first | walk_at "rd1" | walk_at "ix" | with_reducible refine rd_and ?_ | with_reducible refine rd_or ?_)
local macro_rules | `(tactic| walk_at "fo") => `(tactic| (with_reducible refine rd_for ?_))
local macro_rules | `(tactic| walk_at "pm") => `(tactic| repeat first
  | with_reducible first | refine rd_pcons ?_ | refine rd_pstr ?_ | refine rd_pcap ?_ | refine rd_pwild ?_ | refine rd_pnil ?_ | refine rd_por ?_ | refine rd_pno ?_
  | ((with_reducible refine rd_eq rfl ?_); refine ⟨_, rfl, ?_⟩; first | refine rd_T rfl ?_ | refine rd_F (by decide) ?_)
  | dsimp only [List.nil_append, List.singleton_append, List.cons_append, setAll])
local macro_rules | `(tactic| walk_at "pc") => `(tactic| (refine rd_case ?_); (first | (refine rd_phit (SqT.of (by assumption)) rfl ?_) | (refine rd_pmiss (SqT.of (by assumption)) (by simp) ?_)); (walk_at "pm"))

section
variable {P : Program} {w : World} {K : PySem.W.Frag} {mg : Str → Option Value} {base : Heap} {J : Cls'} {f : Addr} {fd : FuncData} {H H0 : Hp} {me cs lo a : Addr} {d : Nat} {pre post : List Int} {tc : Tr} {ob : HO} {c : Nd} {m : Mt}
theorem st_ahead {f : Nat} {k : Kd} {o o' : Ow} {c : Nd} {m m' : Mt} {r r0 : Rs} {x' : Nd} (ho : o.over = false) (ha : ahead k o = some (r0, o')) (h : draw f (.st k o c) m = some (r, x', m')) : r = r0 ∧ x' = .st k (o'.fin r0) c ∧ m' = m := by
  cases f with
  | zero => simp only [draw] at h; cases h
  | succ f =>
    rw [draw_st, if_neg (by rw [ho]; decide), ha] at h
    cases h
    exact ⟨rfl, rfl, rfl⟩
theorem Mid.put (S : Sep me cs lo (.st a tc)) (M : Mid J d me cs lo pre post a tc ob c m H0 H) (ob' : HO) (h : fixd ob = false := by rfl) : Mid J d me cs lo pre post a tc ob' c m H0 (upd H a ob') :=
  ⟨upd_same, M.nd.fr (Fr.put (S := [a]) (by simp) (nt M.ob h)) (fun b hb q => by rw [List.mem_singleton] at q; rw [q] at hb; exact S.dj.1 hb), M.mt.put S.ad, M.inv, M.dep, M.bk, M.al, M.fr.putN (.inl List.mem_cons_self) (nt M.ob h)⟩
theorem sc_Unlike_work : FnScope ["self", "number"] ["self"] (defScope s_Unlike_work) := ⟨rfl, rfl, rfl, by decide +kernel, rfl, by decide +kernel, by decide +kernel⟩
theorem ok_Unlike_work (D : Apart J) (T : Txt K mg) (N : NodeF K J) (F : FnP K "work" "Unlike.work" s_Unlike_work f fd)
    (G_draw : ∀ C, DrawC J C → CalM P w K mg base (L2.CX P w) (2 * d + 2) C "draw" ["self"] (spDraw J d C)) :
    FnOk P w K mg base (L2.CX P w) (2 * d + 3) f fd ["self"] (spWork J (d + 1) J.unlike) := by
  refine okX F sc_Unlike_work (fun vs H Q E h => h.len) (fun cdv A outer s H vs Q E hr h px tk po => ?_)
  · obtain ⟨me, cs, lo, pre, post, t, x, m, f, r, x', m', rfl, hx, hd, G⟩ := h
    obtain ⟨o, c, rfl⟩ := cls_unlike D hx
    have hC : DrawC J J.unlike := .inr (.inr (.inr (.inr (.inr (.inr (.inr (.inr (.inl rfl))))))))
    have ca := N.c _ hC
    obtain ⟨a, tc, dx, fs, rfl, e, ⟨v, rfl, hv⟩, nc⟩ := G.nd.st
    obtain rfl := hv G.ov
    have hi : (0 < o.told ↔ o.last.isSome = true) := G.inv.2.1
    have M := G.mid e
    obtain ⟨f0, rc, c', m1, rfl, hc, st⟩ := st_step G.ov rfl hd
    refine ⟨_, (pss_cons (ps_set (i := 1) sc_Unlike_work.nd rfl (Or.inl rfl) (pe_dyn0 (pe_fld (pv 0) rfl) G_draw (hr.mono (by omega)) px))
  (pss_cons (ps_while po (PW.pt (pw_and (pt_cmpR op_notN (pv 1) pe_non (nomark _)) (pw_and1 (pt_cmpR op_eq (pv 1) (pe_fld (pv 0) rfl) (nomark _)))))
    (pss_one (ps_set (i := 1) sc_Unlike_work.nd rfl (Or.inl rfl) (pe_dyn0 (pe_fld (pv 0) rfl) G_draw (hr.mono (by omega)) px))))
  (pss_cons (ps_fld (pv 0) (pv 1) rfl)
  (pss_one (ps_ret (pv 1)))))), ?_⟩
    try dsimp only [cxOf, Cx.nox, Cx.wish]
    refine rd_at (σ' := [some (.ref a), none]) rfl ?_
    walk_at "go"
    refine rd_dyn ?_
    walk_at "go"
    refine rd_sf rfl e ca (N.na_ahead _ hC) rfl ?_
    obtain ⟨dc, fc, ec, lc⟩ := nc.obj
    refine rd_d (c.cls_draw J) ec lc ?_
    refine ⟨me, cs, lo, pre, post, tc, c, m, f0, rc, c', m1, rfl, rfl, hc, M.askR G.sep hc (fun hl H' M' => ?_) (fun hn H' M' f' => ?_)⟩
    · walk_at "go"
      refine ⟨fun f0 σ H' => ∃ rc c' m1, σ = [some (.ref a), some (resV rc)] ∧ rc ≠ .long ∧ Mid J d me cs lo pre post a tc (.ins J.unlike dx [("ahead", .ref tc.ad), ("ended", .bl false), ("last", optV o.last)]) c' m1 H H' ∧ Step f0 .unlike o r x' m' c' m1 rc, ⟨f0, rc, c', m1, rfl, hl, M', st⟩, ?_⟩
      clear st M' hl H' hc m1 c' rc f0 hd
      rintro f0 σ H' ⟨rc, c', m1, rfl, hl, M', st⟩
      have e' := M'.ob
      walk_at "go"
      refine ⟨rfl, ?_⟩
      walk_at "go"
      cases rc with
      | long => exact absurd rfl hl
      | fin =>
        obtain ⟨rfl, rfl, rfl⟩ := st
        refine rd_NF rfl ?_
        walk_at "go"
        refine rd_fset ?_
        walk_at "go"
        refine rd_st e' ca (N.na_last _ hC) (by show 3 < 1000; omega) ?_
        walk_at "go"
        have M2 := M'.put G.sep (.ins J.unlike dx [("ahead", .ref tc.ad), ("ended", .bl false), ("last", .non)])
        exact G.fin rfl _ (Mid.toW (k := .unlike) M2 ⟨_, rfl, fun z => by cases z⟩) M2.mt M2.fr
      | num n =>
        refine rd_NT (fun z => by cases z) ?_
        walk_at "go"
        refine rd_sf rfl e' ca (N.na_last _ hC) rfl ?_
        refine rd_eq (by cases o.last <;> rfl) ?_
        walk_at "go"
        by_cases c0 : o.last = some n
        · refine rd_T (by rw [c0]; rfl) ?_
          have ag := step_again (o' := o) st (if_pos ⟨hi.mpr (by rw [c0]; rfl), c0⟩)
          obtain ⟨f1, rc1, c1, m1', rfl, hc1, st1⟩ := st_step G.ov rfl ag
          refine ⟨_, fun σ' H' z => ⟨f1, Nat.lt_succ_self _, z⟩, ?_⟩
          walk_at "go"
          refine rd_dyn ?_
          walk_at "go"
          refine rd_sf rfl e' ca (N.na_ahead _ hC) rfl ?_
          obtain ⟨dc, fc, ec, lc⟩ := M'.nd.obj
          refine rd_d (c'.cls_draw J) ec lc ?_
          refine ⟨me, cs, lo, pre, post, tc, c', m1, f1, rc1, c1, m1', rfl, rfl, hc1, M'.askR G.sep hc1 (fun hl H'' M'' => ?_) (fun hn H'' M'' f' => ?_)⟩
          · walk_at "go"
            exact ⟨rc1, c1, m1', rfl, hl, M'', st1⟩
          · subst hn
            obtain ⟨rfl, rfl, rfl⟩ := st1
            exact G.long rfl H'' M'' f'
        · obtain ⟨rfl, rfl, rfl⟩ := step_tell (v := n) (o' := o) st (if_neg fun z => c0 z.2)
          refine rd_F (fun z => c0 ?_) ?_
          · cases q : o.last with
            | none => rw [q] at z; cases z
            | some l => rw [q] at z; cases z; rfl
          walk_at "go"
          refine rd_fset ?_
          walk_at "go"
          refine rd_st e' ca (N.na_last _ hC) (by show 3 < 1000; omega) ?_
          walk_at "go"
          have M2 := M'.put G.sep (.ins J.unlike dx [("ahead", .ref tc.ad), ("ended", .bl false), ("last", .int n)])
          exact G.num _ rfl _ (Mid.toW (k := .unlike) M2 ⟨_, rfl, fun z => rfl⟩) M2.mt M2.fr
    · subst hn
      obtain ⟨rfl, rfl, rfl⟩ := st
      exact G.long rfl H' M' f'
theorem sc_Until_work : FnScope ["self", "number"] ["self"] (defScope s_Until_work) := ⟨rfl, rfl, rfl, by decide +kernel, rfl, by decide +kernel, by decide +kernel⟩
theorem ok_Until_work (D : Apart J) (T : Txt K mg) (N : NodeF K J)
    (G_undone : CalM P w K mg base CX0 1 J.meter "note_undone" ["self", "number"] (spUndone J)) (F : FnP K "work" "Until.work" s_Until_work f fd)
    (G_draw : ∀ C, DrawC J C → CalM P w K mg base (L2.CX P w) (2 * d + 2) C "draw" ["self"] (spDraw J d C)) :
    FnOk P w K mg base (L2.CX P w) (2 * d + 3) f fd ["self"] (spWork J (d + 1) J.until') := by
  refine okX F sc_Until_work (fun vs H Q E h => h.len) (fun cdv A outer s H vs Q E hr h px tk po => ?_)
  · obtain ⟨me, cs, lo, pre, post, t, x, m, f, r, x', m', rfl, hx, hd, G⟩ := h
    obtain ⟨n0, o, c, rfl⟩ := cls_until D hx
    have hC : DrawC J J.until' := .inr (.inr (.inr (.inr (.inr (.inr (.inr (.inl rfl)))))))
    have ca := N.c _ hC
    obtain ⟨a, tc, dx, fs, rfl, e, rfl, nc⟩ := G.nd.st
    have M := G.mid e
    obtain ⟨f0, rc, c', m1, rfl, hc, st⟩ := st_step G.ov rfl hd
    refine ⟨_, (pss_cons (ps_set (i := 1) sc_Until_work.nd rfl (Or.inl rfl) (pe_dyn0 (pe_fld (pv 0) rfl) G_draw (hr.mono (by omega)) px))
  (pss_cons (ps_if (PW.pt (pw_or (pt_cmpR op_isN (pv 1) pe_non (nomark _)) (pw_or1 (pt_cmpR op_lt (pv 1) (pe_fld (pv 0) rfl) (nomark _)))))
    (pss_one (ps_ret (pv 1))) pss_nil)
  (pss_cons (ps_expr (pe_cm (pe_fld (pv 0) rfl) G_undone (hr.mono (by omega)) pass0 (pa_cons (pv 1) pa_nil)))
  (pss_one (ps_ret pe_non))))), ?_⟩
    try dsimp only [cxOf, Cx.nox, Cx.wish]
    refine rd_at (σ' := [some (.ref a), none]) rfl ?_
    walk_at "go"
    refine rd_dyn ?_
    walk_at "go"
    refine rd_sf rfl e ca (N.na_ahead _ hC) rfl ?_
    obtain ⟨dc, fc, ec, lc⟩ := nc.obj
    refine rd_d (c.cls_draw J) ec lc ?_
    refine ⟨me, cs, lo, pre, post, tc, c, m, f0, rc, c', m1, rfl, rfl, hc, M.ask G.sep hc (fun n hn H' M' => ?_) (fun hn H' M' => ?_) (fun hn H' M' f' => ?_)⟩
    · subst hn
      have e' := M'.ob
      walk_at "go"
      refine ⟨rfl, ?_⟩
      walk_at "go"
      refine rd_F (fun z => by cases z) ?_
      walk_at "go"
      refine rd_sf rfl e' ca (N.na_n _ hC) rfl ?_
      walk_at "go"
      refine rd_dec (fun c0 => ?_) (fun c0 => ?_)
      · obtain ⟨rfl, rfl, rfl⟩ := step_tell (v := n) (o' := o) st (if_neg (by omega))
        walk_at "go"
        exact G.num _ rfl _ (Mid.toW (k := .until n0) M' rfl) M'.mt M'.fr
      · obtain ⟨rfl, rfl, rfl⟩ := step_stop st (if_pos (by omega))
        walk_at "go"
        refine rd_meth ?_
        refine rd_sf rfl e' ca (N.na_meter _ hC) rfl ?_
        obtain ⟨⟨dm, e0⟩, _, _⟩ := id M'.mt
        refine rd_m e0 rfl ?_
        walk_at "go"
        refine ⟨me, cs, lo, m1, _, n, rfl, M'.mt, G.sep.n1, G.sep.n2, G.sep.n3, by have := M'.al; omega, fun H2 mt2 f2 => ?_⟩
        walk_at "go"
        refine G.fin rfl _ ⟨⟨_, ⟨dx, f2.at e' ?_⟩, rfl⟩, M'.nd.fr f2 fun b hb q => ?_⟩ mt2 (M'.fr.tr (f2.mono fun b hb => in1 hb))
        · have := G.sep.ad
          simp only [Tr.ad] at this
          simpa using this.2.2
        · rw [List.mem_singleton] at q
          rw [q] at hb
          exact G.sep.st.hlo hb
    · subst hn
      obtain ⟨rfl, rfl, rfl⟩ := st
      walk_at "go"
      refine ⟨rfl, ?_⟩
      walk_at "go"
      refine rd_T rfl ?_
      walk_at "go"
      exact G.fin rfl _ (Mid.toW (k := .until n0) M' rfl) M'.mt M'.fr
    · subst hn
      obtain ⟨rfl, rfl, rfl⟩ := st
      exact G.long rfl H' M' f'
theorem sc_Take_work : FnScope ["self"] ["self"] (defScope s_Take_work) := ⟨rfl, rfl, rfl, by decide +kernel, rfl, by decide +kernel, by decide +kernel⟩
theorem ok_Take_work (D : Apart J) (T : Txt K mg) (N : NodeF K J) (F : FnP K "work" "Take.work" s_Take_work f fd)
    (G_draw : ∀ C, DrawC J C → CalM P w K mg base (L2.CX P w) (2 * d + 2) C "draw" ["self"] (spDraw J d C)) :
    FnOk P w K mg base (L2.CX P w) (2 * d + 3) f fd ["self"] (spWork J (d + 1) J.take) := by
  refine okX F sc_Take_work (fun vs H Q E h => h.len) (fun cdv A outer s H vs Q E hr h px tk po => ?_)
  · obtain ⟨me, cs, lo, pre, post, t, x, m, f, r, x', m', rfl, hx, hd, G⟩ := h
    obtain ⟨kk, o, c, rfl⟩ := cls_take D hx
    have hC : DrawC J J.take := .inr (.inr (.inr (.inr (.inr (.inl rfl)))))
    have ca := N.c _ hC
    obtain ⟨a, tc, dx, fs, rfl, e, ⟨l, rfl, hl⟩, nc⟩ := G.nd.st
    obtain rfl := hl G.ov
    have M := G.mid e
    refine ⟨_, (pss_cons (ps_if (pt_cmpR op_eq (pe_fld (pv 0) rfl) pe_int (nomark _))
    (pss_one (ps_ret pe_non)) pss_nil)
  (pss_cons (ps_fldaug (pv 0) pe_int in_sub)
  (pss_one (ps_ret (pe_dyn0 (pe_fld (pv 0) rfl) G_draw (hr.mono (by omega)) px))))), ?_⟩
    try dsimp only [cxOf, Cx.nox, Cx.wish]
    refine rd_at (σ' := [some (.ref a)]) rfl ?_
    walk_at "go"
    refine rd_sf rfl e ca (N.na_left _ hC) rfl ?_
    walk_at "go"
    refine rd_dec (fun c0 => ?_) (fun c0 => ?_)
    · have c1 : (o.told : Int) = kk := by have := V.int.inj c0; omega
      have ha : ahead (.take kk) o = some (.fin, o) := if_pos c1
      obtain ⟨rfl, rfl, rfl⟩ := st_ahead G.ov ha hd
      walk_at "go"
      exact G.fin rfl _ (Mid.toW (k := .take kk) M ⟨_, rfl, fun z => by cases z⟩) M.mt M.fr
    · have c1 : ¬ (o.told : Int) = kk := fun z => c0 (by rw [z, Int.sub_self])
      have ha : ahead (.take kk) o = none := if_neg c1
      obtain ⟨f0, rc, c', m1, rfl, hc, st⟩ := st_step G.ov ha hd
      walk_at "go"
      refine rd_faug rfl e ca (N.na_left _ hC) rfl ?_
      walk_at "go"
      refine ⟨_, _, rfl, rfl, dx, _, e, by show 3 < 1000; omega, ?_⟩
      have M2 := M.put G.sep (.ins J.take dx [("ahead", .ref tc.ad), ("ended", .bl false), ("left", .int (kk - o.told - 1))])
      have e2 := M2.ob
      walk_at "go"
      refine rd_dyn ?_
      refine rd_sf rfl e2 ca (N.na_ahead _ hC) rfl ?_
      obtain ⟨dc, fc, ec, lc⟩ := M2.nd.obj
      refine rd_d (c.cls_draw J) ec lc ?_
      refine ⟨me, cs, lo, pre, post, tc, c, m, f0, rc, c', m1, rfl, rfl, hc, M2.ask G.sep hc (fun n hn H' M' => ?_) (fun hn H' M' => ?_) (fun hn H' M' f' => ?_)⟩
      · subst hn
        obtain ⟨rfl, rfl, rfl⟩ := step_tell (v := n) (o' := o) st rfl
        exact G.num _ rfl _ (Mid.toW (k := .take kk) M' ⟨_, rfl, fun _ => by show kk - o.told - 1 = kk - ((o.told + 1 : Nat) : Int); omega⟩) M'.mt M'.fr
      · subst hn
        obtain ⟨rfl, rfl, rfl⟩ := st
        exact G.fin rfl _ (Mid.toW (k := .take kk) M' ⟨_, rfl, fun z => by cases z⟩) M'.mt M'.fr
      · subst hn
        obtain ⟨rfl, rfl, rfl⟩ := st
        exact G.long rfl H' M' f'
end
end Dc

set_option Elab.async false
set_option linter.all false
set_option maxRecDepth 100000
set_option maxHeartbeats 2000000
namespace Dc
open PySem PySem.Spec PyProof.Rows L2
local macro_rules | `(tactic| walk_at "ne") => `(tactic| first | assumption | (refine Ne.symm ?_; assumption) | exact ne_of (by assumption) (by assumption) (by intro q; cases q) | exact ne_of_none (by assumption) (by assumption) | exact Ne.symm (ne_of_none (by assumption) (by assumption)))
local macro_rules | `(tactic| walk_at "hp") => `(tactic| first | assumption | exact upd_same | (refine upd_keep ?_ (by assumption); walk_at "hp") | (refine upd_other ?_ ?_; · walk_at "ne"; · walk_at "hp"))
local macro_rules | `(tactic| walk_at "hl") => `(tactic| first | assumption | exact SqL.of (by walk_at "hp"))
local macro_rules | `(tactic| walk_at "ht") => `(tactic| first | assumption | exact SqT.of (by walk_at "hp"))
local macro_rules | `(tactic| walk_at "rd1") => `(tactic| first
  | ((with_reducible apply rd_var); exact rfl)
  | ((with_reducible apply rd_eq); exact rfl) | ((with_reducible apply rd_ne); exact rfl)
  | with_reducible first
  | refine iteT ?_ | refine iteF ?_ | refine rd_nF ?_ | refine rd_nT ?_ | refine rd_yes ?_ | refine rd_c ?_ | refine rd_op ?_ | refine rd_un ?_ | refine rd_test ?_ | refine rd_B ?_ | refine rd_bl ?_ | refine rd_seq ?_ | refine rd_next ?_ | refine rd_ifs ?_ | refine rd_asg ?_ | refine rd_name ?_ | refine rd_ret ?_ | refine rd_drop ?_
  | refine rd_call ?_ | refine rd_cons ?_ | refine rd_nil ?_ | refine rd_cb ?_ | refine rd_I0 ?_ | refine rd_U ?_ | refine rd_gsub ?_ | refine rd_lst ?_ | refine rd_tup ?_ | refine rd_if ?_ | refine rd_not ?_ | refine rd_rng1 ?_ | refine rd_itup ?_ | refine rd_ilst ?_ | refine rd_bm ?_ | refine rd_bm0 ?_ | refine rd_andV ?_ | refine rd_orV ?_ | refine rd_notV ?_)
local macro_rules | `(tactic| walk_at "rd") => `(tactic| repeat walk_at "rd1")
local macro_rules | `(tactic| walk_at "ci") => `(tactic| first | assumption | (show (0 : Int) < _; first | decide | omega) | exact ⟨by decide, by decide⟩ | exact Or.inr ⟨by decide, by decide⟩ | exact Or.inl ⟨by decide, by decide⟩ | exact ⟨by decide, by decide, by decide⟩ | exact Or.inl ⟨by omega, by omega⟩ | exact Or.inr ⟨by omega, by omega⟩)
local macro_rules | `(tactic| walk_at "ix") => `(tactic| first
  | ((with_reducible apply rd_ixL); (walk_at "hl"); exact rfl)
  | ((with_reducible apply rd_ixT); (walk_at "ht"); exact rfl)
  | ((with_reducible apply rd_lenL); (walk_at "hl"))
  | ((with_reducible apply rd_lenT); (walk_at "ht"))
  | ((with_reducible apply rd_tupOf); (walk_at "hl"))
  | ((with_reducible apply rd_listOf); (walk_at "hl"))
  | (with_reducible refine rd_min2 ?_)
  | ((with_reducible apply rd_I); (walk_at "ci"))
  | ((with_reducible apply rd_setL); (walk_at "hp"); exact rfl))
local macro_rules | `(tactic| walk_at "gs") => `(tactic| repeat first | walk_at "rd1" | walk_at "ix")
local macro_rules | `(tactic| walk_at "go") => `(tactic| repeat first | walk_at "rd1" | walk_at "ix" | with_reducible refine rd_and ?_ | with_reducible refine rd_or ?_)
local macro_rules | `(tactic| walk_at "fo") => `(tactic| (with_reducible refine rd_for ?_))
local macro_rules | `(tactic| walk_at "pm") => `(tactic| repeat first
  | with_reducible first | refine rd_pcons ?_ | refine rd_pstr ?_ | refine rd_pcap ?_ | refine rd_pwild ?_ | refine rd_pnil ?_ | refine rd_por ?_ | refine rd_pno ?_
  | ((with_reducible refine rd_eq rfl ?_); refine ⟨_, rfl, ?_⟩; first | refine rd_T rfl ?_ | refine rd_F (by decide) ?_)
  | dsimp only [List.nil_append, List.singleton_append, List.cons_append, setAll])
local macro_rules | `(tactic| walk_at "pc") => `(tactic| (refine rd_case ?_); (first | (refine rd_phit (SqT.of (by assumption)) rfl ?_) | (refine rd_pmiss (SqT.of (by assumption)) (by simp) ?_)); (walk_at "pm"))

section
variable {P : Program} {w : World} {K : PySem.W.Frag} {mg : Str → Option Value} {base : Heap} {J : Cls'} {f : Addr} {fd : FuncData} {H H0 : Hp} {me cs lo a : Addr} {d : Nat} {pre post : List Int} {tc : Tr} {ob : HO} {c : Nd} {m : Mt}
theorem sc_Drop_work : FnScope ["self"] ["self"] (defScope s_Drop_work) := ⟨rfl, rfl, rfl, by decide +kernel, rfl, by decide +kernel, by decide +kernel⟩
theorem ok_Drop_work (D : Apart J) (T : Txt K mg) (N : NodeF K J) (F : FnP K "work" "Drop.work" s_Drop_work f fd)
    (G_draw : ∀ C, DrawC J C → CalM P w K mg base (L2.CX P w) (2 * d + 2) C "draw" ["self"] (spDraw J d C)) :
    FnOk P w K mg base (L2.CX P w) (2 * d + 3) f fd ["self"] (spWork J (d + 1) J.drop) := by
  refine okX F sc_Drop_work (fun vs H Q E h => h.len) (fun cdv A outer s H vs Q E hr h px tk po => ?_)
  · obtain ⟨me, cs, lo, pre, post, t, x, m, f, r, x', m', rfl, hx, hd, G⟩ := h
    obtain ⟨kk, o, c, rfl⟩ := cls_drop D hx
    have hC : DrawC J J.drop := .inr (.inr (.inr (.inr (.inl rfl))))
    have ca := N.c _ hC
    obtain ⟨a, tc, dx, fs, rfl, e, ⟨l, rfl, hv⟩, nc⟩ := G.nd.st
    have hl := hv G.ov
    have M := G.mid e
    have GN := G.num
    have GF := G.fin
    have GL := G.long
    have hov : o.over = false := G.ov
    have S := G.sep
    clear G nc hv e
    refine ⟨_, (pss_cons (ps_while po (pt_cmpR op_gt (pe_fld (pv 0) rfl) pe_int (nomark _))
    (pss_cons (ps_if (pt_cmpR op_isN (pe_dyn0 (pe_fld (pv 0) rfl) G_draw (hr.mono (by omega)) px) pe_non (nomark _))
      (pss_one (ps_ret pe_non)) pss_nil)
    (pss_one (ps_fldaug (pv 0) pe_int in_sub))))
  (pss_one (ps_ret (pe_dyn0 (pe_fld (pv 0) rfl) G_draw (hr.mono (by omega)) px)))), ?_⟩
    try dsimp only [cxOf, Cx.nox, Cx.wish]
    refine rd_at (σ' := [some (.ref a)]) rfl ?_
    walk_at "go"
    refine ⟨fun f0 σ H' => ∃ (o : Ow) (c : Nd) (m1 : Mt) (l : Int), σ = [some (.ref a)] ∧ o.over = false ∧ (0 ≤ l ∧ ((l = 0 ∧ kk ≤ o.left) ∨ l = kk - o.left)) ∧ Mid J d me cs lo pre post a tc (.ins J.drop dx [("ahead", .ref tc.ad), ("ended", .bl false), ("left", .int l)]) c m1 H H' ∧ draw f0 (.st (.drop kk) o c) m1 = some (r, x', m'), ⟨f, o, c, m, l, rfl, hov, hl, M, hd⟩, ?_⟩
    clear M hl hov hd l m hx c o f
    rintro f0 σ H' ⟨o, c, m1, l, rfl, hov, hl, M', hd⟩
    have e' := M'.ob
    obtain ⟨f1, rc1, c1, m1', rfl, hc1, st1⟩ := st_step hov rfl hd
    have hp : ∀ n, pass (.drop kk) o n = if o.left + 1 ≤ kk then .again { o with left := o.left + 1 } else .tell n { o with left := o.left + 1 } := fun n => rfl
    walk_at "go"
    refine rd_sf rfl e' ca (N.na_left _ hC) rfl ?_
    walk_at "go"
    refine rd_dec (fun c0 => ?_) (fun c0 => ?_)
    · refine ⟨_, fun σ' H' z => ⟨f1, Nat.lt_succ_self _, z⟩, ?_⟩
      walk_at "go"
      refine rd_dyn ?_
      refine rd_sf rfl e' ca (N.na_ahead _ hC) rfl ?_
      obtain ⟨dc, fc, ec, lc⟩ := M'.nd.obj
      refine rd_d (c.cls_draw J) ec lc ?_
      refine ⟨me, cs, lo, pre, post, tc, c, m1, f1, rc1, c1, m1', rfl, rfl, hc1, M'.ask S hc1 (fun n hn H'' M'' => ?_) (fun hn H'' M'' => ?_) (fun hn H'' M'' f' => ?_)⟩
      · subst hn
        have ag := step_again (o' := { o with left := o.left + 1 }) st1 (by rw [hp]; exact if_pos (by omega))
        have e2 := M''.ob
        walk_at "go"
        refine ⟨rfl, ?_⟩
        walk_at "go"
        refine rd_F (fun z => by cases z) ?_
        walk_at "go"
        refine rd_faug rfl e2 ca (N.na_left _ hC) rfl ?_
        walk_at "go"
        refine ⟨_, _, rfl, rfl, dx, _, e2, by show 3 < 1000; omega, ?_⟩
        exact ⟨{ o with left := o.left + 1 }, c1, m1', l - 1, rfl, hov, ⟨by omega, .inr (by show l - 1 = kk - (o.left + 1); omega)⟩, M''.put S (.ins J.drop dx [("ahead", .ref tc.ad), ("ended", .bl false), ("left", .int (l - 1))]), ag⟩
      · subst hn
        obtain ⟨rfl, rfl, rfl⟩ := st1
        walk_at "go"
        refine ⟨rfl, ?_⟩
        walk_at "go"
        refine rd_T rfl ?_
        walk_at "go"
        exact GF rfl _ (Mid.toW (k := .drop kk) M'' ⟨_, rfl, fun z => by cases z⟩) M''.mt M''.fr
      · subst hn
        obtain ⟨rfl, rfl, rfl⟩ := st1
        exact GL rfl H'' M'' f'
    · walk_at "go"
      refine rd_dyn ?_
      refine rd_sf rfl e' ca (N.na_ahead _ hC) rfl ?_
      obtain ⟨dc, fc, ec, lc⟩ := M'.nd.obj
      refine rd_d (c.cls_draw J) ec lc ?_
      refine ⟨me, cs, lo, pre, post, tc, c, m1, f1, rc1, c1, m1', rfl, rfl, hc1, M'.ask S hc1 (fun n hn H'' M'' => ?_) (fun hn H'' M'' => ?_) (fun hn H'' M'' f' => ?_)⟩
      · subst hn
        obtain ⟨rfl, rfl, rfl⟩ := step_tell (v := n) (o' := { o with left := o.left + 1 }) st1 (by rw [hp]; exact if_neg (by omega))
        exact GN _ rfl _ (Mid.toW (k := .drop kk) M'' ⟨_, rfl, fun _ => ⟨hl.1, .inl ⟨by omega, by show kk ≤ o.left + 1; omega⟩⟩⟩) M''.mt M''.fr
      · subst hn
        obtain ⟨rfl, rfl, rfl⟩ := st1
        exact GF rfl _ (Mid.toW (k := .drop kk) M'' ⟨_, rfl, fun z => by cases z⟩) M''.mt M''.fr
      · subst hn
        obtain ⟨rfl, rfl, rfl⟩ := st1
        exact GL rfl H'' M'' f'
theorem sc_Each_work : FnScope ["self"] ["self"] (defScope s_Each_work) := ⟨rfl, rfl, rfl, by decide +kernel, rfl, by decide +kernel, by decide +kernel⟩
theorem ok_Each_work (D : Apart J) (T : Txt K mg) (N : NodeF K J) (F : FnP K "work" "Each.work" s_Each_work f fd)
    (G_draw : ∀ C, DrawC J C → CalM P w K mg base (L2.CX P w) (2 * d + 2) C "draw" ["self"] (spDraw J d C)) :
    FnOk P w K mg base (L2.CX P w) (2 * d + 3) f fd ["self"] (spWork J (d + 1) J.each) := by
  refine okX F sc_Each_work (fun vs H Q E h => h.len) (fun cdv A outer s H vs Q E hr h px tk po => ?_)
  · obtain ⟨me, cs, lo, pre, post, t, x, m, f, r, x', m', rfl, hx, hd, G⟩ := h
    obtain ⟨kk, o, c, rfl⟩ := cls_each D hx
    have hC : DrawC J J.each := .inr (.inr (.inr (.inr (.inr (.inr (.inl rfl))))))
    have ca := N.c _ hC
    obtain ⟨a, tc, dx, fs, rfl, e, ⟨l, v, rfl, hl⟩, nc⟩ := G.nd.st
    obtain ⟨rfl, hv⟩ := hl G.ov
    obtain ⟨i1, i2, i3⟩ := G.inv.2.1
    have M := G.mid e
    refine ⟨_, (pss_cons (ps_if (pt_cmpR op_eq (pe_fld (pv 0) rfl) pe_int (nomark _))
    (pss_cons (ps_fld (pv 0) (pe_dyn0 (pe_fld (pv 0) rfl) G_draw (hr.mono (by omega)) px) rfl)
    (pss_one (ps_fld (pv 0) (pe_fld (pv 0) rfl) rfl))) pss_nil)
  (pss_cons (ps_fldaug (pv 0) pe_int in_sub)
  (pss_one (ps_ret (pe_fld (pv 0) rfl))))), ?_⟩
    try dsimp only [cxOf, Cx.nox, Cx.wish]
    refine rd_at (σ' := [some (.ref a)]) rfl ?_
    walk_at "go"
    refine rd_sf rfl e ca (N.na_left _ hC) rfl ?_
    walk_at "go"
    refine rd_dec (fun c0 => ?_) (fun c0 => ?_)
    · have c1 : ¬ 0 < o.left := by have := V.int.inj c0; omega
      have ha : ahead (.each kk) o = none := if_neg c1
      obtain ⟨f0, rc, c', m1, rfl, hc, st⟩ := st_step G.ov ha hd
      walk_at "go"
      refine rd_fset ?_
      refine rd_dyn ?_
      refine rd_sf rfl e ca (N.na_ahead _ hC) rfl ?_
      obtain ⟨dc, fc, ec, lc⟩ := M.nd.obj
      refine rd_d (c.cls_draw J) ec lc ?_
      refine ⟨me, cs, lo, pre, post, tc, c, m, f0, rc, c', m1, rfl, rfl, hc, M.askR G.sep hc (fun hl H' M' => ?_) (fun hn H' M' f' => ?_)⟩
      · have e' := M'.ob
        walk_at "go"
        refine rd_st e' ca (N.na_number _ hC) (by show 5 < 1000; omega) ?_
        have M2 := M'.put G.sep (.ins J.each dx [("ahead", .ref tc.ad), ("ended", .bl false), ("many", .int kk), ("left", .int o.left), ("number", resV rc)])
        have e2 := M2.ob
        walk_at "go"
        dsimp only
        refine rd_fset ?_
        refine rd_sf rfl e2 ca (N.na_many _ hC) rfl ?_
        walk_at "go"
        refine rd_st e2 ca (N.na_left _ hC) (by show 5 < 1000; omega) ?_
        have M3 := M2.put G.sep (.ins J.each dx [("ahead", .ref tc.ad), ("ended", .bl false), ("many", .int kk), ("left", .int kk), ("number", resV rc)])
        have e3 := M3.ob
        walk_at "go"
        refine rd_faug rfl e3 ca (N.na_left _ hC) rfl ?_
        walk_at "go"
        refine ⟨_, _, rfl, rfl, dx, _, e3, by show 5 < 1000; omega, ?_⟩
        have M4 := M3.put G.sep (.ins J.each dx [("ahead", .ref tc.ad), ("ended", .bl false), ("many", .int kk), ("left", .int (kk - 1)), ("number", resV rc)])
        have e4 := M4.ob
        walk_at "go"
        refine rd_sf rfl e4 ca (N.na_number _ hC) rfl ?_
        cases rc with
        | long => exact absurd rfl hl
        | num n =>
          obtain ⟨rfl, rfl, rfl⟩ := step_tell (v := n) (o' := { o with left := kk - 1 }) st rfl
          exact G.num _ rfl _ (Mid.toW (k := .each kk) M4 ⟨_, _, rfl, fun _ => ⟨rfl, fun _ => rfl⟩⟩) M4.mt M4.fr
        | fin =>
          obtain ⟨rfl, rfl, rfl⟩ := st
          exact G.fin rfl _ (Mid.toW (k := .each kk) M4 ⟨_, _, rfl, fun z => by cases z⟩) M4.mt M4.fr
      · subst hn
        obtain ⟨rfl, rfl, rfl⟩ := st
        exact G.long rfl H' M' f'
    · have c1 : 0 < o.left := by
        rcases Int.lt_or_eq_of_le i1 with q | q
        · exact q
        · exact absurd (by rw [← q]) c0
      have ha : ahead (.each kk) o = some (.num (o.last.getD 0), { o with left := o.left - 1 }) := if_pos c1
      obtain ⟨rfl, rfl, rfl⟩ := st_ahead G.ov ha hd
      obtain rfl := hv c1
      walk_at "go"
      refine rd_faug rfl e ca (N.na_left _ hC) rfl ?_
      walk_at "go"
      refine ⟨_, _, rfl, rfl, dx, _, e, by show 5 < 1000; omega, ?_⟩
      have M4 := M.put G.sep (.ins J.each dx [("ahead", .ref tc.ad), ("ended", .bl false), ("many", .int kk), ("left", .int (o.left - 1)), ("number", .int (o.last.getD 0))])
      have e4 := M4.ob
      walk_at "go"
      refine rd_sf rfl e4 ca (N.na_number _ hC) rfl ?_
      exact G.num _ rfl _ (Mid.toW (k := .each kk) M4 ⟨_, _, rfl, fun _ => ⟨rfl, fun _ => rfl⟩⟩) M4.mt M4.fr
end
end Dc

set_option Elab.async false
set_option linter.all false
set_option maxRecDepth 100000
set_option maxHeartbeats 2000000
namespace Dc
open PySem PySem.Spec PyProof.Rows L2
local macro_rules | `(tactic| walk_at "ne") => `(tactic| first | assumption | (refine Ne.symm ?_; assumption) | exact ne_of (by assumption) (by assumption) (by intro q; cases q) | exact ne_of_none (by assumption) (by assumption) | exact Ne.symm (ne_of_none (by assumption) (by assumption)))
local macro_rules | `(tactic| walk_at "hp") => `(tactic| first | assumption | exact upd_same | (refine upd_keep ?_ (by assumption); walk_at "hp") | (refine upd_other ?_ ?_; · walk_at "ne"; · walk_at "hp"))
local macro_rules | `(tactic| walk_at "hl") => `(tactic| first | assumption | exact SqL.of (by walk_at "hp"))
local macro_rules | `(tactic| walk_at "ht") => `(tactic| first | assumption | exact SqT.of (by walk_at "hp"))
local macro_rules | `(tactic| walk_at "rd1") => `(tactic| first
  | ((with_reducible apply rd_var); exact rfl)
  | ((with_reducible apply rd_eq); exact rfl) | ((with_reducible apply rd_ne); exact rfl)
  | with_reducible first
  | refine iteT ?_ | refine iteF ?_ | refine rd_nF ?_ | refine rd_nT ?_ | refine rd_yes ?_ | refine rd_c ?_ | refine rd_op ?_ | refine rd_un ?_ | refine rd_test ?_ | refine rd_B ?_ | refine rd_bl ?_ | refine rd_seq ?_ | refine rd_next ?_ | refine rd_ifs ?_ | refine rd_asg ?_ | refine rd_name ?_ | refine rd_ret ?_ | refine rd_drop ?_
  | refine rd_call ?_ | refine rd_cons ?_ | refine rd_nil ?_ | refine rd_cb ?_ | refine rd_I0 ?_ | refine rd_U ?_ | refine rd_gsub ?_ | refine rd_lst ?_ | refine rd_tup ?_ | refine rd_if ?_ | refine rd_not ?_ | refine rd_rng1 ?_ | refine rd_itup ?_ | refine rd_ilst ?_ | refine rd_bm ?_ | refine rd_bm0 ?_ | refine rd_andV ?_ | refine rd_orV ?_ | refine rd_notV ?_)
local macro_rules | `(tactic| walk_at "rd") => `(tactic| repeat walk_at "rd1")
local macro_rules | `(tactic| walk_at "ci") => `(tactic| first | assumption | (show (0 : Int) < _; first | decide | omega) | exact ⟨by decide, by decide⟩ | exact Or.inr ⟨by decide, by decide⟩ | exact Or.inl ⟨by decide, by decide⟩ | exact ⟨by decide, by decide, by decide⟩ | exact Or.inl ⟨by omega, by omega⟩ | exact Or.inr ⟨by omega, by omega⟩)
local macro_rules | `(tactic| walk_at "ix") => `(tactic| first
  | ((with_reducible apply rd_ixL); (walk_at "hl"); exact rfl)
  | ((with_reducible apply rd_ixT); (walk_at "ht"); exact rfl)
  | ((with_reducible apply rd_lenL); (walk_at "hl"))
  | ((with_reducible apply rd_lenT); (walk_at "ht"))
  | ((with_reducible apply rd_tupOf); (walk_at "hl"))
  | ((with_reducible apply rd_listOf); (walk_at "hl"))
  | (with_reducible refine rd_min2 ?_)
  | ((with_reducible apply rd_I); (walk_at "ci"))
  | ((with_reducible apply rd_setL); (walk_at "hp"); exact rfl))
local macro_rules | `(tactic| walk_at "gs") => `(tactic| repeat first | walk_at "rd1" | walk_at "ix")
local macro_rules | `(tactic| walk_at "go") => `(tactic| repeat first | walk_at "rd1" | walk_at "ix" | with_reducible refine rd_and ?_ | with_reducible refine rd_or ?_)
local macro_rules | `(tactic| walk_at "fo") => `(tactic| (with_reducible refine rd_for ?_))
local macro_rules | `(tactic| walk_at "pm") => `(tactic| repeat first
  | with_reducible first | refine rd_pcons ?_ | refine rd_pstr ?_ | refine rd_pcap ?_ | refine rd_pwild ?_ | refine rd_pnil ?_ | refine rd_por ?_ | refine rd_pno ?_
  | ((with_reducible refine rd_eq rfl ?_); refine ⟨_, rfl, ?_⟩; first | refine rd_T rfl ?_ | refine rd_F (by decide) ?_)
  | dsimp only [List.nil_append, List.singleton_append, List.cons_append, setAll])
local macro_rules | `(tactic| walk_at "pc") => `(tactic| (refine rd_case ?_); (first | (refine rd_phit (SqT.of (by assumption)) rfl ?_) | (refine rd_pmiss (SqT.of (by assumption)) (by simp) ?_)); (walk_at "pm"))

/-- amid the work of a stage of two chains -/
structure Mid2 (J : Cls') (d : Nat) (me cs lo : Addr) (pre post : List Int) (a : Addr) (tc td : Tr) (ob : HO) (c e : Nd) (m : Mt) (H0 H : Hp) : Prop where
  ob : H a = some ob
  nd1 : NdAt J H me pre.length c tc
  nd2 : NdAt J H me (pre.length + c.gv.length) e td
  mt : MetAt J H me cs lo m (pre ++ (c.gv ++ e.gv) ++ post)
  inv1 : c.inv
  inv2 : e.inv
  dep1 : c.dep ≤ d
  dep2 : e.dep ≤ d
  bk : m.book ≤ 200
  al : m.lost.length + (c.alive + e.alive) ≤ 999
  fr : Fr ((a :: (tc.ads ++ td.ads)) ++ [me, cs, lo]) H0 H
section
variable {P : Program} {w : World} {K : PySem.W.Frag} {mg : Str → Option Value} {base : Heap} {J : Cls'} {f : Addr} {fd : FuncData} {H H0 : Hp} {me cs lo a : Addr} {d : Nat} {pre post : List Int} {tc td : Tr} {ob : HO} {c e : Nd} {m : Mt}
theorem Sep.two1 (S : Sep me cs lo (.two a tc td)) : Sep me cs lo tc :=
  ⟨S.dj.2.2.2.1, fun h => S.hme (List.mem_cons_of_mem _ (List.mem_append_left _ h)), fun h => S.hcs (List.mem_cons_of_mem _ (List.mem_append_left _ h)), fun h => S.hlo (List.mem_cons_of_mem _ (List.mem_append_left _ h)), S.n1, S.n2, S.n3⟩
theorem Sep.two2 (S : Sep me cs lo (.two a tc td)) : Sep me cs lo td :=
  ⟨S.dj.2.2.2.2, fun h => S.hme (List.mem_cons_of_mem _ (List.mem_append_right _ h)), fun h => S.hcs (List.mem_cons_of_mem _ (List.mem_append_right _ h)), fun h => S.hlo (List.mem_cons_of_mem _ (List.mem_append_right _ h)), S.n1, S.n2, S.n3⟩
theorem Sep.out_of {t : Tr} {b : Addr} (S : Sep me cs lo t) (hb : b ∈ t.ads) {L : List Addr} (h : b ∉ L) : b ∉ L ++ [me, cs, lo] := by
  simp only [List.mem_append, List.mem_cons, List.not_mem_nil, or_false, not_or]
  refine ⟨h, fun z => S.hme (z ▸ hb), fun z => S.hcs (z ▸ hb), fun z => S.hlo (z ▸ hb)⟩
theorem Mid2.ask1 {f : Nat} {rc : Rs} {c' : Nd} {m1 : Mt} {Q : VK} {E : XK} (S : Sep me cs lo (.two a tc td)) (M : Mid2 J d me cs lo pre post a tc td ob c e m H0 H) (hd : draw f c m = some (rc, c', m1))
    (hnum : ∀ n, rc = .num n → ∀ H', Mid2 J d me cs lo pre post a tc td ob c' e m1 H0 H' → Q (.int n) H') (hfin : rc = .fin → ∀ H', Mid2 J d me cs lo pre post a tc td ob c' e m1 H0 H' → Q .non H')
    (hlong : rc = .long → ∀ H', MetAt J H' me cs lo m1 (pre ++ (c'.gv ++ e.gv) ++ post) → Fr ((a :: (tc.ads ++ td.ads)) ++ [me, cs, lo]) H0 H' → E (.ref J.long) none H') : Ask J d me cs lo pre (e.gv ++ post) tc c m rc c' m1 H Q E := by
  have F := draw_facts _ _ _ _ _ _ hd M.inv1 M.bk
  have L := draw_lost _ _ _ _ _ _ hd
  have fr : ∀ H', Fr (tc.ads ++ [me, cs, lo]) H H' → Fr ((a :: (tc.ads ++ td.ads)) ++ [me, cs, lo]) H0 H' := fun H' f' => M.fr.tr (f'.mono fun b hb => by
    rcases List.mem_append.mp hb with q | q
    · exact List.mem_append_left _ (List.mem_cons_of_mem _ (List.mem_append_left _ q))
    · exact List.mem_append_right _ q)
  have mid : ∀ H', NdAt J H' me pre.length c' tc → MetAt J H' me cs lo m1 (pre ++ c'.gv ++ (e.gv ++ post)) → Fr (tc.ads ++ [me, cs, lo]) H H' → Mid2 J d me cs lo pre post a tc td ob c' e m1 H0 H' := fun H' n' t' f' => by
    refine ⟨f'.at M.ob (S.out_of (b := a) List.mem_cons_self S.dj.1), n', ?_, by simpa using t', F.inv, M.inv2, by rw [L.2]; exact M.dep1, M.dep2, F.b2, by have := L.1; have := M.al; omega, fr H' f'⟩
    rw [F.gl]
    exact M.nd2.fr f' fun b hb => S.out_of (List.mem_cons_of_mem _ (List.mem_append_right _ hb)) fun q => S.dj.2.2.1 b q hb
  exact ⟨S.two1, M.nd1, by simpa using M.mt, M.inv1, M.dep1, M.bk, by have := M.al; omega, fun n e H' n' t' f' => hnum n e H' (mid H' n' t' f'), fun e H' n' t' f' => hfin e H' (mid H' n' t' f'), fun e H' t' f' => hlong e H' (by simpa using t') (fr H' f')⟩
theorem Mid2.ask2 {f : Nat} {rc : Rs} {e' : Nd} {m1 : Mt} {Q : VK} {E : XK} (S : Sep me cs lo (.two a tc td)) (M : Mid2 J d me cs lo pre post a tc td ob c e m H0 H) (hd : draw f e m = some (rc, e', m1))
    (hnum : ∀ n, rc = .num n → ∀ H', Mid2 J d me cs lo pre post a tc td ob c e' m1 H0 H' → Q (.int n) H') (hfin : rc = .fin → ∀ H', Mid2 J d me cs lo pre post a tc td ob c e' m1 H0 H' → Q .non H')
    (hlong : rc = .long → ∀ H', MetAt J H' me cs lo m1 (pre ++ (c.gv ++ e'.gv) ++ post) → Fr ((a :: (tc.ads ++ td.ads)) ++ [me, cs, lo]) H0 H' → E (.ref J.long) none H') : Ask J d me cs lo (pre ++ c.gv) post td e m rc e' m1 H Q E := by
  have F := draw_facts _ _ _ _ _ _ hd M.inv2 M.bk
  have L := draw_lost _ _ _ _ _ _ hd
  have fr : ∀ H', Fr (td.ads ++ [me, cs, lo]) H H' → Fr ((a :: (tc.ads ++ td.ads)) ++ [me, cs, lo]) H0 H' := fun H' f' => M.fr.tr (f'.mono fun b hb => by
    rcases List.mem_append.mp hb with q | q
    · exact List.mem_append_left _ (List.mem_cons_of_mem _ (List.mem_append_right _ q))
    · exact List.mem_append_right _ q)
  have mid : ∀ H', NdAt J H' me (pre ++ c.gv).length e' td → MetAt J H' me cs lo m1 (pre ++ c.gv ++ e'.gv ++ post) → Fr (td.ads ++ [me, cs, lo]) H H' → Mid2 J d me cs lo pre post a tc td ob c e' m1 H0 H' := fun H' n' t' f' => by
    refine ⟨f'.at M.ob (S.out_of (b := a) List.mem_cons_self S.dj.2.1), ?_, by rw [List.length_append] at n'; exact n', by simpa using t', M.inv1, F.inv, M.dep1, by rw [L.2]; exact M.dep2, F.b2, by have := L.1; have := M.al; omega, fr H' f'⟩
    exact M.nd1.fr f' fun b hb => S.out_of (List.mem_cons_of_mem _ (List.mem_append_left _ hb)) fun q => S.dj.2.2.1 b hb q
  exact ⟨S.two2, by rw [List.length_append]; exact M.nd2, by simpa using M.mt, M.inv2, M.dep2, M.bk, by have := M.al; omega, fun n e H' n' t' f' => hnum n e H' (mid H' n' t' f'), fun e H' n' t' f' => hfin e H' (mid H' n' t' f'), fun e H' t' f' => hlong e H' (by simpa using t') (fr H' f')⟩
theorem NdW.both {off : Nat} {o : Ow} {c e : Nd} {t : Tr} (h : NdW J H me off (.both o c e) t) : ∃ a tc td dx, t = .two a tc td ∧ H a = some (.ins J.both dx [("ahead", .ref tc.ad), ("ended", .bl false), ("other", .ref td.ad), ("meter", .ref me)]) ∧ NdAt J H me off c tc ∧ NdAt J H me (off + c.gv.length) e td := by
  cases t with
  | mkr a => exact h.elim
  | st a u => exact h.elim
  | two a t u =>
    obtain ⟨⟨dx, e⟩, z, r⟩ := h
    exact ⟨a, t, u, dx, rfl, e, z, r⟩
theorem NdW.thn {off : Nat} {o : Ow} {c e : Nd} {t : Tr} (h : NdW J H me off (.thn o c e) t) : ∃ a tc td dx, t = .two a tc td ∧ H a = some (.ins J.thn dx [("ahead", .ref tc.ad), ("ended", .bl false), ("other", .ref td.ad)]) ∧ NdAt J H me off c tc ∧ NdAt J H me (off + c.gv.length) e td := by
  cases t with
  | mkr a => exact h.elim
  | st a u => exact h.elim
  | two a t u =>
    obtain ⟨⟨dx, e⟩, z, r⟩ := h
    exact ⟨a, t, u, dx, rfl, e, z, r⟩
theorem AskW.mid2b {o : Ow} {x' : Nd} {m' : Mt} {r : Rs} {Q : VK} {E : XK} (G : AskW J (d + 1) me cs lo pre post (.two a tc td) (.both o c e) m r x' m' H Q E) (h : H a = some ob) : Mid2 J d me cs lo pre post a tc td ob c e m H H := by
  have hd : max c.dep e.dep + 1 ≤ d + 1 := G.dep
  have h' : m.lost.length + (o.al + c.alive + e.alive) ≤ 1000 := G.al
  rw [al_one (by rw [show o.over = false from G.ov]; decide)] at h'
  exact ⟨h, G.nd.2.1, G.nd.2.2, G.mt, G.inv.1, G.inv.2, by omega, by omega, G.bk, by omega, Fr.refl _ _⟩
theorem AskW.mid2t {o : Ow} {x' : Nd} {m' : Mt} {r : Rs} {Q : VK} {E : XK} (G : AskW J (d + 1) me cs lo pre post (.two a tc td) (.thn o c e) m r x' m' H Q E) (h : H a = some ob) : Mid2 J d me cs lo pre post a tc td ob c e m H H := by
  have hd : max c.dep e.dep + 1 ≤ d + 1 := G.dep
  have h' : m.lost.length + (o.al + c.alive + e.alive) ≤ 1000 := G.al
  rw [al_one (by rw [show o.over = false from G.ov]; decide)] at h'
  exact ⟨h, G.nd.2.1, G.nd.2.2, G.mt, G.inv.2.1, G.inv.2.2, by omega, by omega, G.bk, by omega, Fr.refl _ _⟩
/-- how a draw of both goes -/
def StepB2 (o : Ow) (r : Rs) (x' : Nd) (m' : Mt) (c' : Nd) (n : Int) (e' : Nd) (m2 : Mt) : Rs → Prop
  | .num v => r = .num (n + v) ∧ x' = .both (o.fin (.num (n + v))) c' e' ∧ m' = m2
  | .fin => r = .fin ∧ x' = .both (o.fin .fin) c' e' ∧ m' = { m2 with lost := m2.lost ++ [n] }
  | .long => r = .long ∧ x' = .both o c' e' ∧ m' = m2
def StepB (f0 : Nat) (o : Ow) (r : Rs) (x' : Nd) (m' : Mt) (e : Nd) (c' : Nd) (m1 : Mt) : Rs → Prop
  | .num n => ∃ r2 e' m2, draw f0 e m1 = some (r2, e', m2) ∧ StepB2 o r x' m' c' n e' m2 r2
  | .fin => r = .fin ∧ x' = .both (o.fin .fin) c' e ∧ m' = m1
  | .long => r = .long ∧ x' = .both o c' e ∧ m' = m1
theorem both_step {f : Nat} {o : Ow} {m' : Mt} {r : Rs} {x' : Nd} (ho : o.over = false) (h : draw f (.both o c e) m = some (r, x', m')) :
    ∃ f0 rc c' m1, f = f0 + 1 ∧ draw f0 c m = some (rc, c', m1) ∧ StepB f0 o r x' m' e c' m1 rc := by
  cases f with
  | zero => simp only [draw] at h; cases h
  | succ f =>
    rw [draw_both, if_neg (by rw [ho]; decide)] at h
    cases hd : draw f c m with
    | none => rw [hd] at h; cases h
    | some p =>
      obtain ⟨rc, c', m1⟩ := p
      refine ⟨f, rc, c', m1, rfl, hd.symm ▸ rfl, ?_⟩
      rw [hd] at h
      cases rc with
      | num n =>
        dsimp only at h
        cases he : draw f e m1 with
        | none => rw [he] at h; cases h
        | some p2 =>
          obtain ⟨r2, e', m2⟩ := p2
          rw [he] at h
          refine ⟨r2, e', m2, he, ?_⟩
          cases r2 <;> (cases h; exact ⟨rfl, rfl, rfl⟩)
      | fin => cases h; exact ⟨rfl, rfl, rfl⟩
      | long => cases h; exact ⟨rfl, rfl, rfl⟩
theorem sc_Both_work : FnScope ["self", "number", "second"] ["self"] (defScope s_Both_work) := ⟨rfl, rfl, rfl, by decide +kernel, rfl, by decide +kernel, by decide +kernel⟩
theorem ok_Both_work (D : Apart J) (T : Txt K mg) (N : NodeF K J)
    (G_undone : CalM P w K mg base CX0 1 J.meter "note_undone" ["self", "number"] (spUndone J)) (F : FnP K "work" "Both.work" s_Both_work f fd)
    (G_draw : ∀ C, DrawC J C → CalM P w K mg base (L2.CX P w) (2 * d + 2) C "draw" ["self"] (spDraw J d C)) :
    FnOk P w K mg base (L2.CX P w) (2 * d + 3) f fd ["self"] (spWork J (d + 1) J.both) := by
  refine okX F sc_Both_work (fun vs H Q E h => h.len) (fun cdv A outer s H vs Q E hr h px tk po => ?_)
  · obtain ⟨me, cs, lo, pre, post, t, x, m, f, r, x', m', rfl, hx, hd, G⟩ := h
    obtain ⟨o, c, e, rfl⟩ := cls_both D hx
    have hC : DrawC J J.both := .inr (.inr (.inr (.inr (.inr (.inr (.inr (.inr (.inr (.inl rfl)))))))))
    have ca := N.c _ hC
    obtain ⟨a, tc, td, dx, rfl, ea, nc, ne⟩ := G.nd.both
    have M := G.mid2b ea
    obtain ⟨f0, rc, c', m1, rfl, hc, st⟩ := both_step G.ov hd
    refine ⟨_, (pss_cons (ps_set (i := 1) sc_Both_work.nd rfl (Or.inl rfl) (pe_dyn0 (pe_fld (pv 0) rfl) G_draw (hr.mono (by omega)) px))
  (pss_cons (ps_if (pt_cmpR op_isN (pv 1) pe_non (nomark _))
    (pss_one (ps_ret pe_non)) pss_nil)
  (pss_cons (ps_set (i := 2) sc_Both_work.nd rfl (Or.inl rfl) (pe_dyn0 (pe_fld (pv 0) rfl) G_draw (hr.mono (by omega)) px))
  (pss_cons (ps_if (pt_cmpR op_isN (pv 2) pe_non (nomark _))
    (pss_cons (ps_expr (pe_cm (pe_fld (pv 0) rfl) G_undone (hr.mono (by omega)) pass0 (pa_cons (pv 1) pa_nil)))
    (pss_one (ps_ret pe_non))) pss_nil)
  (pss_one (ps_ret (pe_op op_add (pv 1) (pv 2)))))))), ?_⟩
    try dsimp only [cxOf, Cx.nox, Cx.wish]
    refine rd_at (σ' := [some (.ref a), none, none]) rfl ?_
    walk_at "go"
    refine rd_dyn ?_
    walk_at "go"
    refine rd_sf rfl ea ca (N.na_ahead _ hC) rfl ?_
    obtain ⟨dc, fc, ec, lc⟩ := nc.obj
    refine rd_d (c.cls_draw J) ec lc ?_
    refine ⟨me, cs, lo, pre, e.gv ++ post, tc, c, m, f0, rc, c', m1, rfl, rfl, hc, M.ask1 G.sep hc (fun n hn H' M' => ?_) (fun hn H' M' => ?_) (fun hn H' M' f' => ?_)⟩
    · subst hn
      obtain ⟨r2, e', m2, he, st2⟩ := st
      have ea' := M'.ob
      walk_at "go"
      refine ⟨rfl, ?_⟩
      walk_at "go"
      refine rd_F (fun z => by cases z) ?_
      walk_at "go"
      refine rd_dyn ?_
      walk_at "go"
      refine rd_sf rfl ea' ca (N.na_other _ hC) rfl ?_
      obtain ⟨dd, fe, ee, le⟩ := M'.nd2.obj
      refine rd_d (e.cls_draw J) ee le ?_
      refine ⟨me, cs, lo, pre ++ c'.gv, post, td, e, m1, f0, r2, e', m2, rfl, rfl, he, M'.ask2 G.sep he (fun v hv H'' M'' => ?_) (fun hv H'' M'' => ?_) (fun hv H'' M'' f'' => ?_)⟩
      · subst hv
        obtain ⟨rfl, rfl, rfl⟩ := st2
        walk_at "go"
        refine ⟨rfl, ?_⟩
        walk_at "go"
        refine rd_F (fun z => by cases z) ?_
        walk_at "go"
        exact G.num _ rfl _ ⟨⟨dx, M''.ob⟩, M''.nd1, M''.nd2⟩ M''.mt M''.fr
      · subst hv
        obtain ⟨rfl, rfl, rfl⟩ := st2
        have eb := M''.ob
        walk_at "go"
        refine ⟨rfl, ?_⟩
        walk_at "go"
        refine rd_T rfl ?_
        walk_at "go"
        refine rd_meth ?_
        refine rd_sf rfl eb ca (N.na_meter _ hC) rfl ?_
        obtain ⟨⟨dm, e0⟩, _, _⟩ := id M''.mt
        refine rd_m e0 rfl ?_
        walk_at "go"
        refine ⟨me, cs, lo, m2, _, n, rfl, M''.mt, G.sep.n1, G.sep.n2, G.sep.n3, by have := M''.al; omega, fun H2 mt2 f2 => ?_⟩
        walk_at "go"
        have nl : ∀ b, b ∈ (Tr.two a tc td).ads → b ∉ [lo] := fun b hb q => by
          rw [List.mem_singleton] at q
          exact G.sep.hlo (q ▸ hb)
        exact G.fin rfl _ ⟨⟨dx, f2.at eb (nl a List.mem_cons_self)⟩, M''.nd1.fr f2 fun b hb => nl b (List.mem_cons_of_mem _ (List.mem_append_left _ hb)), M''.nd2.fr f2 fun b hb => nl b (List.mem_cons_of_mem _ (List.mem_append_right _ hb))⟩ mt2 (M''.fr.tr (f2.mono fun b hb => in1 hb))
      · subst hv
        obtain ⟨rfl, rfl, rfl⟩ := st2
        exact G.long rfl _ M'' f''
    · subst hn
      obtain ⟨rfl, rfl, rfl⟩ := st
      walk_at "go"
      refine ⟨rfl, ?_⟩
      walk_at "go"
      refine rd_T rfl ?_
      walk_at "go"
      exact G.fin rfl _ ⟨⟨dx, M'.ob⟩, M'.nd1, M'.nd2⟩ M'.mt M'.fr
    · subst hn
      obtain ⟨rfl, rfl, rfl⟩ := st
      exact G.long rfl H' M' f'
end
end Dc

set_option Elab.async false
set_option linter.all false
set_option maxRecDepth 100000
set_option maxHeartbeats 2000000
namespace Dc
open PySem PySem.Spec PyProof.Rows L2
local macro_rules | `(tactic| walk_at "ne") => `(tactic| first | assumption | (refine Ne.symm ?_; assumption) | exact ne_of (by assumption) (by assumption) (by intro q; cases q) | exact ne_of_none (by assumption) (by assumption) | exact Ne.symm (ne_of_none (by assumption) (by assumption)))
local macro_rules | `(tactic| walk_at "hp") => `(tactic| first | assumption | exact upd_same | (refine upd_keep ?_ (by assumption); walk_at "hp") | (refine upd_other ?_ ?_; · walk_at "ne"; · walk_at "hp"))
local macro_rules | `(tactic| walk_at "hl") => `(tactic| first | assumption | exact SqL.of (by walk_at "hp"))
local macro_rules | `(tactic| walk_at "ht") => `(tactic| first | assumption | exact SqT.of (by walk_at "hp"))
local macro_rules | `(tactic| walk_at "rd1") => `(tactic| first
  | ((with_reducible apply rd_var); exact rfl)
  | ((with_reducible apply rd_eq); exact rfl) | ((with_reducible apply rd_ne); exact rfl)
  | with_reducible first
  | refine iteT ?_ | refine iteF ?_ | refine rd_nF ?_ | refine rd_nT ?_ | refine rd_yes ?_ | refine rd_c ?_ | refine rd_op ?_ | refine rd_un ?_ | refine rd_test ?_ | refine rd_B ?_ | refine rd_bl ?_ | refine rd_seq ?_ | refine rd_next ?_ | refine rd_ifs ?_ | refine rd_asg ?_ | refine rd_name ?_ | refine rd_ret ?_ | refine rd_drop ?_
  | refine rd_call ?_ | refine rd_cons ?_ | refine rd_nil ?_ | refine rd_cb ?_ | refine rd_I0 ?_ | refine rd_U ?_ | refine rd_gsub ?_ | refine rd_lst ?_ | refine rd_tup ?_ | refine rd_if ?_ | refine rd_not ?_ | refine rd_rng1 ?_ | refine rd_itup ?_ | refine rd_ilst ?_ | refine rd_bm ?_ | refine rd_bm0 ?_ | refine rd_andV ?_ | refine rd_orV ?_ | refine rd_notV ?_)
local macro_rules | `(tactic| walk_at "rd") => `(tactic| repeat walk_at "rd1")
local macro_rules | `(tactic| walk_at "ci") => `(tactic| first | assumption | (show (0 : Int) < _; first | decide | omega) | exact ⟨by decide, by decide⟩ | exact Or.inr ⟨by decide, by decide⟩ | exact Or.inl ⟨by decide, by decide⟩ | exact ⟨by decide, by decide, by decide⟩ | exact Or.inl ⟨by omega, by omega⟩ | exact Or.inr ⟨by omega, by omega⟩)
local macro_rules | `(tactic| walk_at "ix") => `(tactic| first
  | ((with_reducible apply rd_ixL); (walk_at "hl"); exact rfl)
  | ((with_reducible apply rd_ixT); (walk_at "ht"); exact rfl)
  | ((with_reducible apply rd_lenL); (walk_at "hl"))
  | ((with_reducible apply rd_lenT); (walk_at "ht"))
  | ((with_reducible apply rd_tupOf); (walk_at "hl"))
  | ((with_reducible apply rd_listOf); (walk_at "hl"))
  | (with_reducible refine rd_min2 ?_)
  | ((with_reducible apply rd_I); (walk_at "ci"))
  | ((with_reducible apply rd_setL); (walk_at "hp"); exact rfl))
local macro_rules | `(tactic| walk_at "gs") => `(tactic| repeat first | walk_at "rd1" | walk_at "ix")
local macro_rules | `(tactic| walk_at "go") => `(tactic| repeat first | walk_at "rd1" | walk_at "ix" | with_reducible refine rd_and ?_ | with_reducible refine rd_or ?_)
local macro_rules | `(tactic| walk_at "fo") => `(tactic| (with_reducible refine rd_for ?_))
local macro_rules | `(tactic| walk_at "pm") => `(tactic| repeat first
  | with_reducible first | refine rd_pcons ?_ | refine rd_pstr ?_ | refine rd_pcap ?_ | refine rd_pwild ?_ | refine rd_pnil ?_ | refine rd_por ?_ | refine rd_pno ?_
  | ((with_reducible refine rd_eq rfl ?_); refine ⟨_, rfl, ?_⟩; first | refine rd_T rfl ?_ | refine rd_F (by decide) ?_)
  | dsimp only [List.nil_append, List.singleton_append, List.cons_append, setAll])
local macro_rules | `(tactic| walk_at "pc") => `(tactic| (refine rd_case ?_); (first | (refine rd_phit (SqT.of (by assumption)) rfl ?_) | (refine rd_pmiss (SqT.of (by assumption)) (by simp) ?_)); (walk_at "pm"))

section
variable {P : Program} {w : World} {K : PySem.W.Frag} {mg : Str → Option Value} {base : Heap} {J : Cls'} {f : Addr} {fd : FuncData} {H H0 : Hp} {me cs lo a : Addr} {d : Nat} {pre post : List Int} {tc td : Tr} {ob : HO} {c e : Nd} {m : Mt}
def StepT (f0 : Nat) (o : Ow) (r : Rs) (x' : Nd) (m' : Mt) (e : Nd) (c' : Nd) (m1 : Mt) : Rs → Prop
  | .num n => r = .num n ∧ x' = .thn (o.fin (.num n)) c' e ∧ m' = m1
  | .fin => ∃ e' m2 o2, draw f0 e m1 = some (r, e', m2) ∧ x' = .thn o2 c' e' ∧ m' = m2
  | .long => r = .long ∧ x' = .thn o c' e ∧ m' = m1
theorem thn_step {f : Nat} {o : Ow} {m' : Mt} {r : Rs} {x' : Nd} (ho : o.over = false) (hi : o.left = 0 ∨ (o.left = 1 ∧ c.ended)) (h : draw f (.thn o c e) m = some (r, x', m')) :
    ∃ f0 rc c' m1, f = f0 + 1 ∧ draw f0 c m = some (rc, c', m1) ∧ StepT f0 o r x' m' e c' m1 rc := by
  cases f with
  | zero => simp only [draw] at h; cases h
  | succ f =>
    rw [draw_thn, if_neg (by rw [ho]; decide)] at h
    rcases hi with hl | ⟨hl, hc⟩
    · rw [if_neg (by rw [hl]; decide)] at h
      cases hd : draw f c m with
      | none => rw [hd] at h; cases h
      | some p =>
        obtain ⟨rc, c', m1⟩ := p
        refine ⟨f, rc, c', m1, rfl, hd.symm ▸ rfl, ?_⟩
        rw [hd] at h
        cases rc with
        | num n => cases h; exact ⟨rfl, rfl, rfl⟩
        | fin =>
          dsimp only at h
          cases he : draw f e m1 with
          | none => rw [he] at h; cases h
          | some p2 =>
            obtain ⟨r2, e', m2⟩ := p2
            rw [he] at h
            cases h
            exact ⟨e', _, _, he, rfl, rfl⟩
        | long => cases h; exact ⟨rfl, rfl, rfl⟩
    · rw [if_pos hl] at h
      cases he : draw f e m with
      | none => rw [he] at h; cases h
      | some p2 =>
        obtain ⟨r2, e', m2⟩ := p2
        rw [he] at h
        cases f with
        | zero => simp only [draw] at he; cases he
        | succ f =>
          cases h
          exact ⟨f + 1, .fin, c, m, rfl, ended_draw f m hc, e', _, _, he, rfl, rfl⟩
theorem sc_Then_work : FnScope ["self", "number"] ["self"] (defScope s_Then_work) := ⟨rfl, rfl, rfl, by decide +kernel, rfl, by decide +kernel, by decide +kernel⟩
theorem ok_Then_work (D : Apart J) (T : Txt K mg) (N : NodeF K J) (F : FnP K "work" "Then.work" s_Then_work f fd)
    (G_draw : ∀ C, DrawC J C → CalM P w K mg base (L2.CX P w) (2 * d + 2) C "draw" ["self"] (spDraw J d C)) :
    FnOk P w K mg base (L2.CX P w) (2 * d + 3) f fd ["self"] (spWork J (d + 1) J.thn) := by
  refine okX F sc_Then_work (fun vs H Q E h => h.len) (fun cdv A outer s H vs Q E hr h px tk po => ?_)
  · obtain ⟨me, cs, lo, pre, post, t, x, m, f, r, x', m', rfl, hx, hd, G⟩ := h
    obtain ⟨o, c, e, rfl⟩ := cls_thn D hx
    have hC : DrawC J J.thn := .inr (.inr (.inr (.inr (.inr (.inr (.inr (.inr (.inr (.inr rfl)))))))))
    have ca := N.c _ hC
    obtain ⟨a, tc, td, dx, rfl, ea, nc, ne⟩ := G.nd.thn
    have M := G.mid2t ea
    obtain ⟨f0, rc, c', m1, rfl, hc, st⟩ := thn_step G.ov G.inv.1 hd
    refine ⟨_, (pss_cons (ps_set (i := 1) sc_Then_work.nd rfl (Or.inl rfl) (pe_dyn0 (pe_fld (pv 0) rfl) G_draw (hr.mono (by omega)) px))
  (pss_cons (ps_if (pt_cmpR op_isN (pv 1) pe_non (nomark _))
    (pss_one (ps_ret (pe_dyn0 (pe_fld (pv 0) rfl) G_draw (hr.mono (by omega)) px))) pss_nil)
  (pss_one (ps_ret (pv 1))))), ?_⟩
    try dsimp only [cxOf, Cx.nox, Cx.wish]
    refine rd_at (σ' := [some (.ref a), none]) rfl ?_
    walk_at "go"
    refine rd_dyn ?_
    walk_at "go"
    refine rd_sf rfl ea ca (N.na_ahead _ hC) rfl ?_
    obtain ⟨dc, fc, ec, lc⟩ := nc.obj
    refine rd_d (c.cls_draw J) ec lc ?_
    refine ⟨me, cs, lo, pre, e.gv ++ post, tc, c, m, f0, rc, c', m1, rfl, rfl, hc, M.ask1 G.sep hc (fun n hn H' M' => ?_) (fun hn H' M' => ?_) (fun hn H' M' f' => ?_)⟩
    · subst hn
      obtain ⟨rfl, rfl, rfl⟩ := st
      walk_at "go"
      refine ⟨rfl, ?_⟩
      walk_at "go"
      refine rd_F (fun z => by cases z) ?_
      walk_at "go"
      exact G.num _ rfl _ ⟨⟨dx, M'.ob⟩, M'.nd1, M'.nd2⟩ M'.mt M'.fr
    · subst hn
      obtain ⟨e', m2, o2, he, rfl, rfl⟩ := st
      have ea' := M'.ob
      walk_at "go"
      refine ⟨rfl, ?_⟩
      walk_at "go"
      refine rd_T rfl ?_
      walk_at "go"
      refine rd_dyn ?_
      walk_at "go"
      refine rd_sf rfl ea' ca (N.na_other _ hC) rfl ?_
      obtain ⟨dd, fe, ee, le⟩ := M'.nd2.obj
      refine rd_d (e.cls_draw J) ee le ?_
      refine ⟨me, cs, lo, pre ++ c'.gv, post, td, e, m1, f0, r, e', m', rfl, rfl, he, M'.ask2 G.sep he (fun v hv H'' M'' => ?_) (fun hv H'' M'' => ?_) (fun hv H'' M'' f'' => ?_)⟩
      · exact G.num _ hv _ ⟨⟨dx, M''.ob⟩, M''.nd1, M''.nd2⟩ M''.mt M''.fr
      · exact G.fin hv _ ⟨⟨dx, M''.ob⟩, M''.nd1, M''.nd2⟩ M''.mt M''.fr
      · exact G.long hv _ M'' f''
    · subst hn
      obtain ⟨rfl, rfl, rfl⟩ := st
      exact G.long rfl H' M' f'
end
end Dc

set_option Elab.async false
set_option linter.all false
set_option maxRecDepth 100000
set_option maxHeartbeats 2000000
namespace Dc
open PySem PySem.Spec PyProof.Rows L2
/-! ### all that draws -/
structure MT (K : PySem.W.Frag) (C : Addr) (m x qual : Str) (st : Stmt) : Prop where
  ex : ∃ f fd, FnP K x qual st f fd ∧ Meth K C m f
structure ProgD (K : PySem.W.Frag) (mg : Str → Option Value) (J : Cls') : Prop where
  apart : Apart J
  node : NodeF K J
  met : MetF K J
  long : LongF K mg J
  note : MT K J.meter "note_drawn" "note_drawn" "Meter.note_drawn" s_Meter_note_drawn
  undone : MT K J.meter "note_undone" "note_undone" "Meter.note_undone" s_Meter_note_undone
  enter : MT K J.meter "enter" "enter" "Meter.enter" s_Meter_enter
  begin_ : MT K J.meter "begin_next" "begin_next" "Meter.begin_next" s_Meter_begin_next
  d_Count : MT K J.count "draw" "draw" "Count.draw" s_Count_draw
  d_Row : MT K J.row "draw" "draw" "Row.draw" s_Row_draw
  d_Stage : ∀ C, StageC J C → MT K C "draw" "draw" "Stage.draw" s_Stage_draw
  w_Reckon : MT K J.reckon "work" "work" "Reckon.work" s_Reckon_work
  w_Keep : MT K J.keep "work" "work" "Keep.work" s_Keep_work
  w_Drop : MT K J.drop "work" "work" "Drop.work" s_Drop_work
  w_Take : MT K J.take "work" "work" "Take.work" s_Take_work
  w_Each : MT K J.each "work" "work" "Each.work" s_Each_work
  w_Until : MT K J.until' "work" "work" "Until.work" s_Until_work
  w_Unlike : MT K J.unlike "work" "work" "Unlike.work" s_Unlike_work
  w_Both : MT K J.both "work" "work" "Both.work" s_Both_work
  w_Then : MT K J.thn "work" "work" "Then.work" s_Then_work
section
variable {P : Program} {w : World} {K : PySem.W.Frag} {mg : Str → Option Value} {base : Heap} {J : Cls'}
theorem calm_of {CX : CXT} {k : Nat} {C : Addr} {m x qual : Str} {st : Stmt} {ps : List Str} {sp : Sp}
    (R : MT K C m x qual st) (c : Cls K C) (ok : ∀ f fd, FnP K x qual st f fd → FnOk P w K mg base CX k f fd ps sp)
    (h : ∀ (kV doc pm : Value) (an : Option Addr) (cdv ct : Value) (us : List Value), us.length = ps.length → bindArgs (PySem.W.fnOf x qual (defArgs st) (defBody st) (defScope st) .none kV doc pm an cdv ct) ⟨us, []⟩ = pure (ps.zip us)) :
    CalM P w K mg base CX k C m ps sp := by
  obtain ⟨f, fd, F, M⟩ := R.ex
  exact ⟨f, fd, ok f fd F, F.bindsN h, M, c⟩
theorem spDraw_void {C : Addr} (D : Apart J) (hC : StageC J C) {vs : List V} {H : Hp} {Q : VK} {E : XK} (h : spDraw J 0 C vs H Q E) : False := by
  obtain ⟨me, cs, lo, pre, post, t, x, m, f, r, x', m', rfl, hx, hd, G⟩ := h
  have nm := cls_stage D (x := x) (hx ▸ hC)
  have := G.dep
  cases x with
  | mkr m g => exact nm m g rfl
  | st k o c => exact absurd this (Nat.not_succ_le_zero _)
  | both o c d => exact absurd this (Nat.not_succ_le_zero _)
  | thn o c d => exact absurd this (Nat.not_succ_le_zero _)
theorem draws (T : Txt K mg) (R : ProgD K mg J) : ∀ (d : Nat) (C : Addr), DrawC J C → CalM P w K mg base (L2.CX P w) (2 * d + 2) C "draw" ["self"] (spDraw J d C) := by
  have Gn : CalM P w K mg base (L2.CX P w) 1 J.meter "note_drawn" ["self", "place"] (spNote J) := calm_of R.note R.met.c (fun f fd F => ok_Meter_note_drawn T R.met R.long F) fun _ _ _ _ _ _ us hl => match us, hl with | [_, _], _ => rfl
  have Gu : CalM P w K mg base CX0 1 J.meter "note_undone" ["self", "number"] (spUndone J) := calm_of R.undone R.met.c (fun f fd F => ok_Meter_note_undone T R.met F) fun _ _ _ _ _ _ us hl => match us, hl with | [_, _], _ => rfl
  intro d
  induction d with
  | zero =>
    intro C hC
    have hcl := R.node.c C hC
    rcases hC with rfl | rfl | hC
    · exact calm_of R.d_Count hcl (fun f fd F => ok_Count_draw R.apart T R.node F Gn) fun _ _ _ _ _ _ us hl => match us, hl with | [_], _ => rfl
    · exact calm_of R.d_Row hcl (fun f fd F => ok_Row_draw R.apart T R.node F Gn) fun _ _ _ _ _ _ us hl => match us, hl with | [_], _ => rfl
    · exact calm_of (R.d_Stage C hC) hcl (fun f fd F => okX F sc_Stage_draw (fun _ _ _ _ h => (spDraw_void R.apart hC h).elim) fun _ _ _ _ _ _ _ _ _ h => (spDraw_void R.apart hC h).elim) fun _ _ _ _ _ _ us hl => match us, hl with | [_], _ => rfl
  | succ d ih =>
    intro C hC
    have hcl := R.node.c C hC
    rcases hC with rfl | rfl | hC
    · exact (calm_of R.d_Count hcl (fun f fd F => ok_Count_draw R.apart T R.node F Gn) fun _ _ _ _ _ _ us hl => match us, hl with | [_], _ => rfl).mono (by omega)
    · exact (calm_of R.d_Row hcl (fun f fd F => ok_Row_draw R.apart T R.node F Gn) fun _ _ _ _ _ _ us hl => match us, hl with | [_], _ => rfl).mono (by omega)
    · refine calm_of (R.d_Stage C hC) hcl (fun f fd F => ok_Stage_draw hC R.apart T R.node F ?_) fun _ _ _ _ _ _ us hl => match us, hl with | [_], _ => rfl
      clear hC hcl
      intro C hC
      have hcl := R.node.c C hC.draw
      rcases hC with rfl | rfl | rfl | rfl | rfl | rfl | rfl | rfl | rfl
      · exact calm_of R.w_Reckon hcl (fun f fd F => ok_Reckon_work R.apart T R.node F ih) fun _ _ _ _ _ _ us hl => match us, hl with | [_], _ => rfl
      · exact calm_of R.w_Keep hcl (fun f fd F => ok_Keep_work R.apart T R.node F ih) fun _ _ _ _ _ _ us hl => match us, hl with | [_], _ => rfl
      · exact calm_of R.w_Drop hcl (fun f fd F => ok_Drop_work R.apart T R.node F ih) fun _ _ _ _ _ _ us hl => match us, hl with | [_], _ => rfl
      · exact calm_of R.w_Take hcl (fun f fd F => ok_Take_work R.apart T R.node F ih) fun _ _ _ _ _ _ us hl => match us, hl with | [_], _ => rfl
      · exact calm_of R.w_Each hcl (fun f fd F => ok_Each_work R.apart T R.node F ih) fun _ _ _ _ _ _ us hl => match us, hl with | [_], _ => rfl
      · exact calm_of R.w_Until hcl (fun f fd F => ok_Until_work R.apart T R.node Gu F ih) fun _ _ _ _ _ _ us hl => match us, hl with | [_], _ => rfl
      · exact calm_of R.w_Unlike hcl (fun f fd F => ok_Unlike_work R.apart T R.node F ih) fun _ _ _ _ _ _ us hl => match us, hl with | [_], _ => rfl
      · exact calm_of R.w_Both hcl (fun f fd F => ok_Both_work R.apart T R.node Gu F ih) fun _ _ _ _ _ _ us hl => match us, hl with | [_], _ => rfl
      · exact calm_of R.w_Then hcl (fun f fd F => ok_Then_work R.apart T R.node F ih) fun _ _ _ _ _ _ us hl => match us, hl with | [_], _ => rfl
end
end Dc

set_option Elab.async false
set_option linter.all false
set_option maxRecDepth 100000
set_option maxHeartbeats 2000000
namespace Dc
open PySem PySem.Spec PyProof.Rows L2
local macro_rules | `(tactic| walk_at "ne") => `(tactic| first | assumption | (refine Ne.symm ?_; assumption) | exact ne_of (by assumption) (by assumption) (by intro q; cases q) | exact ne_of_none (by assumption) (by assumption) | exact Ne.symm (ne_of_none (by assumption) (by assumption)))
local macro_rules | `(tactic| walk_at "hp") => `(tactic| first | assumption | exact upd_same | (refine upd_keep ?_ (by assumption); walk_at "hp") | (refine upd_other ?_ ?_; · walk_at "ne"; · walk_at "hp"))
local macro_rules | `(tactic| walk_at "hl") => `(tactic| first | assumption | exact SqL.of (by walk_at "hp"))
local macro_rules | `(tactic| walk_at "ht") => `(tactic| first | assumption | exact SqT.of (by walk_at "hp"))
local macro_rules | `(tactic| walk_at "rd1") => `(tactic| first
  | ((with_reducible apply rd_var); exact rfl)
  | ((with_reducible apply rd_eq); exact rfl) | ((with_reducible apply rd_ne); exact rfl)
  | with_reducible first
  | refine iteT ?_ | refine iteF ?_ | refine rd_nF ?_ | refine rd_nT ?_ | refine rd_yes ?_ | refine rd_c ?_ | refine rd_op ?_ | refine rd_un ?_ | refine rd_test ?_ | refine rd_B ?_ | refine rd_bl ?_ | refine rd_seq ?_ | refine rd_next ?_ | refine rd_ifs ?_ | refine rd_asg ?_ | refine rd_name ?_ | refine rd_ret ?_ | refine rd_drop ?_
  | refine rd_call ?_ | refine rd_cons ?_ | refine rd_nil ?_ | refine rd_cb ?_ | refine rd_I0 ?_ | refine rd_U ?_ | refine rd_gsub ?_ | refine rd_lst ?_ | refine rd_tup ?_ | refine rd_if ?_ | refine rd_not ?_ | refine rd_rng1 ?_ | refine rd_itup ?_ | refine rd_ilst ?_ | refine rd_bm ?_ | refine rd_bm0 ?_ | refine rd_andV ?_ | refine rd_orV ?_ | refine rd_notV ?_)
local macro_rules | `(tactic| walk_at "rd") => `(tactic| repeat walk_at "rd1")
local macro_rules | `(tactic| walk_at "ci") => `(tactic| first | assumption | (show (0 : Int) < _; first | decide | omega) | exact ⟨by decide, by decide⟩ | exact Or.inr ⟨by decide, by decide⟩ | exact Or.inl ⟨by decide, by decide⟩ | exact ⟨by decide, by decide, by decide⟩ | exact Or.inl ⟨by omega, by omega⟩ | exact Or.inr ⟨by omega, by omega⟩)
local macro_rules | `(tactic| walk_at "ix") => `(tactic| first
  | ((with_reducible apply rd_ixL); (walk_at "hl"); exact rfl)
  | ((with_reducible apply rd_ixT); (walk_at "ht"); exact rfl)
  | ((with_reducible apply rd_lenL); (walk_at "hl"))
  | ((with_reducible apply rd_lenT); (walk_at "ht"))
  | ((with_reducible apply rd_tupOf); (walk_at "hl"))
  | ((with_reducible apply rd_listOf); (walk_at "hl"))
  | (with_reducible refine rd_min2 ?_)
  | ((with_reducible apply rd_I); (walk_at "ci"))
  | ((with_reducible apply rd_setL); (walk_at "hp"); exact rfl))
local macro_rules | `(tactic| walk_at "gs") => `(tactic| repeat first | walk_at "rd1" | walk_at "ix")
local macro_rules | `(tactic| walk_at "go") => `(tactic| repeat first | walk_at "rd1" | walk_at "ix" | with_reducible refine rd_and ?_ | with_reducible refine rd_or ?_)
local macro_rules | `(tactic| walk_at "fo") => `(tactic| (with_reducible refine rd_for ?_))
local macro_rules | `(tactic| walk_at "pm") => `(tactic| repeat first
  | with_reducible first | refine rd_pcons ?_ | refine rd_pstr ?_ | refine rd_pcap ?_ | refine rd_pwild ?_ | refine rd_pnil ?_ | refine rd_por ?_ | refine rd_pno ?_
  | ((with_reducible refine rd_eq rfl ?_); refine ⟨_, rfl, ?_⟩; first | refine rd_T rfl ?_ | refine rd_F (by decide) ?_)
  | dsimp only [List.nil_append, List.singleton_append, List.cons_append, setAll])
local macro_rules | `(tactic| walk_at "pc") => `(tactic| (refine rd_case ?_); (first | (refine rd_phit (SqT.of (by assumption)) rfl ?_) | (refine rd_pmiss (SqT.of (by assumption)) (by simp) ?_)); (walk_at "pm"))

/-! ### the stages' makings -/
def spSuper (J : Cls') : Sp := fun vs H Q _ => ∃ (x dx C : Addr) (ah : V), vs = [.ref x, ah] ∧ StageC J C ∧ H x = some (.ins C dx []) ∧ ∀ H', H' x = some (.ins C dx [("ahead", ah), ("ended", .bl false)]) → Fr [x] H H' → Q .non H'
def spSInit (C : Addr) (n : Nat) (fl : List V → List (Str × V)) : Sp := fun vs H Q _ => ∃ (x dx : Addr) (ah : V) (args : List V), vs = .ref x :: ah :: args ∧ args.length = n ∧ H x = some (.ins C dx []) ∧
  ∀ H', H' x = some (.ins C dx (("ahead", ah) :: ("ended", .bl false) :: fl args)) → Fr [x] H H' → Q .non H'
theorem spSInit.len {C : Addr} {n : Nat} {fl : List V → List (Str × V)} {vs : List V} {H : Hp} {Q : VK} {E : XK} (h : spSInit C n fl vs H Q E) : vs.length = n + 2 := by
  obtain ⟨x, dx, ah, args, rfl, h, _⟩ := h
  simp [h]
section
variable {P : Program} {w : World} {K : PySem.W.Frag} {mg : Str → Option Value} {base : Heap} {J : Cls'} {f f2 : Addr} {fd fd2 : FuncData}
theorem sc_Stage___init__ : FnScope ["self", "ahead"] ["self", "ahead"] (defScope s_Stage___init__) := ⟨rfl, rfl, rfl, by decide +kernel, rfl, by decide +kernel, by decide +kernel⟩
theorem ok_Stage___init__ (T : Txt K mg) (N : NodeF K J) (F : FnP K "__init__" "Stage.__init__" s_Stage___init__ f fd) :
    FnOk P w K mg base CX0 1 f fd ["self", "ahead"] (spSuper J) := by
  refine ok0 F sc_Stage___init__ (fun vs H Q E h => ?_) (fun cdv A outer s H vs Q E hr h => ?_)
  · obtain ⟨x, dx, C, ah, rfl, _⟩ := h
    rfl
  · obtain ⟨x, dx, C, ah, rfl, hC, e, k⟩ := h
    have hC' := hC.draw
    have ca := N.c _ hC'
    refine ⟨_, (pss_cons (ps_fld (pv 0) (pv 1) rfl)
  (pss_one (ps_fld (pv 0) pe_bl rfl))), ?_⟩
    try dsimp only [cxOf, Cx.nox, Cx.wish]
    refine rd_at (σ' := [some (.ref x), some ah]) rfl ?_
    walk_at "go"
    refine rd_fset ?_
    walk_at "go"
    refine rd_st e ca (N.na_ahead _ hC') (by show 0 < 1000; omega) ?_
    have e1 : upd H x (.ins C dx [("ahead", ah)]) x = some (.ins C dx [("ahead", ah)]) := upd_same
    dsimp only
    refine rd_fset ?_
    walk_at "go"
    refine rd_st e1 ca (N.na_ended _ hC') (by show 1 < 1000; omega) ?_
    exact k _ (upd_same.trans rfl) ((Fr.put (S := [x]) (by simp) (nt e)).putN (.inl (by simp)) (nt e1))
theorem sc_Reckon___init__ : SupScope ["self", "ahead", "factor", "term"] ["self", "ahead", "factor", "term"] (defScope s_Reckon___init__) := ⟨rfl, rfl, rfl, by decide +kernel, rfl, by decide +kernel, by decide +kernel, by decide +kernel, rfl, rfl⟩
theorem ok_Reckon___init__ (T : Txt K mg) (N : NodeF K J) (S : SupTxt P K mg "__init__" "Reckon.__init__" (defArgs s_Reckon___init__) (defBody s_Reckon___init__) (defScope s_Reckon___init__) J.reckon f f2 fd)
    (G2 : FnOk P w K mg base CX0 1 f2 fd2 ["self", "ahead"] (spSuper J)) (b2 : Binds K fd2 ["self", "ahead"] []) :
    FnOk P w K mg base CX0 2 f fd ["self", "ahead", "factor", "term"] (spSInit J.reckon 2 fun | [a, b] => [("factor", a), ("term", b)] | _ => []) := by
  refine fn_super S sc_Reckon___init__ rfl rfl G2 b2 (Nat.le_refl _) (fun vs H Q E h => h.len) (fun cda cc A outer s H vs Q E hr h => ?_) (fun _ => rfl) (fun _ => rfl) (fun _ => rfl) (fun _ => rfl)
  obtain ⟨x, dx, ah, args, rfl, hl, e, k⟩ := h
  obtain ⟨a, b, rfl⟩ : ∃ a b, args = [a, b] := match args, hl with | [a, b], _ => ⟨a, b, rfl⟩
  have hC : StageC J J.reckon := .inl rfl
  have hC' := hC.draw
  have ca := N.c _ hC'
  refine ⟨x, dx, _, _, _, (pa_cons (pv 1) pa_nil), (pss_cons (ps_fld (pv 0) (pv 2) rfl)
  (pss_one (ps_fld (pv 0) (pv 3) rfl))), rfl, e, ?_⟩
  try dsimp only [cxS]
  walk_at "go"
  refine ⟨x, dx, _, ah, rfl, hC, e, fun H2 e2 f2 => ?_⟩
  refine rd_at (σ' := some (.ref x) :: some ah :: [some a, some b]) rfl ?_
  try dsimp only
  walk_at "go"
  refine rd_fset ?_
  walk_at "go"
  refine rd_st e2 ca (N.na_factor _ hC') (by show 2 < 1000; omega) ?_
  have e3 : (upd H2 x (.ins J.reckon dx [("ahead", ah), ("ended", .bl false), ("factor", a)])) x = some (.ins J.reckon dx [("ahead", ah), ("ended", .bl false), ("factor", a)]) := upd_same
  try dsimp only
  walk_at "go"
  refine rd_fset ?_
  walk_at "go"
  refine rd_st e3 ca (N.na_term _ hC') (by show 3 < 1000; omega) ?_
  exact k _ (upd_same.trans rfl) ((f2.putN (.inl (by simp)) (nt e2)).putN (.inl (by simp)) (nt e3))
theorem sc_Keep___init__ : SupScope ["self", "ahead", "rest", "wheel"] ["self", "ahead", "rest", "wheel"] (defScope s_Keep___init__) := ⟨rfl, rfl, rfl, by decide +kernel, rfl, by decide +kernel, by decide +kernel, by decide +kernel, rfl, rfl⟩
theorem ok_Keep___init__ (T : Txt K mg) (N : NodeF K J) (S : SupTxt P K mg "__init__" "Keep.__init__" (defArgs s_Keep___init__) (defBody s_Keep___init__) (defScope s_Keep___init__) J.keep f f2 fd)
    (G2 : FnOk P w K mg base CX0 1 f2 fd2 ["self", "ahead"] (spSuper J)) (b2 : Binds K fd2 ["self", "ahead"] []) :
    FnOk P w K mg base CX0 2 f fd ["self", "ahead", "rest", "wheel"] (spSInit J.keep 2 fun | [a, b] => [("rest", a), ("wheel", b)] | _ => []) := by
  refine fn_super S sc_Keep___init__ rfl rfl G2 b2 (Nat.le_refl _) (fun vs H Q E h => h.len) (fun cda cc A outer s H vs Q E hr h => ?_) (fun _ => rfl) (fun _ => rfl) (fun _ => rfl) (fun _ => rfl)
  obtain ⟨x, dx, ah, args, rfl, hl, e, k⟩ := h
  obtain ⟨a, b, rfl⟩ : ∃ a b, args = [a, b] := match args, hl with | [a, b], _ => ⟨a, b, rfl⟩
  have hC : StageC J J.keep := .inr (.inl rfl)
  have hC' := hC.draw
  have ca := N.c _ hC'
  refine ⟨x, dx, _, _, _, (pa_cons (pv 1) pa_nil), (pss_cons (ps_fld (pv 0) (pv 2) rfl)
  (pss_one (ps_fld (pv 0) (pv 3) rfl))), rfl, e, ?_⟩
  try dsimp only [cxS]
  walk_at "go"
  refine ⟨x, dx, _, ah, rfl, hC, e, fun H2 e2 f2 => ?_⟩
  refine rd_at (σ' := some (.ref x) :: some ah :: [some a, some b]) rfl ?_
  try dsimp only
  walk_at "go"
  refine rd_fset ?_
  walk_at "go"
  refine rd_st e2 ca (N.na_rest _ hC') (by show 2 < 1000; omega) ?_
  have e3 : (upd H2 x (.ins J.keep dx [("ahead", ah), ("ended", .bl false), ("rest", a)])) x = some (.ins J.keep dx [("ahead", ah), ("ended", .bl false), ("rest", a)]) := upd_same
  try dsimp only
  walk_at "go"
  refine rd_fset ?_
  walk_at "go"
  refine rd_st e3 ca (N.na_wheel _ hC') (by show 3 < 1000; omega) ?_
  exact k _ (upd_same.trans rfl) ((f2.putN (.inl (by simp)) (nt e2)).putN (.inl (by simp)) (nt e3))
theorem sc_Drop___init__ : SupScope ["self", "ahead", "many"] ["self", "ahead", "many"] (defScope s_Drop___init__) := ⟨rfl, rfl, rfl, by decide +kernel, rfl, by decide +kernel, by decide +kernel, by decide +kernel, rfl, rfl⟩
theorem ok_Drop___init__ (T : Txt K mg) (N : NodeF K J) (S : SupTxt P K mg "__init__" "Drop.__init__" (defArgs s_Drop___init__) (defBody s_Drop___init__) (defScope s_Drop___init__) J.drop f f2 fd)
    (G2 : FnOk P w K mg base CX0 1 f2 fd2 ["self", "ahead"] (spSuper J)) (b2 : Binds K fd2 ["self", "ahead"] []) :
    FnOk P w K mg base CX0 2 f fd ["self", "ahead", "many"] (spSInit J.drop 1 fun | [a] => [("left", a)] | _ => []) := by
  refine fn_super S sc_Drop___init__ rfl rfl G2 b2 (Nat.le_refl _) (fun vs H Q E h => h.len) (fun cda cc A outer s H vs Q E hr h => ?_) (fun _ => rfl) (fun _ => rfl) (fun _ => rfl) (fun _ => rfl)
  obtain ⟨x, dx, ah, args, rfl, hl, e, k⟩ := h
  obtain ⟨a, rfl⟩ : ∃ a, args = [a] := match args, hl with | [a], _ => ⟨a, rfl⟩
  have hC : StageC J J.drop := .inr (.inr (.inl rfl))
  have hC' := hC.draw
  have ca := N.c _ hC'
  refine ⟨x, dx, _, _, _, (pa_cons (pv 1) pa_nil), (pss_one (ps_fld (pv 0) (pv 2) rfl)), rfl, e, ?_⟩
  try dsimp only [cxS]
  walk_at "go"
  refine ⟨x, dx, _, ah, rfl, hC, e, fun H2 e2 f2 => ?_⟩
  refine rd_at (σ' := some (.ref x) :: some ah :: [some a]) rfl ?_
  try dsimp only
  walk_at "go"
  refine rd_fset ?_
  walk_at "go"
  refine rd_st e2 ca (N.na_left _ hC') (by show 2 < 1000; omega) ?_
  exact k _ (upd_same.trans rfl) (f2.putN (.inl (by simp)) (nt e2))
theorem sc_Take___init__ : SupScope ["self", "ahead", "many"] ["self", "ahead", "many"] (defScope s_Take___init__) := ⟨rfl, rfl, rfl, by decide +kernel, rfl, by decide +kernel, by decide +kernel, by decide +kernel, rfl, rfl⟩
theorem ok_Take___init__ (T : Txt K mg) (N : NodeF K J) (S : SupTxt P K mg "__init__" "Take.__init__" (defArgs s_Take___init__) (defBody s_Take___init__) (defScope s_Take___init__) J.take f f2 fd)
    (G2 : FnOk P w K mg base CX0 1 f2 fd2 ["self", "ahead"] (spSuper J)) (b2 : Binds K fd2 ["self", "ahead"] []) :
    FnOk P w K mg base CX0 2 f fd ["self", "ahead", "many"] (spSInit J.take 1 fun | [a] => [("left", a)] | _ => []) := by
  refine fn_super S sc_Take___init__ rfl rfl G2 b2 (Nat.le_refl _) (fun vs H Q E h => h.len) (fun cda cc A outer s H vs Q E hr h => ?_) (fun _ => rfl) (fun _ => rfl) (fun _ => rfl) (fun _ => rfl)
  obtain ⟨x, dx, ah, args, rfl, hl, e, k⟩ := h
  obtain ⟨a, rfl⟩ : ∃ a, args = [a] := match args, hl with | [a], _ => ⟨a, rfl⟩
  have hC : StageC J J.take := .inr (.inr (.inr (.inl rfl)))
  have hC' := hC.draw
  have ca := N.c _ hC'
  refine ⟨x, dx, _, _, _, (pa_cons (pv 1) pa_nil), (pss_one (ps_fld (pv 0) (pv 2) rfl)), rfl, e, ?_⟩
  try dsimp only [cxS]
  walk_at "go"
  refine ⟨x, dx, _, ah, rfl, hC, e, fun H2 e2 f2 => ?_⟩
  refine rd_at (σ' := some (.ref x) :: some ah :: [some a]) rfl ?_
  try dsimp only
  walk_at "go"
  refine rd_fset ?_
  walk_at "go"
  refine rd_st e2 ca (N.na_left _ hC') (by show 2 < 1000; omega) ?_
  exact k _ (upd_same.trans rfl) (f2.putN (.inl (by simp)) (nt e2))
theorem sc_Each___init__ : SupScope ["self", "ahead", "many"] ["self", "ahead", "many"] (defScope s_Each___init__) := ⟨rfl, rfl, rfl, by decide +kernel, rfl, by decide +kernel, by decide +kernel, by decide +kernel, rfl, rfl⟩
theorem ok_Each___init__ (T : Txt K mg) (N : NodeF K J) (S : SupTxt P K mg "__init__" "Each.__init__" (defArgs s_Each___init__) (defBody s_Each___init__) (defScope s_Each___init__) J.each f f2 fd)
    (G2 : FnOk P w K mg base CX0 1 f2 fd2 ["self", "ahead"] (spSuper J)) (b2 : Binds K fd2 ["self", "ahead"] []) :
    FnOk P w K mg base CX0 2 f fd ["self", "ahead", "many"] (spSInit J.each 1 fun | [a] => [("many", a), ("left", .int 0), ("number", .non)] | _ => []) := by
  refine fn_super S sc_Each___init__ rfl rfl G2 b2 (Nat.le_refl _) (fun vs H Q E h => h.len) (fun cda cc A outer s H vs Q E hr h => ?_) (fun _ => rfl) (fun _ => rfl) (fun _ => rfl) (fun _ => rfl)
  obtain ⟨x, dx, ah, args, rfl, hl, e, k⟩ := h
  obtain ⟨a, rfl⟩ : ∃ a, args = [a] := match args, hl with | [a], _ => ⟨a, rfl⟩
  have hC : StageC J J.each := .inr (.inr (.inr (.inr (.inl rfl))))
  have hC' := hC.draw
  have ca := N.c _ hC'
  refine ⟨x, dx, _, _, _, (pa_cons (pv 1) pa_nil), (pss_cons (ps_fld (pv 0) (pv 2) rfl)
  (pss_cons (ps_fld (pv 0) pe_int rfl)
  (pss_one (ps_fld (pv 0) pe_non rfl)))), rfl, e, ?_⟩
  try dsimp only [cxS]
  walk_at "go"
  refine ⟨x, dx, _, ah, rfl, hC, e, fun H2 e2 f2 => ?_⟩
  refine rd_at (σ' := some (.ref x) :: some ah :: [some a]) rfl ?_
  try dsimp only
  walk_at "go"
  refine rd_fset ?_
  walk_at "go"
  refine rd_st e2 ca (N.na_many _ hC') (by show 2 < 1000; omega) ?_
  have e3 : (upd H2 x (.ins J.each dx [("ahead", ah), ("ended", .bl false), ("many", a)])) x = some (.ins J.each dx [("ahead", ah), ("ended", .bl false), ("many", a)]) := upd_same
  try dsimp only
  walk_at "go"
  refine rd_fset ?_
  walk_at "go"
  refine rd_st e3 ca (N.na_left _ hC') (by show 3 < 1000; omega) ?_
  have e4 : (upd (upd H2 x (.ins J.each dx [("ahead", ah), ("ended", .bl false), ("many", a)])) x (.ins J.each dx [("ahead", ah), ("ended", .bl false), ("many", a), ("left", .int 0)])) x = some (.ins J.each dx [("ahead", ah), ("ended", .bl false), ("many", a), ("left", .int 0)]) := upd_same
  try dsimp only
  walk_at "go"
  refine rd_fset ?_
  walk_at "go"
  refine rd_st e4 ca (N.na_number _ hC') (by show 4 < 1000; omega) ?_
  exact k _ (upd_same.trans rfl) (((f2.putN (.inl (by simp)) (nt e2)).putN (.inl (by simp)) (nt e3)).putN (.inl (by simp)) (nt e4))
theorem sc_Until___init__ : SupScope ["self", "ahead", "n", "meter"] ["self", "ahead", "n", "meter"] (defScope s_Until___init__) := ⟨rfl, rfl, rfl, by decide +kernel, rfl, by decide +kernel, by decide +kernel, by decide +kernel, rfl, rfl⟩
theorem ok_Until___init__ (T : Txt K mg) (N : NodeF K J) (S : SupTxt P K mg "__init__" "Until.__init__" (defArgs s_Until___init__) (defBody s_Until___init__) (defScope s_Until___init__) J.until' f f2 fd)
    (G2 : FnOk P w K mg base CX0 1 f2 fd2 ["self", "ahead"] (spSuper J)) (b2 : Binds K fd2 ["self", "ahead"] []) :
    FnOk P w K mg base CX0 2 f fd ["self", "ahead", "n", "meter"] (spSInit J.until' 2 fun | [a, b] => [("n", a), ("meter", b)] | _ => []) := by
  refine fn_super S sc_Until___init__ rfl rfl G2 b2 (Nat.le_refl _) (fun vs H Q E h => h.len) (fun cda cc A outer s H vs Q E hr h => ?_) (fun _ => rfl) (fun _ => rfl) (fun _ => rfl) (fun _ => rfl)
  obtain ⟨x, dx, ah, args, rfl, hl, e, k⟩ := h
  obtain ⟨a, b, rfl⟩ : ∃ a b, args = [a, b] := match args, hl with | [a, b], _ => ⟨a, b, rfl⟩
  have hC : StageC J J.until' := .inr (.inr (.inr (.inr (.inr (.inl rfl)))))
  have hC' := hC.draw
  have ca := N.c _ hC'
  refine ⟨x, dx, _, _, _, (pa_cons (pv 1) pa_nil), (pss_cons (ps_fld (pv 0) (pv 2) rfl)
  (pss_one (ps_fld (pv 0) (pv 3) rfl))), rfl, e, ?_⟩
  try dsimp only [cxS]
  walk_at "go"
  refine ⟨x, dx, _, ah, rfl, hC, e, fun H2 e2 f2 => ?_⟩
  refine rd_at (σ' := some (.ref x) :: some ah :: [some a, some b]) rfl ?_
  try dsimp only
  walk_at "go"
  refine rd_fset ?_
  walk_at "go"
  refine rd_st e2 ca (N.na_n _ hC') (by show 2 < 1000; omega) ?_
  have e3 : (upd H2 x (.ins J.until' dx [("ahead", ah), ("ended", .bl false), ("n", a)])) x = some (.ins J.until' dx [("ahead", ah), ("ended", .bl false), ("n", a)]) := upd_same
  try dsimp only
  walk_at "go"
  refine rd_fset ?_
  walk_at "go"
  refine rd_st e3 ca (N.na_meter _ hC') (by show 3 < 1000; omega) ?_
  exact k _ (upd_same.trans rfl) ((f2.putN (.inl (by simp)) (nt e2)).putN (.inl (by simp)) (nt e3))
theorem sc_Unlike___init__ : SupScope ["self", "ahead"] ["self", "ahead"] (defScope s_Unlike___init__) := ⟨rfl, rfl, rfl, by decide +kernel, rfl, by decide +kernel, by decide +kernel, by decide +kernel, rfl, rfl⟩
theorem ok_Unlike___init__ (T : Txt K mg) (N : NodeF K J) (S : SupTxt P K mg "__init__" "Unlike.__init__" (defArgs s_Unlike___init__) (defBody s_Unlike___init__) (defScope s_Unlike___init__) J.unlike f f2 fd)
    (G2 : FnOk P w K mg base CX0 1 f2 fd2 ["self", "ahead"] (spSuper J)) (b2 : Binds K fd2 ["self", "ahead"] []) :
    FnOk P w K mg base CX0 2 f fd ["self", "ahead"] (spSInit J.unlike 0 fun _ => [("last", .non)]) := by
  refine fn_super S sc_Unlike___init__ rfl rfl G2 b2 (Nat.le_refl _) (fun vs H Q E h => h.len) (fun cda cc A outer s H vs Q E hr h => ?_) (fun _ => rfl) (fun _ => rfl) (fun _ => rfl) (fun _ => rfl)
  obtain ⟨x, dx, ah, args, rfl, hl, e, k⟩ := h
  obtain rfl : args = [] := List.eq_nil_of_length_eq_zero hl
  have hC : StageC J J.unlike := .inr (.inr (.inr (.inr (.inr (.inr (.inl rfl))))))
  have hC' := hC.draw
  have ca := N.c _ hC'
  refine ⟨x, dx, _, _, _, (pa_cons (pv 1) pa_nil), (pss_one (ps_fld (pv 0) pe_non rfl)), rfl, e, ?_⟩
  try dsimp only [cxS]
  walk_at "go"
  refine ⟨x, dx, _, ah, rfl, hC, e, fun H2 e2 f2 => ?_⟩
  refine rd_at (σ' := some (.ref x) :: some ah :: []) rfl ?_
  try dsimp only
  walk_at "go"
  refine rd_fset ?_
  walk_at "go"
  refine rd_st e2 ca (N.na_last _ hC') (by show 2 < 1000; omega) ?_
  exact k _ (upd_same.trans rfl) (f2.putN (.inl (by simp)) (nt e2))
theorem sc_Both___init__ : SupScope ["self", "ahead", "other", "meter"] ["self", "ahead", "other", "meter"] (defScope s_Both___init__) := ⟨rfl, rfl, rfl, by decide +kernel, rfl, by decide +kernel, by decide +kernel, by decide +kernel, rfl, rfl⟩
theorem ok_Both___init__ (T : Txt K mg) (N : NodeF K J) (S : SupTxt P K mg "__init__" "Both.__init__" (defArgs s_Both___init__) (defBody s_Both___init__) (defScope s_Both___init__) J.both f f2 fd)
    (G2 : FnOk P w K mg base CX0 1 f2 fd2 ["self", "ahead"] (spSuper J)) (b2 : Binds K fd2 ["self", "ahead"] []) :
    FnOk P w K mg base CX0 2 f fd ["self", "ahead", "other", "meter"] (spSInit J.both 2 fun | [a, b] => [("other", a), ("meter", b)] | _ => []) := by
  refine fn_super S sc_Both___init__ rfl rfl G2 b2 (Nat.le_refl _) (fun vs H Q E h => h.len) (fun cda cc A outer s H vs Q E hr h => ?_) (fun _ => rfl) (fun _ => rfl) (fun _ => rfl) (fun _ => rfl)
  obtain ⟨x, dx, ah, args, rfl, hl, e, k⟩ := h
  obtain ⟨a, b, rfl⟩ : ∃ a b, args = [a, b] := match args, hl with | [a, b], _ => ⟨a, b, rfl⟩
  have hC : StageC J J.both := .inr (.inr (.inr (.inr (.inr (.inr (.inr (.inl rfl)))))))
  have hC' := hC.draw
  have ca := N.c _ hC'
  refine ⟨x, dx, _, _, _, (pa_cons (pv 1) pa_nil), (pss_cons (ps_fld (pv 0) (pv 2) rfl)
  (pss_one (ps_fld (pv 0) (pv 3) rfl))), rfl, e, ?_⟩
  try dsimp only [cxS]
  walk_at "go"
  refine ⟨x, dx, _, ah, rfl, hC, e, fun H2 e2 f2 => ?_⟩
  refine rd_at (σ' := some (.ref x) :: some ah :: [some a, some b]) rfl ?_
  try dsimp only
  walk_at "go"
  refine rd_fset ?_
  walk_at "go"
  refine rd_st e2 ca (N.na_other _ hC') (by show 2 < 1000; omega) ?_
  have e3 : (upd H2 x (.ins J.both dx [("ahead", ah), ("ended", .bl false), ("other", a)])) x = some (.ins J.both dx [("ahead", ah), ("ended", .bl false), ("other", a)]) := upd_same
  try dsimp only
  walk_at "go"
  refine rd_fset ?_
  walk_at "go"
  refine rd_st e3 ca (N.na_meter _ hC') (by show 3 < 1000; omega) ?_
  exact k _ (upd_same.trans rfl) ((f2.putN (.inl (by simp)) (nt e2)).putN (.inl (by simp)) (nt e3))
theorem sc_Then___init__ : SupScope ["self", "ahead", "other"] ["self", "ahead", "other"] (defScope s_Then___init__) := ⟨rfl, rfl, rfl, by decide +kernel, rfl, by decide +kernel, by decide +kernel, by decide +kernel, rfl, rfl⟩
theorem ok_Then___init__ (T : Txt K mg) (N : NodeF K J) (S : SupTxt P K mg "__init__" "Then.__init__" (defArgs s_Then___init__) (defBody s_Then___init__) (defScope s_Then___init__) J.thn f f2 fd)
    (G2 : FnOk P w K mg base CX0 1 f2 fd2 ["self", "ahead"] (spSuper J)) (b2 : Binds K fd2 ["self", "ahead"] []) :
    FnOk P w K mg base CX0 2 f fd ["self", "ahead", "other"] (spSInit J.thn 1 fun | [a] => [("other", a)] | _ => []) := by
  refine fn_super S sc_Then___init__ rfl rfl G2 b2 (Nat.le_refl _) (fun vs H Q E h => h.len) (fun cda cc A outer s H vs Q E hr h => ?_) (fun _ => rfl) (fun _ => rfl) (fun _ => rfl) (fun _ => rfl)
  obtain ⟨x, dx, ah, args, rfl, hl, e, k⟩ := h
  obtain ⟨a, rfl⟩ : ∃ a, args = [a] := match args, hl with | [a], _ => ⟨a, rfl⟩
  have hC : StageC J J.thn := .inr (.inr (.inr (.inr (.inr (.inr (.inr (.inr rfl)))))))
  have hC' := hC.draw
  have ca := N.c _ hC'
  refine ⟨x, dx, _, _, _, (pa_cons (pv 1) pa_nil), (pss_one (ps_fld (pv 0) (pv 2) rfl)), rfl, e, ?_⟩
  try dsimp only [cxS]
  walk_at "go"
  refine ⟨x, dx, _, ah, rfl, hC, e, fun H2 e2 f2 => ?_⟩
  refine rd_at (σ' := some (.ref x) :: some ah :: [some a]) rfl ?_
  try dsimp only
  walk_at "go"
  refine rd_fset ?_
  walk_at "go"
  refine rd_st e2 ca (N.na_other _ hC') (by show 2 < 1000; omega) ?_
  exact k _ (upd_same.trans rfl) (f2.putN (.inl (by simp)) (nt e2))
end
end Dc

set_option Elab.async false
set_option linter.all false
set_option maxRecDepth 100000
set_option maxHeartbeats 2000000
namespace Dc
open PySem PySem.Spec PyProof.Rows L2
local macro_rules | `(tactic| walk_at "ne") => `(tactic| first | assumption | (refine Ne.symm ?_; assumption) | exact ne_of (by assumption) (by assumption) (by intro q; cases q) | exact ne_of_none (by assumption) (by assumption) | exact Ne.symm (ne_of_none (by assumption) (by assumption)))
local macro_rules | `(tactic| walk_at "hp") => `(tactic| first | assumption | exact upd_same | (refine upd_keep ?_ (by assumption); walk_at "hp") | (refine upd_other ?_ ?_; · walk_at "ne"; · walk_at "hp"))
local macro_rules | `(tactic| walk_at "hl") => `(tactic| first | assumption | exact SqL.of (by walk_at "hp"))
local macro_rules | `(tactic| walk_at "ht") => `(tactic| first | assumption | exact SqT.of (by walk_at "hp"))
local macro_rules | `(tactic| walk_at "rd1") => `(tactic| first
  | ((with_reducible apply rd_var); exact rfl)
  | ((with_reducible apply rd_eq); exact rfl) | ((with_reducible apply rd_ne); exact rfl)
  | with_reducible first
  | refine iteT ?_ | refine iteF ?_ | refine rd_nF ?_ | refine rd_nT ?_ | refine rd_yes ?_ | refine rd_c ?_ | refine rd_op ?_ | refine rd_un ?_ | refine rd_test ?_ | refine rd_B ?_ | refine rd_bl ?_ | refine rd_seq ?_ | refine rd_next ?_ | refine rd_ifs ?_ | refine rd_asg ?_ | refine rd_name ?_ | refine rd_ret ?_ | refine rd_drop ?_
  | refine rd_call ?_ | refine rd_cons ?_ | refine rd_nil ?_ | refine rd_cb ?_ | refine rd_I0 ?_ | refine rd_U ?_ | refine rd_gsub ?_ | refine rd_lst ?_ | refine rd_tup ?_ | refine rd_if ?_ | refine rd_not ?_ | refine rd_rng1 ?_ | refine rd_itup ?_ | refine rd_ilst ?_ | refine rd_bm ?_ | refine rd_bm0 ?_ | refine rd_andV ?_ | refine rd_orV ?_ | refine rd_notV ?_)
local macro_rules | `(tactic| walk_at "rd") => `(tactic| repeat walk_at "rd1")
local macro_rules | `(tactic| walk_at "ci") => `(tactic| first | assumption | (show (0 : Int) < _; first | decide | omega) | exact ⟨by decide, by decide⟩ | exact Or.inr ⟨by decide, by decide⟩ | exact Or.inl ⟨by decide, by decide⟩ | exact ⟨by decide, by decide, by decide⟩ | exact Or.inl ⟨by omega, by omega⟩ | exact Or.inr ⟨by omega, by omega⟩)
local macro_rules | `(tactic| walk_at "ix") => `(tactic| first
  | ((with_reducible apply rd_ixL); (walk_at "hl"); exact rfl)
  | ((with_reducible apply rd_ixT); (walk_at "ht"); exact rfl)
  | ((with_reducible apply rd_lenL); (walk_at "hl"))
  | ((with_reducible apply rd_lenT); (walk_at "ht"))
  | ((with_reducible apply rd_tupOf); (walk_at "hl"))
  | ((with_reducible apply rd_listOf); (walk_at "hl"))
  | (with_reducible refine rd_min2 ?_)
  | ((with_reducible apply rd_I); (walk_at "ci"))
  | ((with_reducible apply rd_setL); (walk_at "hp"); exact rfl))
local macro_rules | `(tactic| walk_at "gs") => `(tactic| repeat first | walk_at "rd1" | walk_at "ix")
local macro_rules | `(tactic| walk_at "go") => `(tactic| repeat first | walk_at "rd1" | walk_at "ix" | with_reducible refine rd_and ?_ | with_reducible refine rd_or ?_)
local macro_rules | `(tactic| walk_at "fo") => `(tactic| (with_reducible refine rd_for ?_))
local macro_rules | `(tactic| walk_at "pm") => `(tactic| repeat first
  | with_reducible first | refine rd_pcons ?_ | refine rd_pstr ?_ | refine rd_pcap ?_ | refine rd_pwild ?_ | refine rd_pnil ?_ | refine rd_por ?_ | refine rd_pno ?_
  | ((with_reducible refine rd_eq rfl ?_); refine ⟨_, rfl, ?_⟩; first | refine rd_T rfl ?_ | refine rd_F (by decide) ?_)
  | dsimp only [List.nil_append, List.singleton_append, List.cons_append, setAll])
local macro_rules | `(tactic| walk_at "pc") => `(tactic| (refine rd_case ?_); (first | (refine rd_phit (SqT.of (by assumption)) rfl ?_) | (refine rd_pmiss (SqT.of (by assumption)) (by simp) ?_)); (walk_at "pm"))

/-! ### the makings of makers and meter -/
def spMInit (J : Cls') : Sp := fun vs H Q _ => ∃ (x dx : Addr), vs = [.ref x] ∧ H x = some (.ins J.meter dx []) ∧
  ∀ H' cs lo, MetAt J H' x cs lo ⟨200, []⟩ [] → x ≠ cs → x ≠ lo → cs ≠ lo → H cs = none → H lo = none → Fr [x] H H' → Q .non H'
def spCInit (J : Cls') : Sp := fun vs H Q _ => ∃ (x dx me cs lo : Addr) (m : Mt) (gs : List Int) (b s : Int), vs = [.ref x, .int b, .int s, .ref me] ∧ H x = some (.ins J.count dx []) ∧ MetAt J H me cs lo m gs ∧ me ≠ cs ∧ me ≠ lo ∧ cs ≠ lo ∧ x ≠ me ∧ gs.length ≤ 1000 ∧
  ∀ H', H' x = some (.ins J.count dx [("number", .int b), ("step", .int s), ("meter", .ref me), ("place", .int gs.length)]) → MetAt J H' me cs lo m (gs ++ [0]) → Fr [x, cs] H H' → Q .non H'
def spRInit (J : Cls') : Sp := fun vs H Q _ => ∃ (x dx me cs lo p : Addr) (m : Mt) (gs : List Int), vs = [.ref x, .ref p, .ref me] ∧ H x = some (.ins J.row dx []) ∧ MetAt J H me cs lo m gs ∧ me ≠ cs ∧ me ≠ lo ∧ cs ≠ lo ∧ x ≠ me ∧ gs.length ≤ 1000 ∧
  ∀ H', H' x = some (.ins J.row dx [("numbers", .ref p), ("at", .int 0), ("meter", .ref me), ("place", .int gs.length)]) → MetAt J H' me cs lo m (gs ++ [0]) → Fr [x, cs] H H' → Q .non H'
section
variable {P : Program} {w : World} {K : PySem.W.Frag} {mg : Str → Option Value} {base : Heap} {J : Cls'} {f f2 : Addr} {fd fd2 : FuncData}
theorem sc_Meter___init__ : FnScope ["self"] ["self"] (defScope s_Meter___init__) := ⟨rfl, rfl, rfl, by decide +kernel, rfl, by decide +kernel, by decide +kernel⟩
theorem ok_Meter___init__ (T : Txt K mg) (M : MetF K J) (F : FnP K "__init__" "Meter.__init__" s_Meter___init__ f fd) :
    FnOk P w K mg base CX0 1 f fd ["self"] (spMInit J) := by
  refine ok0 F sc_Meter___init__ (fun vs H Q E h => ?_) (fun cdv A outer s H vs Q E hr h => ?_)
  · obtain ⟨x, dx, rfl, _⟩ := h
    rfl
  · obtain ⟨x, dx, rfl, e, k⟩ := h
    refine ⟨_, (pss_cons (ps_fld (pv 0) (pe_lst pa_nil) rfl)
  (pss_cons (ps_fld (pv 0) (pe_lst pa_nil) rfl)
  (pss_one (ps_fld (pv 0) pe_int rfl)))), ?_⟩
    try dsimp only [cxOf, Cx.nox, Cx.wish]
    refine rd_at (σ' := [some (.ref x)]) rfl ?_
    walk_at "go"
    refine rd_fset ?_
    walk_at "go"
    refine ⟨Nat.zero_le _, fun cs hcs => ?_⟩
    walk_at "go"
    have n1 : x ≠ cs := ne_of_none e hcs
    refine rd_st (upd_keep e hcs) M.c M.counts (by show 0 < 1000; omega) ?_
    have e1 : upd (upd H cs (.lst [])) x (.ins J.meter dx [("counts", .ref cs)]) x = some (.ins J.meter dx [("counts", .ref cs)]) := upd_same
    have c1 : upd (upd H cs (.lst [])) x (.ins J.meter dx [("counts", .ref cs)]) cs = some (.lst []) := upd_other n1.symm upd_same
    dsimp only
    refine rd_fset ?_
    walk_at "go"
    refine ⟨Nat.zero_le _, fun lo hlo => ?_⟩
    have hlo : upd (upd H cs (.lst [])) x (.ins J.meter dx [("counts", .ref cs)]) lo = none := hlo
    walk_at "go"
    have n2 : x ≠ lo := ne_of_none e1 hlo
    have n3 : cs ≠ lo := ne_of_none c1 hlo
    refine rd_st (upd_keep e1 hlo) M.c M.lost (by show 1 < 1000; omega) ?_
    have e2 : upd (upd (upd (upd H cs (.lst [])) x (.ins J.meter dx [("counts", .ref cs)])) lo (.lst [])) x (.ins J.meter dx [("counts", .ref cs), ("lost", .ref lo)]) x = some (.ins J.meter dx [("counts", .ref cs), ("lost", .ref lo)]) := upd_same
    dsimp only
    refine rd_fset ?_
    walk_at "go"
    refine rd_st e2 M.c M.left (by show 2 < 1000; omega) ?_
    have hl0 : H lo = none := by
      rw [upd_ne n2.symm, upd_ne n3.symm] at hlo
      exact hlo
    refine k _ cs lo ⟨⟨dx, upd_same.trans rfl⟩, ?_, ?_⟩ n1 n2 n3 hcs hl0 ?_
    · exact upd_other n1.symm (upd_other n1.symm (upd_other n3 c1))
    · exact upd_other n2.symm (upd_other n2.symm upd_same)
    · exact (((((Fr.new (S := [x]) hcs).putN (.inl (by simp)) (nt (upd_keep e hcs))).newN hlo).putN (.inl (by simp)) (nt (upd_keep e1 hlo))).putN (.inl (by simp)) (nt e2))
theorem sc_Count___init__ : FnScope ["self", "begin", "step", "meter"] ["self", "begin", "step", "meter"] (defScope s_Count___init__) := ⟨rfl, rfl, rfl, by decide +kernel, rfl, by decide +kernel, by decide +kernel⟩
theorem ok_Count___init__ (T : Txt K mg) (N : NodeF K J) (F : FnP K "__init__" "Count.__init__" s_Count___init__ f fd) (G_enter : CalM P w K mg base CX0 1 J.meter "enter" ["self"] (spEnter J)) :
    FnOk P w K mg base CX0 2 f fd ["self", "begin", "step", "meter"] (spCInit J) := by
  refine ok0 F sc_Count___init__ (fun vs H Q E h => ?_) (fun cdv A outer s H vs Q E hr h => ?_)
  · obtain ⟨x, dx, me, cs, lo, m, gs, b, s, rfl, _⟩ := h
    rfl
  · obtain ⟨x, dx, me, cs, lo, m, gs, b, st, rfl, e, M, n1, n2, n3, nx, hg, k⟩ := h
    have hC : DrawC J J.count := .inl rfl
    have ca := N.c _ hC
    have nc : x ≠ cs := ne_of e M.2.1 (by intro q; cases q)
    have nl : x ≠ lo := ne_of e M.2.2 (by intro q; cases q)
    refine ⟨_, (pss_cons (ps_fld (pv 0) (pv 1) rfl)
  (pss_cons (ps_fld (pv 0) (pv 2) rfl)
  (pss_cons (ps_fld (pv 0) (pv 3) rfl)
  (pss_one (ps_fld (pv 0) (pe_cm0 (pv 3) G_enter (hr.mono (by omega)) pass0) rfl))))), ?_⟩
    try dsimp only [cxOf, Cx.nox, Cx.wish]
    refine rd_at (σ' := [some (.ref x), some (.int b), some (.int st), some (.ref me)]) rfl ?_
    walk_at "go"
    refine rd_fset ?_
    walk_at "go"
    refine rd_st e ca (N.na_number _ hC) (by show 0 < 1000; omega) ?_
    have e1 : upd H x (.ins J.count dx [("number", .int b)]) x = some (.ins J.count dx [("number", .int b)]) := upd_same
    dsimp only
    refine rd_fset ?_
    walk_at "go"
    refine rd_st e1 ca (N.na_step _ hC) (by show 1 < 1000; omega) ?_
    have e2 : upd (upd H x (.ins J.count dx [("number", .int b)])) x (.ins J.count dx [("number", .int b), ("step", .int st)]) x = some (.ins J.count dx [("number", .int b), ("step", .int st)]) := upd_same
    dsimp only
    refine rd_fset ?_
    walk_at "go"
    refine rd_st e2 ca (N.na_meter _ hC) (by show 2 < 1000; omega) ?_
    have e3 : upd (upd (upd H x (.ins J.count dx [("number", .int b)])) x (.ins J.count dx [("number", .int b), ("step", .int st)])) x (.ins J.count dx [("number", .int b), ("step", .int st), ("meter", .ref me)]) x = some (.ins J.count dx [("number", .int b), ("step", .int st), ("meter", .ref me)]) := upd_same
    have f3 : Fr [x, cs] H (upd (upd (upd H x (.ins J.count dx [("number", .int b)])) x (.ins J.count dx [("number", .int b), ("step", .int st)])) x (.ins J.count dx [("number", .int b), ("step", .int st), ("meter", .ref me)])) := ((Fr.put (by simp) (nt e)).putN (.inl (by simp)) (nt e1)).putN (.inl (by simp)) (nt e2)
    have M3 := ((M.put (o := .ins J.count dx [("number", .int b)]) ⟨nx, nc, nl⟩).put (o := .ins J.count dx [("number", .int b), ("step", .int st)]) ⟨nx, nc, nl⟩).put (o := .ins J.count dx [("number", .int b), ("step", .int st), ("meter", .ref me)]) ⟨nx, nc, nl⟩
    obtain ⟨⟨dm, em⟩, _, _⟩ := id M3
    dsimp only
    refine rd_fset ?_
    refine rd_meth ?_
    walk_at "go"
    refine rd_m em rfl ?_
    walk_at "go"
    refine ⟨me, cs, lo, m, gs, rfl, M3, n1, n2, n3, hg, fun H' M' f' => ?_⟩
    have e4 := f'.at e3 (by simpa using nc)
    walk_at "go"
    refine rd_st e4 ca (N.na_place _ hC) (by show 3 < 1000; omega) ?_
    exact k _ (upd_same.trans rfl) (M'.put ⟨nx, nc, nl⟩) ((f3.tr (f'.mono (by simp))).putN (.inl (by simp)) (nt e4))
theorem sc_Row___init__ : FnScope ["self", "numbers", "meter"] ["self", "numbers", "meter"] (defScope s_Row___init__) := ⟨rfl, rfl, rfl, by decide +kernel, rfl, by decide +kernel, by decide +kernel⟩
theorem ok_Row___init__ (T : Txt K mg) (N : NodeF K J) (F : FnP K "__init__" "Row.__init__" s_Row___init__ f fd) (G_enter : CalM P w K mg base CX0 1 J.meter "enter" ["self"] (spEnter J)) :
    FnOk P w K mg base CX0 2 f fd ["self", "numbers", "meter"] (spRInit J) := by
  refine ok0 F sc_Row___init__ (fun vs H Q E h => ?_) (fun cdv A outer s H vs Q E hr h => ?_)
  · obtain ⟨x, dx, me, cs, lo, p, m, gs, rfl, _⟩ := h
    rfl
  · obtain ⟨x, dx, me, cs, lo, p, m, gs, rfl, e, M, n1, n2, n3, nx, hg, k⟩ := h
    have hC : DrawC J J.row := .inr (.inl rfl)
    have ca := N.c _ hC
    have nc : x ≠ cs := ne_of e M.2.1 (by intro q; cases q)
    have nl : x ≠ lo := ne_of e M.2.2 (by intro q; cases q)
    refine ⟨_, (pss_cons (ps_fld (pv 0) (pv 1) rfl)
  (pss_cons (ps_fld (pv 0) pe_int rfl)
  (pss_cons (ps_fld (pv 0) (pv 2) rfl)
  (pss_one (ps_fld (pv 0) (pe_cm0 (pv 2) G_enter (hr.mono (by omega)) pass0) rfl))))), ?_⟩
    try dsimp only [cxOf, Cx.nox, Cx.wish]
    refine rd_at (σ' := [some (.ref x), some (.ref p), some (.ref me)]) rfl ?_
    walk_at "go"
    refine rd_fset ?_
    walk_at "go"
    refine rd_st e ca (N.na_numbers _ hC) (by show 0 < 1000; omega) ?_
    have e1 : upd H x (.ins J.row dx [("numbers", .ref p)]) x = some (.ins J.row dx [("numbers", .ref p)]) := upd_same
    dsimp only
    refine rd_fset ?_
    walk_at "go"
    refine rd_st e1 ca (N.na_at _ hC) (by show 1 < 1000; omega) ?_
    have e2 : upd (upd H x (.ins J.row dx [("numbers", .ref p)])) x (.ins J.row dx [("numbers", .ref p), ("at", .int 0)]) x = some (.ins J.row dx [("numbers", .ref p), ("at", .int 0)]) := upd_same
    dsimp only
    refine rd_fset ?_
    walk_at "go"
    refine rd_st e2 ca (N.na_meter _ hC) (by show 2 < 1000; omega) ?_
    have e3 : upd (upd (upd H x (.ins J.row dx [("numbers", .ref p)])) x (.ins J.row dx [("numbers", .ref p), ("at", .int 0)])) x (.ins J.row dx [("numbers", .ref p), ("at", .int 0), ("meter", .ref me)]) x = some (.ins J.row dx [("numbers", .ref p), ("at", .int 0), ("meter", .ref me)]) := upd_same
    have f3 : Fr [x, cs] H (upd (upd (upd H x (.ins J.row dx [("numbers", .ref p)])) x (.ins J.row dx [("numbers", .ref p), ("at", .int 0)])) x (.ins J.row dx [("numbers", .ref p), ("at", .int 0), ("meter", .ref me)])) := ((Fr.put (by simp) (nt e)).putN (.inl (by simp)) (nt e1)).putN (.inl (by simp)) (nt e2)
    have M3 := ((M.put (o := .ins J.row dx [("numbers", .ref p)]) ⟨nx, nc, nl⟩).put (o := .ins J.row dx [("numbers", .ref p), ("at", .int 0)]) ⟨nx, nc, nl⟩).put (o := .ins J.row dx [("numbers", .ref p), ("at", .int 0), ("meter", .ref me)]) ⟨nx, nc, nl⟩
    obtain ⟨⟨dm, em⟩, _, _⟩ := id M3
    dsimp only
    refine rd_fset ?_
    refine rd_meth ?_
    walk_at "go"
    refine rd_m em rfl ?_
    walk_at "go"
    refine ⟨me, cs, lo, m, gs, rfl, M3, n1, n2, n3, hg, fun H' M' f' => ?_⟩
    have e4 := f'.at e3 (by simpa using nc)
    walk_at "go"
    refine rd_st e4 ca (N.na_place _ hC) (by show 3 < 1000; omega) ?_
    exact k _ (upd_same.trans rfl) (M'.put ⟨nx, nc, nl⟩) ((f3.tr (f'.mono (by simp))).putN (.inl (by simp)) (nt e4))
end
end Dc

set_option Elab.async false
set_option linter.all false
set_option maxRecDepth 100000
set_option maxHeartbeats 2000000
namespace Dc
open PySem PySem.Spec PyProof.Rows L2
local macro_rules | `(tactic| walk_at "ne") => `(tactic| first | assumption | (refine Ne.symm ?_; assumption) | exact ne_of (by assumption) (by assumption) (by intro q; cases q) | exact ne_of_none (by assumption) (by assumption) | exact Ne.symm (ne_of_none (by assumption) (by assumption)))
local macro_rules | `(tactic| walk_at "hp") => `(tactic| first | assumption | exact upd_same | (refine upd_keep ?_ (by assumption); walk_at "hp") | (refine upd_other ?_ ?_; · walk_at "ne"; · walk_at "hp"))
local macro_rules | `(tactic| walk_at "hl") => `(tactic| first | assumption | exact SqL.of (by walk_at "hp"))
local macro_rules | `(tactic| walk_at "ht") => `(tactic| first | assumption | exact SqT.of (by walk_at "hp"))
local macro_rules | `(tactic| walk_at "rd1") => `(tactic| first
  | ((with_reducible apply rd_var); exact rfl)
  | ((with_reducible apply rd_eq); exact rfl) | ((with_reducible apply rd_ne); exact rfl)
  | with_reducible first
  | refine iteT ?_ | refine iteF ?_ | refine rd_nF ?_ | refine rd_nT ?_ | refine rd_yes ?_ | refine rd_c ?_ | refine rd_op ?_ | refine rd_un ?_ | refine rd_test ?_ | refine rd_B ?_ | refine rd_bl ?_ | refine rd_seq ?_ | refine rd_next ?_ | refine rd_ifs ?_ | refine rd_asg ?_ | refine rd_name ?_ | refine rd_ret ?_ | refine rd_drop ?_
  | refine rd_call ?_ | refine rd_cons ?_ | refine rd_nil ?_ | refine rd_cb ?_ | refine rd_I0 ?_ | refine rd_U ?_ | refine rd_gsub ?_ | refine rd_lst ?_ | refine rd_tup ?_ | refine rd_if ?_ | refine rd_not ?_ | refine rd_rng1 ?_ | refine rd_itup ?_ | refine rd_ilst ?_ | refine rd_bm ?_ | refine rd_bm0 ?_ | refine rd_andV ?_ | refine rd_orV ?_ | refine rd_notV ?_)
local macro_rules | `(tactic| walk_at "rd") => `(tactic| repeat walk_at "rd1")
local macro_rules | `(tactic| walk_at "ci") => `(tactic| first | assumption | (show (0 : Int) < _; first | decide | omega) | exact ⟨by decide, by decide⟩ | exact Or.inr ⟨by decide, by decide⟩ | exact Or.inl ⟨by decide, by decide⟩ | exact ⟨by decide, by decide, by decide⟩ | exact Or.inl ⟨by omega, by omega⟩ | exact Or.inr ⟨by omega, by omega⟩)
local macro_rules | `(tactic| walk_at "ix") => `(tactic| first
  | ((with_reducible apply rd_ixL); (walk_at "hl"); exact rfl)
  | ((with_reducible apply rd_ixT); (walk_at "ht"); exact rfl)
  | ((with_reducible apply rd_lenL); (walk_at "hl"))
  | ((with_reducible apply rd_lenT); (walk_at "ht"))
  | ((with_reducible apply rd_tupOf); (walk_at "hl"))
  | ((with_reducible apply rd_listOf); (walk_at "hl"))
  | (with_reducible refine rd_min2 ?_)
  | ((with_reducible apply rd_I); (walk_at "ci"))
  | ((with_reducible apply rd_setL); (walk_at "hp"); exact rfl))
local macro_rules | `(tactic| walk_at "gs") => `(tactic| repeat first | walk_at "rd1" | walk_at "ix")
local macro_rules | `(tactic| walk_at "go") => `(tactic| repeat first | walk_at "rd1" | walk_at "ix" | with_reducible refine rd_and ?_ | with_reducible refine rd_or ?_)
local macro_rules | `(tactic| walk_at "fo") => `(tactic| (with_reducible refine rd_for ?_))
local macro_rules | `(tactic| walk_at "pm") => `(tactic| repeat first
  | with_reducible first | refine rd_pcons ?_ | refine rd_pstr ?_ | refine rd_pcap ?_ | refine rd_pwild ?_ | refine rd_pnil ?_ | refine rd_por ?_ | refine rd_pno ?_
  | ((with_reducible refine rd_eq rfl ?_); refine ⟨_, rfl, ?_⟩; first | refine rd_T rfl ?_ | refine rd_F (by decide) ?_)
  | dsimp only [List.nil_append, List.singleton_append, List.cons_append, setAll])
local macro_rules | `(tactic| walk_at "pc") => `(tactic| (refine rd_case ?_); (first | (refine rd_phit (SqT.of (by assumption)) rfl ?_) | (refine rd_pmiss (SqT.of (by assumption)) (by simp) ?_)); (walk_at "pm"))

/-! ### a chain's stages are made -/
def spMakerOf (J : Cls') : Sp := fun vs H Q _ => ∃ (a me cs lo : Addr) (m : Mt) (gs : List Int) (k : Mkr), vs = [.ref a, .ref me] ∧ MkAt H a k ∧ MetAt J H me cs lo m gs ∧ me ≠ cs ∧ me ≠ lo ∧ cs ≠ lo ∧ gs.length ≤ 1000 ∧
  ∀ H' x, NdAt J H' me gs.length (.mkr k 0) (.mkr x) → MetAt J H' me cs lo m (gs ++ [0]) → H x = none → Fr [cs] H H' → Q (.ref x) H'
section
variable {P : Program} {w : World} {K : PySem.W.Frag} {mg : Str → Option Value} {base : Heap} {J : Cls'} {f f2 : Addr} {fd fd2 : FuncData}
theorem MetAt.fresh {H : Hp} {me cs lo p : Addr} {m : Mt} {gs : List Int} {o : HO} (h : MetAt J H me cs lo m gs) (n : H p = none) : MetAt J (upd H p o) me cs lo m gs := by
  obtain ⟨⟨dx, e⟩, h1, h2⟩ := h
  exact ⟨⟨dx, upd_keep e n⟩, upd_keep h1 n, upd_keep h2 n⟩
theorem MetAt.ne {H : Hp} {me cs lo p : Addr} {m : Mt} {gs : List Int} (h : MetAt J H me cs lo m gs) (n : H p = none) : p ≠ me := by
  obtain ⟨⟨dx, e⟩, h1, h2⟩ := h
  exact (ne_of_none e n).symm
theorem sc_maker_of : FnScope ["maker", "meter", "begin", "step", "numbers"] ["maker", "meter"] (defScope s_maker_of) := ⟨rfl, rfl, rfl, by decide +kernel, rfl, by decide +kernel, by decide +kernel⟩
theorem ok_maker_of (T : Txt K mg) (F : FnP K "maker_of" "maker_of" s_maker_of f fd)
    (I_Count : CalI P w K mg base CX0 2 "Count" J.count ["self", "begin", "step", "meter"] (spCInit J)) (I_Row : CalI P w K mg base CX0 2 "Row" J.row ["self", "numbers", "meter"] (spRInit J)) :
    FnOk P w K mg base CX0 4 f fd ["maker", "meter"] (spMakerOf J) := by
  refine ok0 F sc_maker_of (fun vs H Q E h => ?_) (fun cdv A outer s H vs Q E hr h => ?_)
  · obtain ⟨a, me, cs, lo, m, gs, k, rfl, _⟩ := h
    rfl
  · obtain ⟨a, me, cs, lo, m, gs, k, rfl, ea, M, n1, n2, n3, hg, q⟩ := h
    refine ⟨_, (pss_one (ps_match (pv 0)
    (pc_cons (is := [2, 3]) sc_maker_of.nd (pat_seq rfl (pp_cons (pat_str op_eq) (pp_cons pat_cap (pp_cons pat_cap pp_nil)))) rfl (all_local (by rfl))
      (pss_one (ps_ret (pe_mk I_Count (hr.mono (by omega)) pass0 (pa_cons (pv 2) (pa_cons (pv 3) (pa_cons (pv 1) pa_nil))))))
    (pc_cons (is := [4]) sc_maker_of.nd (pat_seq rfl (pp_cons (pat_str op_eq) (pp_cons pat_cap pp_nil))) rfl (all_local (by rfl))
      (pss_one (ps_ret (pe_mk I_Row (hr.mono (by omega)) pass0 (pa_cons (pv 4) (pa_cons (pv 1) pa_nil)))))
    pc_nil)))), ?_⟩
    try dsimp only [cxOf, Cx.nox, Cx.wish]
    refine rd_at (σ' := [some (.ref a), some (.ref me), none, none, none]) rfl ?_
    refine rd_match ?_
    walk_at "go"
    cases k with
    | count b st =>
      refine rd_case ?_
      refine rd_phit (SqT.of ea) rfl ?_
      walk_at "pm"
      walk_at "go"
      refine rd_make ?_
      walk_at "go"
      intro x dx hx hdx nd
      have hx' : upd H dx (.own x) x = none := by rw [upd_ne nd.symm]; exact hx
      have M1 := (M.fresh (o := .own x) hdx).fresh (o := .ins J.count dx []) hx'
      refine ⟨x, dx, me, cs, lo, m, gs, b, st, rfl, upd_same, M1, n1, n2, n3, M.ne hx, hg, fun H' e' M' f' => ⟨rfl, ?_⟩⟩
      refine q H' x ⟨dx, ?_⟩ M' hx (((Fr.new hdx).newN hx').trans f' fun z hz => ?_)
      · rw [e']
        simp
      · simp only [List.mem_cons, List.not_mem_nil, or_false] at hz ⊢
        rcases hz with rfl | rfl
        · exact .inr hx
        · exact .inl rfl
    | row ns =>
      obtain ⟨r, ea, er⟩ := ea
      refine rd_case ?_
      refine rd_pmiss (SqT.of ea) (by simp) ?_
      walk_at "pm"
      refine rd_case ?_
      refine rd_phit (SqT.of ea) rfl ?_
      walk_at "pm"
      walk_at "go"
      refine rd_make ?_
      walk_at "go"
      intro x dx hx hdx nd
      have hx' : upd H dx (.own x) x = none := by rw [upd_ne nd.symm]; exact hx
      have M1 := (M.fresh (o := .own x) hdx).fresh (o := .ins J.row dx []) hx'
      refine ⟨x, dx, me, cs, lo, r, m, gs, rfl, upd_same, M1, n1, n2, n3, M.ne hx, hg, fun H' e' M' f' => ⟨rfl, ?_⟩⟩
      have f1 : Fr [cs] H H' := ((Fr.new hdx).newN hx').trans f' fun z hz => by
        simp only [List.mem_cons, List.not_mem_nil, or_false] at hz ⊢
        rcases hz with rfl | rfl
        · exact .inr hx
        · exact .inl rfl
      exact q H' x ⟨dx, r, e', f1.tp er⟩ M' hx f1
end
end Dc

set_option Elab.async false
set_option linter.all false
set_option maxRecDepth 100000
set_option maxHeartbeats 2000000
namespace Dc
open PySem PySem.Spec PyProof.Rows L2
local macro_rules | `(tactic| walk_at "ne") => `(tactic| first | assumption | (refine Ne.symm ?_; assumption) | exact ne_of (by assumption) (by assumption) (by intro q; cases q) | exact ne_of_none (by assumption) (by assumption) | exact Ne.symm (ne_of_none (by assumption) (by assumption)))
local macro_rules | `(tactic| walk_at "hp") => `(tactic| first | assumption | exact upd_same | (refine upd_keep ?_ (by assumption); walk_at "hp") | (refine upd_other ?_ ?_; · walk_at "ne"; · walk_at "hp"))
local macro_rules | `(tactic| walk_at "hl") => `(tactic| first | assumption | exact SqL.of (by walk_at "hp"))
local macro_rules | `(tactic| walk_at "ht") => `(tactic| first | assumption | exact SqT.of (by walk_at "hp"))
local macro_rules | `(tactic| walk_at "rd1") => `(tactic| first
  | ((with_reducible apply rd_var); exact rfl)
  | ((with_reducible apply rd_eq); exact rfl) | ((with_reducible apply rd_ne); exact rfl)
  | with_reducible first
  | refine iteT ?_ | refine iteF ?_ | refine rd_nF ?_ | refine rd_nT ?_ | refine rd_yes ?_ | refine rd_c ?_ | refine rd_op ?_ | refine rd_un ?_ | refine rd_test ?_ | refine rd_B ?_ | refine rd_bl ?_ | refine rd_seq ?_ | refine rd_next ?_ | refine rd_ifs ?_ | refine rd_asg ?_ | refine rd_name ?_ | refine rd_ret ?_ | refine rd_drop ?_
  | refine rd_call ?_ | refine rd_cons ?_ | refine rd_nil ?_ | refine rd_cb ?_ | refine rd_I0 ?_ | refine rd_U ?_ | refine rd_gsub ?_ | refine rd_lst ?_ | refine rd_tup ?_ | refine rd_if ?_ | refine rd_not ?_ | refine rd_rng1 ?_ | refine rd_itup ?_ | refine rd_ilst ?_ | refine rd_bm ?_ | refine rd_bm0 ?_ | refine rd_andV ?_ | refine rd_orV ?_ | refine rd_notV ?_)
local macro_rules | `(tactic| walk_at "rd") => `(tactic| repeat walk_at "rd1")
local macro_rules | `(tactic| walk_at "ci") => `(tactic| first | assumption | (show (0 : Int) < _; first | decide | omega) | exact ⟨by decide, by decide⟩ | exact Or.inr ⟨by decide, by decide⟩ | exact Or.inl ⟨by decide, by decide⟩ | exact ⟨by decide, by decide, by decide⟩ | exact Or.inl ⟨by omega, by omega⟩ | exact Or.inr ⟨by omega, by omega⟩)
local macro_rules | `(tactic| walk_at "ix") => `(tactic| first
  | ((with_reducible apply rd_ixL); (walk_at "hl"); exact rfl)
  | ((with_reducible apply rd_ixT); (walk_at "ht"); exact rfl)
  | ((with_reducible apply rd_lenL); (walk_at "hl"))
  | ((with_reducible apply rd_lenT); (walk_at "ht"))
  | ((with_reducible apply rd_tupOf); (walk_at "hl"))
  | ((with_reducible apply rd_listOf); (walk_at "hl"))
  | (with_reducible refine rd_min2 ?_)
  | ((with_reducible apply rd_I); (walk_at "ci"))
  | ((with_reducible apply rd_setL); (walk_at "hp"); exact rfl))
local macro_rules | `(tactic| walk_at "gs") => `(tactic| repeat first | walk_at "rd1" | walk_at "ix")
local macro_rules | `(tactic| walk_at "go") => `(tactic| repeat first | walk_at "rd1" | walk_at "ix" | with_reducible refine rd_and ?_ | with_reducible refine rd_or ?_)
local macro_rules | `(tactic| walk_at "fo") => `(tactic| (with_reducible refine rd_for ?_))
local macro_rules | `(tactic| walk_at "pm") => `(tactic| repeat first
  | with_reducible first | refine rd_pcons ?_ | refine rd_pstr ?_ | refine rd_pcap ?_ | refine rd_pwild ?_ | refine rd_pnil ?_ | refine rd_por ?_ | refine rd_pno ?_
  | ((with_reducible refine rd_eq rfl ?_); refine ⟨_, rfl, ?_⟩; first | refine rd_T rfl ?_ | refine rd_F (by decide) ?_)
  | dsimp only [List.nil_append, List.singleton_append, List.cons_append, setAll])
local macro_rules | `(tactic| walk_at "pc") => `(tactic| (refine rd_case ?_); (first | (refine rd_phit (SqT.of (by assumption)) rfl ?_) | (refine rd_pmiss (SqT.of (by assumption)) (by simp) ?_)); (walk_at "pm"))

theorem NdAt.ins {J : Cls'} {H : Hp} {me : Addr} : ∀ {off : Nat} {x : Nd} {t : Tr}, NdAt J H me off x t → ∀ b, b ∈ t.ads → ∃ C dx fs, H b = some (.ins C dx fs)
  | off, .mkr (.count b s) g, .mkr a, ⟨dx, e⟩, b', hb => by rw [List.mem_singleton.mp hb]; exact ⟨_, dx, _, e⟩
  | off, .mkr (.row ns) g, .mkr a, ⟨dx, p, e, q⟩, b', hb => by rw [List.mem_singleton.mp hb]; exact ⟨_, dx, _, e⟩
  | off, .st k o c, .st a t, ⟨⟨fs, ⟨dx, e⟩, z⟩, r⟩, b, hb => by
    rcases List.mem_cons.mp hb with rfl | hb
    · exact ⟨_, dx, _, e⟩
    · exact NdAt.ins r b hb
  | off, .both o c d, .two a t u, ⟨⟨dx, e⟩, r1, r2⟩, b, hb => by
    rcases List.mem_cons.mp hb with rfl | hb
    · exact ⟨_, dx, _, e⟩
    · rcases List.mem_append.mp hb with hb | hb
      · exact NdAt.ins r1 b hb
      · exact NdAt.ins r2 b hb
  | off, .thn o c d, .two a t u, ⟨⟨dx, e⟩, r1, r2⟩, b, hb => by
    rcases List.mem_cons.mp hb with rfl | hb
    · exact ⟨_, dx, _, e⟩
    · rcases List.mem_append.mp hb with hb | hb
      · exact NdAt.ins r1 b hb
      · exact NdAt.ins r2 b hb
  | _, .mkr (.count _ _) _, .st _ _, h, _, _ => h.elim
  | _, .mkr (.row _) _, .st _ _, h, _, _ => h.elim
  | _, .mkr (.count _ _) _, .two _ _ _, h, _, _ => h.elim
  | _, .mkr (.row _) _, .two _ _ _, h, _, _ => h.elim
  | _, .st _ _ _, .mkr _, h, _, _ => h.elim
  | _, .st _ _ _, .two _ _ _, h, _, _ => h.elim
  | _, .both _ _ _, .mkr _, h, _, _ => h.elim
  | _, .both _ _ _, .st _ _, h, _, _ => h.elim
  | _, .thn _ _ _, .mkr _, h, _, _ => h.elim
  | _, .thn _ _ _, .st _ _, h, _, _ => h.elim
def Nd.snoc (x : Nd) : Sg → Nd
  | .one k => .st k ow0 x
  | .both o => .both ow0 x o.nd
  | .thn o => .thn ow0 x o.nd
def Sg.gv : Sg → List Int
  | .one _ => []
  | .both o => o.nd.gv
  | .thn o => o.nd.gv
theorem Nd.snoc_gv (x : Nd) (g : Sg) : (x.snoc g).gv = x.gv ++ g.gv := by
  cases g with
  | one k => show x.gv = x.gv ++ []; rw [List.append_nil]
  | both o => rfl
  | thn o => rfl
theorem Ch.nd_snoc (c : Ch) (g : Sg) : (c.snoc g).nd = c.nd.snoc g := by cases g <;> rfl
theorem Ch.gv_len : ∀ c : Ch, c.nd.gv.length = c.nm
  | .mkr _ => rfl
  | .st c _ => c.gv_len
  | .both c o => by show (c.nd.gv ++ o.nd.gv).length = c.nm + o.nm; rw [List.length_append, c.gv_len, o.gv_len]
  | .thn c o => by show (c.nd.gv ++ o.nd.gv).length = c.nm + o.nm; rw [List.length_append, c.gv_len, o.gv_len]
/-- a whole chain, its nesting below n -/
def spEnd (J : Cls') (n : Nat) : Sp := fun vs H Q _ => ∃ (p me cs lo : Addr) (m : Mt) (gs : List Int) (c : Ch), vs = [.ref p, .ref me] ∧ ChAt H p c ∧ c.ok ∧ c.nm ≤ n ∧ MetAt J H me cs lo m gs ∧ me ≠ cs ∧ me ≠ lo ∧ cs ≠ lo ∧ gs.length + c.nm ≤ 1000 ∧
  ∀ H' t, NdAt J H' me gs.length c.nd t → MetAt J H' me cs lo m (gs ++ c.nd.gv) → (∀ b, b ∈ t.ads → H b = none) → t.dj → Fr [cs] H H' → Q (.ref t.ad) H'
def spBehind (J : Cls') (n : Nat) : Sp := fun vs H Q _ => ∃ (x me cs lo : Addr) (m : Mt) (off : Nat) (gs : List Int) (nd : Nd) (t : Tr) (g : Sg), vs = [.ref t.ad, .ref x, .ref me] ∧ SgAt H x g ∧ g.ok ∧ g.nm ≤ n ∧ NdAt J H me off nd t ∧ t.dj ∧ MetAt J H me cs lo m gs ∧ me ≠ cs ∧ me ≠ lo ∧ cs ≠ lo ∧
  gs.length = off + nd.gv.length ∧ gs.length + g.nm ≤ 1000 ∧
  ∀ H' t', NdAt J H' me off (nd.snoc g) t' → MetAt J H' me cs lo m (gs ++ g.gv) → (∀ b, b ∈ t'.ads → b ∈ t.ads ∨ H b = none) → t'.dj → Fr [cs] H H' → Q (.ref t'.ad) H'
section
variable {P : Program} {w : World} {K : PySem.W.Frag} {mg : Str → Option Value} {base : Heap} {J : Cls'} {f f2 : Addr} {fd fd2 : FuncData}
theorem sc_stage_behind : FnScope ["ahead", "stage", "meter", "n", "rest", "wheel", "many", "chain"] ["ahead", "stage", "meter"] (defScope s_stage_behind) := ⟨rfl, rfl, rfl, by decide +kernel, rfl, by decide +kernel, by decide +kernel⟩
theorem ok_stage_behind {n : Nat} (T : Txt K mg) (F : FnP K "stage_behind" "stage_behind" s_stage_behind f fd)
    (I_Reckon : CalI P w K mg base CX0 2 "Reckon" J.reckon ["self", "ahead", "factor", "term"] (spSInit J.reckon 2 fun | [a, b] => [("factor", a), ("term", b)] | _ => []))
    (I_Keep : CalI P w K mg base CX0 2 "Keep" J.keep ["self", "ahead", "rest", "wheel"] (spSInit J.keep 2 fun | [a, b] => [("rest", a), ("wheel", b)] | _ => []))
    (I_Drop : CalI P w K mg base CX0 2 "Drop" J.drop ["self", "ahead", "many"] (spSInit J.drop 1 fun | [a] => [("left", a)] | _ => []))
    (I_Take : CalI P w K mg base CX0 2 "Take" J.take ["self", "ahead", "many"] (spSInit J.take 1 fun | [a] => [("left", a)] | _ => []))
    (I_Each : CalI P w K mg base CX0 2 "Each" J.each ["self", "ahead", "many"] (spSInit J.each 1 fun | [a] => [("many", a), ("left", .int 0), ("number", .non)] | _ => []))
    (I_Until : CalI P w K mg base CX0 2 "Until" J.until' ["self", "ahead", "n", "meter"] (spSInit J.until' 2 fun | [a, b] => [("n", a), ("meter", b)] | _ => []))
    (I_Unlike : CalI P w K mg base CX0 2 "Unlike" J.unlike ["self", "ahead"] (spSInit J.unlike 0 fun _ => [("last", .non)]))
    (I_Both : CalI P w K mg base CX0 2 "Both" J.both ["self", "ahead", "other", "meter"] (spSInit J.both 2 fun | [a, b] => [("other", a), ("meter", b)] | _ => []))
    (I_Then : CalI P w K mg base CX0 2 "Then" J.thn ["self", "ahead", "other"] (spSInit J.thn 1 fun | [a] => [("other", a)] | _ => []))
    (G_chain_end : Cal P w K mg base CX0 (2 * n + 5) "chain_end" ["chain", "meter"] (spEnd J n)) :
    FnOk P w K mg base CX0 (2 * n + 6) f fd ["ahead", "stage", "meter"] (spBehind J n) := by
  refine ok0 F sc_stage_behind (fun vs H Q E h => ?_) (fun cdv A outer s H vs Q E hr h => ?_)
  · obtain ⟨x, me, cs, lo, m, off, gs, nd, t, g, rfl, _⟩ := h
    rfl
  · obtain ⟨sx, me, cs, lo, m, off, gs, nd0, t, g, rfl, eg, hg, hn, nd, dj, M, n1, n2, n3, hl, hl2, q⟩ := h
    have tcs : ∀ b, b ∈ t.ads → b ∉ [cs] := fun b hb z => by
      obtain ⟨C, dx, fs, e⟩ := nd.ins b hb
      rw [List.mem_singleton] at z
      rw [z, M.2.1] at e
      cases e
    refine ⟨_, (pss_one (ps_match (pv 1)
    (pc_cons (is := [3]) sc_stage_behind.nd (pat_seq rfl (pp_cons (pat_str op_eq) (pp_cons pat_cap pp_nil))) rfl (all_local (by rfl))
      (pss_one (ps_ret (pe_mk I_Reckon (hr.mono (by omega)) pass0 (pa_cons (pv 0) (pa_cons pe_int (pa_cons (pv 3) pa_nil))))))
    (pc_cons (is := [3]) sc_stage_behind.nd (pat_seq rfl (pp_cons (pat_str op_eq) (pp_cons pat_cap pp_nil))) rfl (all_local (by rfl))
      (pss_one (ps_ret (pe_mk I_Reckon (hr.mono (by omega)) pass0 (pa_cons (pv 0) (pa_cons (pv 3) (pa_cons pe_int pa_nil))))))
    (pc_cons (is := [4, 5]) sc_stage_behind.nd (pat_seq rfl (pp_cons (pat_str op_eq) (pp_cons pat_cap (pp_cons pat_cap pp_nil)))) rfl (all_local (by rfl))
      (pss_one (ps_ret (pe_mk I_Keep (hr.mono (by omega)) pass0 (pa_cons (pv 0) (pa_cons (pv 4) (pa_cons (pv 5) pa_nil))))))
    (pc_cons (is := [6]) sc_stage_behind.nd (pat_seq rfl (pp_cons (pat_str op_eq) (pp_cons pat_cap pp_nil))) rfl (all_local (by rfl))
      (pss_one (ps_ret (pe_mk I_Drop (hr.mono (by omega)) pass0 (pa_cons (pv 0) (pa_cons (pv 6) pa_nil)))))
    (pc_cons (is := [6]) sc_stage_behind.nd (pat_seq rfl (pp_cons (pat_str op_eq) (pp_cons pat_cap pp_nil))) rfl (all_local (by rfl))
      (pss_one (ps_ret (pe_mk I_Take (hr.mono (by omega)) pass0 (pa_cons (pv 0) (pa_cons (pv 6) pa_nil)))))
    (pc_cons (is := [6]) sc_stage_behind.nd (pat_seq rfl (pp_cons (pat_str op_eq) (pp_cons pat_cap pp_nil))) rfl (all_local (by rfl))
      (pss_one (ps_ret (pe_mk I_Each (hr.mono (by omega)) pass0 (pa_cons (pv 0) (pa_cons (pv 6) pa_nil)))))
    (pc_cons (is := [3]) sc_stage_behind.nd (pat_seq rfl (pp_cons (pat_str op_eq) (pp_cons pat_cap pp_nil))) rfl (all_local (by rfl))
      (pss_one (ps_ret (pe_mk I_Until (hr.mono (by omega)) pass0 (pa_cons (pv 0) (pa_cons (pv 3) (pa_cons (pv 2) pa_nil))))))
    (pc_cons (is := []) sc_stage_behind.nd (pat_seq rfl (pp_cons (pat_str op_eq) pp_nil)) rfl (all_local (by rfl))
      (pss_one (ps_ret (pe_mk I_Unlike (hr.mono (by omega)) pass0 (pa_cons (pv 0) pa_nil))))
    (pc_cons (is := [7]) sc_stage_behind.nd (pat_seq rfl (pp_cons (pat_str op_eq) (pp_cons pat_cap pp_nil))) rfl (all_local (by rfl))
      (pss_one (ps_ret (pe_mk I_Both (hr.mono (by omega)) pass0 (pa_cons (pv 0) (pa_cons (pe_cal G_chain_end (hr.mono (by omega)) pass0 (pa_cons (pv 7) (pa_cons (pv 2) pa_nil))) (pa_cons (pv 2) pa_nil))))))
    (pc_cons (is := [7]) sc_stage_behind.nd (pat_seq rfl (pp_cons (pat_str op_eq) (pp_cons pat_cap pp_nil))) rfl (all_local (by rfl))
      (pss_one (ps_ret (pe_mk I_Then (hr.mono (by omega)) pass0 (pa_cons (pv 0) (pa_cons (pe_cal G_chain_end (hr.mono (by omega)) pass0 (pa_cons (pv 7) (pa_cons (pv 2) pa_nil))) pa_nil)))))
    pc_nil)))))))))))), ?_⟩
    try dsimp only [cxOf, Cx.nox, Cx.wish]
    refine rd_at (σ' := [some (.ref t.ad), some (.ref sx), some (.ref me)] ++ List.replicate (["ahead", "stage", "meter", "n", "rest", "wheel", "many", "chain"].length - 3) none) rfl ?_
    refine rd_match ?_
    walk_at "go"
    cases g with
    | one kd =>
      have fin : ∀ (k : Kd) (x dx : Addr) (H' : Hp) (fs : List (Str × V)), H x = none → H dx = none → dx ≠ x → H' x = some (.ins (k.cls J) dx (("ahead", .ref t.ad) :: ("ended", .bl false) :: fs)) →
          Fr [x] (upd (upd H dx (.own x)) x (.ins (k.cls J) dx [])) H' → k.flds me ow0 fs → kd = k → Q (.ref x) H' := by
        rintro k x dx H' fs hx hdx ne e' f' hf rfl
        have hx' : upd H dx (.own x) x = none := by rw [upd_ne ne.symm]; exact hx
        have nx : ∀ b, b ∈ t.ads → b ≠ x := fun b hb z => by
          obtain ⟨C, dx, fs, e⟩ := nd.ins b hb
          rw [z, hx] at e
          cases e
        have f1 : Fr [cs] H H' := ((Fr.new hdx).newN hx').trans f' fun z hz => by
          rw [List.mem_singleton] at hz
          rw [hz]
          exact .inr hx
        have M1 := (M.fresh (o := .own x) hdx).fresh (o := .ins (kd.cls J) dx []) hx'
        have M' : MetAt J H' me cs lo m gs := M1.fr f' fun b hb z => by
          rw [List.mem_singleton] at z
          subst z
          obtain ⟨⟨dm, em⟩, e1, e2⟩ := M
          simp only [List.mem_cons, List.not_mem_nil, or_false] at hb
          rcases hb with rfl | rfl | rfl
          · rw [hx] at em; cases em
          · rw [hx] at e1; cases e1
          · rw [hx] at e2; cases e2
        refine q H' (.st x t) ⟨⟨fs, ⟨dx, e'⟩, hf⟩, nd.fr f1 tcs⟩ (by show MetAt J H' me cs lo m (gs ++ []); rw [List.append_nil]; exact M') (fun b hb => ?_) ⟨fun z => nx x z rfl, dj⟩ f1
        rcases List.mem_cons.mp hb with rfl | hb
        · exact .inr hx
        · exact .inl hb
      cases kd with
      | add n =>
        simp only [SgAt, Kd.vals] at eg
        repeat walk_at "pc"
        walk_at "go"
        refine rd_make ?_
        walk_at "go"
        intro x dx hx hdx nd
        refine ⟨x, dx, .ref t.ad, [.int 1, .int n], rfl, rfl, upd_same, fun H' e' f' => ⟨rfl, ?_⟩⟩
        exact fin (.add n) x dx H' _ hx hdx nd e' f' rfl rfl
      | times n =>
        simp only [SgAt, Kd.vals] at eg
        repeat walk_at "pc"
        walk_at "go"
        refine rd_make ?_
        walk_at "go"
        intro x dx hx hdx nd
        refine ⟨x, dx, .ref t.ad, [.int n, .int 0], rfl, rfl, upd_same, fun H' e' f' => ⟨rfl, ?_⟩⟩
        exact fin (.times n) x dx H' _ hx hdx nd e' f' rfl rfl
      | keep r w =>
        simp only [SgAt, Kd.vals] at eg
        repeat walk_at "pc"
        walk_at "go"
        refine rd_make ?_
        walk_at "go"
        intro x dx hx hdx nd
        refine ⟨x, dx, .ref t.ad, [.int r, .int w], rfl, rfl, upd_same, fun H' e' f' => ⟨rfl, ?_⟩⟩
        exact fin (.keep r w) x dx H' _ hx hdx nd e' f' rfl rfl
      | drop k =>
        simp only [SgAt, Kd.vals] at eg
        repeat walk_at "pc"
        walk_at "go"
        refine rd_make ?_
        walk_at "go"
        intro x dx hx hdx nd
        refine ⟨x, dx, .ref t.ad, [.int k], rfl, rfl, upd_same, fun H' e' f' => ⟨rfl, ?_⟩⟩
        exact fin (.drop k) x dx H' _ hx hdx nd e' f' ⟨_, rfl, fun _ => ⟨hg.1, .inr (by show k = k - 0; omega)⟩⟩ rfl
      | take k =>
        simp only [SgAt, Kd.vals] at eg
        repeat walk_at "pc"
        walk_at "go"
        refine rd_make ?_
        walk_at "go"
        intro x dx hx hdx nd
        refine ⟨x, dx, .ref t.ad, [.int k], rfl, rfl, upd_same, fun H' e' f' => ⟨rfl, ?_⟩⟩
        exact fin (.take k) x dx H' _ hx hdx nd e' f' ⟨_, rfl, fun _ => by show k = k - ((0 : Nat) : Int); omega⟩ rfl
      | each k =>
        simp only [SgAt, Kd.vals] at eg
        repeat walk_at "pc"
        walk_at "go"
        refine rd_make ?_
        walk_at "go"
        intro x dx hx hdx nd
        refine ⟨x, dx, .ref t.ad, [.int k], rfl, rfl, upd_same, fun H' e' f' => ⟨rfl, ?_⟩⟩
        exact fin (.each k) x dx H' _ hx hdx nd e' f' ⟨_, _, rfl, fun _ => ⟨rfl, fun z => absurd z (by decide)⟩⟩ rfl
      | «until» n =>
        simp only [SgAt, Kd.vals] at eg
        repeat walk_at "pc"
        walk_at "go"
        refine rd_make ?_
        walk_at "go"
        intro x dx hx hdx nd
        refine ⟨x, dx, .ref t.ad, [.int n, .ref me], rfl, rfl, upd_same, fun H' e' f' => ⟨rfl, ?_⟩⟩
        exact fin (.until n) x dx H' _ hx hdx nd e' f' rfl rfl
      | unlike =>
        simp only [SgAt, Kd.vals] at eg
        repeat walk_at "pc"
        walk_at "go"
        refine rd_make ?_
        walk_at "go"
        intro x dx hx hdx nd
        refine ⟨x, dx, .ref t.ad, [], rfl, rfl, upd_same, fun H' e' f' => ⟨rfl, ?_⟩⟩
        exact fin .unlike x dx H' _ hx hdx nd e' f' ⟨_, rfl, fun _ => rfl⟩ rfl
    | both o =>
      obtain ⟨p, eg, ch⟩ := eg
      repeat walk_at "pc"
      walk_at "go"
      refine rd_make ?_
      walk_at "go"
      refine ⟨p, me, cs, lo, m, gs, o, rfl, ch, hg, hn, M, n1, n2, n3, hl2, fun H1 u nu Mu fu dju f1 => ?_⟩
      walk_at "go"
      intro x dx hx hdx ne
      refine ⟨x, dx, .ref t.ad, [.ref u.ad, .ref me], rfl, rfl, upd_same, fun H' e' f' => ⟨rfl, ?_⟩⟩
      have hx' : upd H1 dx (.own x) x = none := by rw [upd_ne ne.symm]; exact hx
      have nt1 := nd.fr f1 tcs
      have px : ∀ b C dx' fs', H1 b = some (.ins C dx' fs') → b ≠ x := fun b C dx' fs' e z => by
        rw [z, hx] at e
        cases e
      have f2 : Fr [cs] H1 H' := ((Fr.new hdx).newN hx').trans f' fun z hz => by
        rw [List.mem_singleton] at hz
        rw [hz]
        exact .inr hx
      have hx0 : H x = none := f1.free (fun z => by
        rw [List.mem_singleton] at z
        have := Mu.2.1
        rw [← z, hx] at this
        cases this) hx
      have M1 := (Mu.fresh (o := .own x) hdx).fresh (o := .ins J.both dx []) hx'
      have M' : MetAt J H' me cs lo m (gs ++ o.nd.gv) := M1.fr f' fun b hb z => by
        rw [List.mem_singleton] at z
        subst z
        obtain ⟨⟨dm, em⟩, e1, e2⟩ := Mu
        simp only [List.mem_cons, List.not_mem_nil, or_false] at hb
        rcases hb with rfl | rfl | rfl
        · rw [hx] at em; cases em
        · rw [hx] at e1; cases e1
        · rw [hx] at e2; cases e2
      have ucs : ∀ b, b ∈ u.ads → b ∉ [cs] := fun b hb z => by
        obtain ⟨C, dx, fs, e⟩ := nu.ins b hb
        rw [List.mem_singleton] at z
        rw [z, Mu.2.1] at e
        cases e
      refine q H' (.two x t u) ⟨⟨dx, e'⟩, nt1.fr f2 tcs, by rw [← hl]; exact nu.fr f2 ucs⟩ M' (fun b hb => ?_) ⟨fun z => ?_, fun z => ?_, fun b hb hb' => ?_, dj, dju⟩ (f1.tr f2)
      · rcases List.mem_cons.mp hb with rfl | hb
        · exact .inr hx0
        · rcases List.mem_append.mp hb with hb | hb
          · exact .inl hb
          · exact .inr (fu b hb)
      · obtain ⟨C, dx, fs, e⟩ := nt1.ins x z
        exact px x _ _ _ e rfl
      · obtain ⟨C, dx, fs, e⟩ := nu.ins x z
        exact px x _ _ _ e rfl
      · obtain ⟨C, dx, fs, e⟩ := nd.ins b hb
        rw [fu b hb'] at e
        cases e
    | thn o =>
      obtain ⟨p, eg, ch⟩ := eg
      repeat walk_at "pc"
      walk_at "go"
      refine rd_make ?_
      walk_at "go"
      refine ⟨p, me, cs, lo, m, gs, o, rfl, ch, hg, hn, M, n1, n2, n3, hl2, fun H1 u nu Mu fu dju f1 => ?_⟩
      walk_at "go"
      intro x dx hx hdx ne
      refine ⟨x, dx, .ref t.ad, [.ref u.ad], rfl, rfl, upd_same, fun H' e' f' => ⟨rfl, ?_⟩⟩
      have hx' : upd H1 dx (.own x) x = none := by rw [upd_ne ne.symm]; exact hx
      have nt1 := nd.fr f1 tcs
      have px : ∀ b C dx' fs', H1 b = some (.ins C dx' fs') → b ≠ x := fun b C dx' fs' e z => by
        rw [z, hx] at e
        cases e
      have f2 : Fr [cs] H1 H' := ((Fr.new hdx).newN hx').trans f' fun z hz => by
        rw [List.mem_singleton] at hz
        rw [hz]
        exact .inr hx
      have hx0 : H x = none := f1.free (fun z => by
        rw [List.mem_singleton] at z
        have := Mu.2.1
        rw [← z, hx] at this
        cases this) hx
      have M1 := (Mu.fresh (o := .own x) hdx).fresh (o := .ins J.thn dx []) hx'
      have M' : MetAt J H' me cs lo m (gs ++ o.nd.gv) := M1.fr f' fun b hb z => by
        rw [List.mem_singleton] at z
        subst z
        obtain ⟨⟨dm, em⟩, e1, e2⟩ := Mu
        simp only [List.mem_cons, List.not_mem_nil, or_false] at hb
        rcases hb with rfl | rfl | rfl
        · rw [hx] at em; cases em
        · rw [hx] at e1; cases e1
        · rw [hx] at e2; cases e2
      have ucs : ∀ b, b ∈ u.ads → b ∉ [cs] := fun b hb z => by
        obtain ⟨C, dx, fs, e⟩ := nu.ins b hb
        rw [List.mem_singleton] at z
        rw [z, Mu.2.1] at e
        cases e
      refine q H' (.two x t u) ⟨⟨dx, e'⟩, nt1.fr f2 tcs, by rw [← hl]; exact nu.fr f2 ucs⟩ M' (fun b hb => ?_) ⟨fun z => ?_, fun z => ?_, fun b hb hb' => ?_, dj, dju⟩ (f1.tr f2)
      · rcases List.mem_cons.mp hb with rfl | hb
        · exact .inr hx0
        · rcases List.mem_append.mp hb with hb | hb
          · exact .inl hb
          · exact .inr (fu b hb)
      · obtain ⟨C, dx, fs, e⟩ := nt1.ins x z
        exact px x _ _ _ e rfl
      · obtain ⟨C, dx, fs, e⟩ := nu.ins x z
        exact px x _ _ _ e rfl
      · obtain ⟨C, dx, fs, e⟩ := nd.ins b hb
        rw [fu b hb'] at e
        cases e
end
end Dc

set_option Elab.async false
set_option linter.all false
set_option maxRecDepth 100000
set_option maxHeartbeats 2000000
namespace Dc
open PySem PySem.Spec PyProof.Rows L2
local macro_rules | `(tactic| walk_at "ne") => `(tactic| first | assumption | (refine Ne.symm ?_; assumption) | exact ne_of (by assumption) (by assumption) (by intro q; cases q) | exact ne_of_none (by assumption) (by assumption) | exact Ne.symm (ne_of_none (by assumption) (by assumption)))
local macro_rules | `(tactic| walk_at "hp") => `(tactic| first | assumption | exact upd_same | (refine upd_keep ?_ (by assumption); walk_at "hp") | (refine upd_other ?_ ?_; · walk_at "ne"; · walk_at "hp"))
local macro_rules | `(tactic| walk_at "hl") => `(tactic| first | assumption | exact SqL.of (by walk_at "hp"))
local macro_rules | `(tactic| walk_at "ht") => `(tactic| first | assumption | exact SqT.of (by walk_at "hp"))
local macro_rules | `(tactic| walk_at "rd1") => `(tactic| first
  | ((with_reducible apply rd_var); exact rfl)
  | ((with_reducible apply rd_eq); exact rfl) | ((with_reducible apply rd_ne); exact rfl)
  | with_reducible first
  | refine iteT ?_ | refine iteF ?_ | refine rd_nF ?_ | refine rd_nT ?_ | refine rd_yes ?_ | refine rd_c ?_ | refine rd_op ?_ | refine rd_un ?_ | refine rd_test ?_ | refine rd_B ?_ | refine rd_bl ?_ | refine rd_seq ?_ | refine rd_next ?_ | refine rd_ifs ?_ | refine rd_asg ?_ | refine rd_name ?_ | refine rd_ret ?_ | refine rd_drop ?_
  | refine rd_call ?_ | refine rd_cons ?_ | refine rd_nil ?_ | refine rd_cb ?_ | refine rd_I0 ?_ | refine rd_U ?_ | refine rd_gsub ?_ | refine rd_lst ?_ | refine rd_tup ?_ | refine rd_if ?_ | refine rd_not ?_ | refine rd_rng1 ?_ | refine rd_itup ?_ | refine rd_ilst ?_ | refine rd_bm ?_ | refine rd_bm0 ?_ | refine rd_andV ?_ | refine rd_orV ?_ | refine rd_notV ?_)
local macro_rules | `(tactic| walk_at "rd") => `(tactic| repeat walk_at "rd1")
local macro_rules | `(tactic| walk_at "ci") => `(tactic| first | assumption | (show (0 : Int) < _; first | decide | omega) | exact ⟨by decide, by decide⟩ | exact Or.inr ⟨by decide, by decide⟩ | exact Or.inl ⟨by decide, by decide⟩ | exact ⟨by decide, by decide, by decide⟩ | exact Or.inl ⟨by omega, by omega⟩ | exact Or.inr ⟨by omega, by omega⟩)
local macro_rules | `(tactic| walk_at "ix") => `(tactic| first
  | ((with_reducible apply rd_ixL); (walk_at "hl"); exact rfl)
  | ((with_reducible apply rd_ixT); (walk_at "ht"); exact rfl)
  | ((with_reducible apply rd_lenL); (walk_at "hl"))
  | ((with_reducible apply rd_lenT); (walk_at "ht"))
  | ((with_reducible apply rd_tupOf); (walk_at "hl"))
  | ((with_reducible apply rd_listOf); (walk_at "hl"))
  | (with_reducible refine rd_min2 ?_)
  | ((with_reducible apply rd_I); (walk_at "ci"))
  | ((with_reducible apply rd_setL); (walk_at "hp"); exact rfl))
local macro_rules | `(tactic| walk_at "gs") => `(tactic| repeat first | walk_at "rd1" | walk_at "ix")
local macro_rules | `(tactic| walk_at "go") => `(tactic| repeat first | walk_at "rd1" | walk_at "ix" | with_reducible refine rd_and ?_ | with_reducible refine rd_or ?_)
local macro_rules | `(tactic| walk_at "fo") => `(tactic| (with_reducible refine rd_for ?_))
local macro_rules | `(tactic| walk_at "pm") => `(tactic| repeat first
  | with_reducible first | refine rd_pcons ?_ | refine rd_pstr ?_ | refine rd_pcap ?_ | refine rd_pwild ?_ | refine rd_pnil ?_ | refine rd_por ?_ | refine rd_pno ?_
  | ((with_reducible refine rd_eq rfl ?_); refine ⟨_, rfl, ?_⟩; first | refine rd_T rfl ?_ | refine rd_F (by decide) ?_)
  | dsimp only [List.nil_append, List.singleton_append, List.cons_append, setAll])
local macro_rules | `(tactic| walk_at "pc") => `(tactic| (refine rd_case ?_); (first | (refine rd_phit (SqT.of (by assumption)) rfl ?_) | (refine rd_pmiss (SqT.of (by assumption)) (by simp) ?_)); (walk_at "pm"))

/-! ### a chain by its stages -/
def Ch.sgs : Ch → List Sg
  | .mkr _ => []
  | .st c k => c.sgs ++ [.one k]
  | .both c o => c.sgs ++ [.both o]
  | .thn c o => c.sgs ++ [.thn o]
def Ch.root : Ch → Mkr
  | .mkr m => m
  | .st c _ => c.root
  | .both c _ => c.root
  | .thn c _ => c.root
def Ch.of (m : Mkr) (l : List Sg) : Ch := l.foldl Ch.snoc (.mkr m)
theorem Ch.of_snoc (m : Mkr) (l : List Sg) (g : Sg) : Ch.of m (l ++ [g]) = (Ch.of m l).snoc g := by unfold Ch.of; rw [List.foldl_append]; rfl
theorem Ch.of_sgs : ∀ c : Ch, Ch.of c.root c.sgs = c
  | .mkr _ => rfl
  | .st c k => by show Ch.of c.root (c.sgs ++ [.one k]) = _; rw [Ch.of_snoc, Ch.of_sgs c]; rfl
  | .both c o => by show Ch.of c.root (c.sgs ++ [.both o]) = _; rw [Ch.of_snoc, Ch.of_sgs c]; rfl
  | .thn c o => by show Ch.of c.root (c.sgs ++ [.thn o]) = _; rw [Ch.of_snoc, Ch.of_sgs c]; rfl
theorem Ch.of_take (m : Mkr) {l : List Sg} {i : Nat} {g : Sg} (h : l[i]? = some g) : Ch.of m (l.take (i + 1)) = (Ch.of m (l.take i)).snoc g := by
  rw [List.take_succ, h]
  exact Ch.of_snoc m _ g
theorem StsAt.root {H : Hp} : ∀ {c : Ch} {a : Addr} {as : List Addr}, StsAt H c a as → MkAt H a c.root
  | .mkr m, a, as, ⟨_, h⟩ => h
  | .st c k, a, as, ⟨as', x, _, h, _⟩ => StsAt.root (c := c) h
  | .both c o, a, as, ⟨as', x, p, _, h, _⟩ => StsAt.root (c := c) h
  | .thn c o, a, as, ⟨as', x, p, _, h, _⟩ => StsAt.root (c := c) h
theorem get_snoc {α : Type} {l : List α} {x y : α} {i : Nat} (h : (l ++ [x])[i]? = some y) : l[i]? = some y ∨ (i = l.length ∧ y = x) := by
  rcases Nat.lt_trichotomy i l.length with q | q | q
  · rw [List.getElem?_append_left q] at h; exact .inl h
  · subst q
    rw [List.getElem?_append_right (Nat.le_refl _), Nat.sub_self] at h
    exact .inr ⟨rfl, (Option.some.inj h).symm⟩
  · rw [List.getElem?_eq_none (by simp; omega)] at h; cases h
theorem StsAt.get {H : Hp} : ∀ {c : Ch} {a : Addr} {as : List Addr}, StsAt H c a as → as.length = c.sgs.length ∧ ∀ (i : Nat) (x : Addr), as[i]? = some x → ∃ g, c.sgs[i]? = some g ∧ SgAt H x g
  | .mkr m, a, as, ⟨e, _⟩ => by subst e; exact ⟨rfl, fun i x h => by cases h⟩
  | .st c k, a, as, ⟨as', x, e, h, hx⟩ => by
    subst e
    obtain ⟨h1, h2⟩ := StsAt.get (c := c) h
    refine ⟨by show (as' ++ [x]).length = (c.sgs ++ [Sg.one k]).length; simp [h1], fun i y hy => ?_⟩
    show ∃ g, (c.sgs ++ [Sg.one k])[i]? = some g ∧ _
    rcases get_snoc hy with q | ⟨rfl, rfl⟩
    · obtain ⟨g, q1, q2⟩ := h2 i y q
      exact ⟨g, by rw [List.getElem?_append_left (List.getElem?_eq_some_iff.mp q1).1]; exact q1, q2⟩
    · exact ⟨.one k, by rw [h1]; simp, hx⟩
  | .both c o, a, as, ⟨as', x, p, e, h, hx, ho⟩ => by
    subst e
    obtain ⟨h1, h2⟩ := StsAt.get (c := c) h
    refine ⟨by show (as' ++ [x]).length = (c.sgs ++ [Sg.both o]).length; simp [h1], fun i y hy => ?_⟩
    show ∃ g, (c.sgs ++ [Sg.both o])[i]? = some g ∧ _
    rcases get_snoc hy with q | ⟨rfl, rfl⟩
    · obtain ⟨g, q1, q2⟩ := h2 i y q
      exact ⟨g, by rw [List.getElem?_append_left (List.getElem?_eq_some_iff.mp q1).1]; exact q1, q2⟩
    · exact ⟨.both o, by rw [h1]; simp, p, hx, ho⟩
  | .thn c o, a, as, ⟨as', x, p, e, h, hx, ho⟩ => by
    subst e
    obtain ⟨h1, h2⟩ := StsAt.get (c := c) h
    refine ⟨by show (as' ++ [x]).length = (c.sgs ++ [Sg.thn o]).length; simp [h1], fun i y hy => ?_⟩
    show ∃ g, (c.sgs ++ [Sg.thn o])[i]? = some g ∧ _
    rcases get_snoc hy with q | ⟨rfl, rfl⟩
    · obtain ⟨g, q1, q2⟩ := h2 i y q
      exact ⟨g, by rw [List.getElem?_append_left (List.getElem?_eq_some_iff.mp q1).1]; exact q1, q2⟩
    · exact ⟨.thn o, by rw [h1]; simp, p, hx, ho⟩
theorem Ch.ok_sgs : ∀ {c : Ch}, c.ok → c.root.ok ∧ ∀ g ∈ c.sgs, g.ok
  | .mkr m, h => ⟨h, fun g hg => by cases hg⟩
  | .st c k, h => ⟨(Ch.ok_sgs h.1).1, fun g hg => by
    rcases List.mem_append.mp (show g ∈ c.sgs ++ [.one k] from hg) with q | q
    · exact (Ch.ok_sgs h.1).2 g q
    · rw [List.mem_singleton.mp q]; exact h.2⟩
  | .both c k, h => ⟨(Ch.ok_sgs h.1).1, fun g hg => by
    rcases List.mem_append.mp (show g ∈ c.sgs ++ [.both k] from hg) with q | q
    · exact (Ch.ok_sgs h.1).2 g q
    · rw [List.mem_singleton.mp q]; exact h.2⟩
  | .thn c k, h => ⟨(Ch.ok_sgs h.1).1, fun g hg => by
    rcases List.mem_append.mp (show g ∈ c.sgs ++ [.thn k] from hg) with q | q
    · exact (Ch.ok_sgs h.1).2 g q
    · rw [List.mem_singleton.mp q]; exact h.2⟩
theorem Ch.of_append_nm (m : Mkr) (l : List Sg) : ∀ r : List Sg, (Ch.of m l).nm ≤ (Ch.of m (l ++ r)).nm := by
  intro r
  induction r generalizing l with
  | nil => rw [List.append_nil]; exact Nat.le_refl _
  | cons g r ih =>
    have := ih (l ++ [g])
    rw [List.append_assoc] at this
    refine Nat.le_trans ?_ this
    rw [Ch.of_snoc, Ch.snoc_nm]
    exact Nat.le_add_right _ _
theorem Ch.of_take_nm (c : Ch) (i : Nat) : (Ch.of c.root (c.sgs.take i)).nm ≤ c.nm := by
  have := Ch.of_append_nm c.root (c.sgs.take i) (c.sgs.drop i)
  rw [List.take_append_drop, Ch.of_sgs] at this
  exact this
section
variable {P : Program} {w : World} {K : PySem.W.Frag} {mg : Str → Option Value} {base : Heap} {J : Cls'} {f f2 : Addr} {fd fd2 : FuncData}
theorem sc_chain_end : FnScope ["chain", "meter", "last", "stage"] ["chain", "meter"] (defScope s_chain_end) := ⟨rfl, rfl, rfl, by decide +kernel, rfl, by decide +kernel, by decide +kernel⟩
theorem ok_chain_end {n : Nat} (T : Txt K mg) (F : FnP K "chain_end" "chain_end" s_chain_end f fd)
    (G_maker_of : Cal P w K mg base CX0 4 "maker_of" ["maker", "meter"] (spMakerOf J))
    (G_stage_behind : Cal P w K mg base CX0 (2 * n + 6) "stage_behind" ["ahead", "stage", "meter"] (spBehind J n)) :
    FnOk P w K mg base CX0 (2 * n + 7) f fd ["chain", "meter"] (spEnd J (n + 1)) := by
  refine ok0 F sc_chain_end (fun vs H Q E h => ?_) (fun cdv A outer s H vs Q E hr h => ?_)
  · obtain ⟨p, me, cs, lo, m, gs, c, rfl, _⟩ := h
    rfl
  · obtain ⟨p, me, cs, lo, m, gs, c, rfl, ⟨mk, ss, bs, ep, ess, hst⟩, hok, hn, M, n1, n2, n3, hl, q⟩ := h
    have hg := hst.get
    have ho := Ch.ok_sgs hok
    refine ⟨_, (pss_cons (ps_set (i := 2) sc_chain_end.nd rfl (Or.inl rfl) (pe_cal G_maker_of (hr.mono (by omega)) pass0 (pa_cons (pe_ix (ix_tupK K) (pv 0) pe_int (fun _ _ => rfl)) (pa_cons (pv 1) pa_nil))))
  (pss_cons (ps_for PassesOwn.never rfl (pi_tup (pe_ix (ix_tupK K) (pv 0) pe_int (fun _ _ => rfl))) (pg_name (i := 3) sc_chain_end.nd rfl (Or.inl rfl))
    (pss_one (ps_set (i := 2) sc_chain_end.nd rfl (Or.inl rfl) (pe_cal G_stage_behind (hr.mono (by omega)) pass0 (pa_cons (pv 2) (pa_cons (pv 3) (pa_cons (pv 1) pa_nil)))))))
  (pss_one (ps_ret (pv 2))))), ?_⟩
    try dsimp only [cxOf, Cx.nox, Cx.wish]
    refine rd_at (σ' := [some (.ref p), some (.ref me), none, none]) rfl ?_
    walk_at "go"
    have hm := c.nm_pos
    refine ⟨mk, me, cs, lo, m, gs, c.root, rfl, hst.root, M, n1, n2, n3, by omega, fun H1 x nx Mx hx f1 => ?_⟩
    walk_at "go"
    walk_at "fo"
    walk_at "go"
    refine rd_ixT (SqT.of (f1.tp ep)) rfl ?_
    refine ⟨ss, rfl, ⟨_, SqT.of (f1.tp ess)⟩, for_tup (K := K) (a := ss) (xs := bs.map V.ref) (fun i σ H' => ∃ (t : Tr) (v : Option V), σ = [some (.ref p), some (.ref me), some (.ref t.ad), v] ∧ NdAt J H' me gs.length (Ch.of c.root (c.sgs.take i)).nd t ∧
        MetAt J H' me cs lo m (gs ++ (Ch.of c.root (c.sgs.take i)).nd.gv) ∧ (∀ b, b ∈ t.ads → H b = none) ∧ t.dj ∧ Fr [cs] H H') ⟨.mkr x, none, rfl, nx, Mx, fun b hb => by rw [List.mem_singleton.mp hb]; exact hx, trivial, f1⟩ (fun i σ H' _ ⟨_, _, _, _, _, _, _, fr⟩ => SqT.of (fr.tp ess)) ?_ ?_⟩
    · rintro i y σ H' hi ⟨t, v, rfl, nd, Mi, fr0, dj, fi⟩
      obtain ⟨sx, hsx, rfl⟩ : ∃ sx, bs[i]? = some sx ∧ y = .ref sx := by
        rw [List.getElem?_map] at hi
        cases e : bs[i]? with
        | none => rw [e] at hi; cases hi
        | some z => rw [e] at hi; exact ⟨z, rfl, (Option.some.inj hi).symm⟩
      obtain ⟨g, hgi, gat⟩ := hg.2 i sx hsx
      have hle := Ch.of_take_nm c (i + 1)
      rw [Ch.of_take c.root hgi, Ch.snoc_nm] at hle
      have hp1 := (Ch.of c.root (c.sgs.take i)).nm_pos
      have gvl := (Ch.of c.root (c.sgs.take i)).gv_len
      walk_at "go"
      refine ⟨sx, me, cs, lo, m, gs.length, gs ++ (Ch.of c.root (c.sgs.take i)).nd.gv, _, t, g, rfl, gat.fr fi, ho.2 g (List.mem_of_getElem? hgi), by omega, nd, dj, Mi, n1, n2, n3, by rw [List.length_append], by rw [List.length_append]; omega, fun H2 t' nd' M' fr' dj' f' => ?_⟩
      walk_at "go"
      refine ⟨t', _, rfl, ?_, ?_, fun b hb => ?_, dj', fi.tr f'⟩
      · rw [Ch.of_take c.root hgi, Ch.nd_snoc]; exact nd'
      · rw [Ch.of_take c.root hgi, Ch.nd_snoc, Nd.snoc_gv, ← List.append_assoc]; exact M'
      · rcases fr' b hb with z | z
        · exact fr0 b z
        · exact fi.free (fun z2 => by
            rw [List.mem_singleton] at z2
            have := Mi.2.1
            rw [← z2, z] at this
            cases this) z
    · rintro σ H' ⟨t, v, rfl, nd, Mi, fr0, dj, fi⟩
      rw [List.length_map, hg.1, List.take_length, Ch.of_sgs] at nd Mi
      walk_at "go"
      exact q H' t nd Mi fr0 dj fi
theorem ends {fM fB fE : Addr} {fdM fdB fdE : FuncData} (T : Txt K mg) (FM : FnP K "maker_of" "maker_of" s_maker_of fM fdM) (FB : FnP K "stage_behind" "stage_behind" s_stage_behind fB fdB) (FE : FnP K "chain_end" "chain_end" s_chain_end fE fdE)
    (gM : mg "maker_of" = some (.ref fM)) (gB : mg "stage_behind" = some (.ref fB)) (gE : mg "chain_end" = some (.ref fE))
    (I_Count : CalI P w K mg base CX0 2 "Count" J.count ["self", "begin", "step", "meter"] (spCInit J)) (I_Row : CalI P w K mg base CX0 2 "Row" J.row ["self", "numbers", "meter"] (spRInit J))
    (I_Reckon : CalI P w K mg base CX0 2 "Reckon" J.reckon ["self", "ahead", "factor", "term"] (spSInit J.reckon 2 fun | [a, b] => [("factor", a), ("term", b)] | _ => []))
    (I_Keep : CalI P w K mg base CX0 2 "Keep" J.keep ["self", "ahead", "rest", "wheel"] (spSInit J.keep 2 fun | [a, b] => [("rest", a), ("wheel", b)] | _ => []))
    (I_Drop : CalI P w K mg base CX0 2 "Drop" J.drop ["self", "ahead", "many"] (spSInit J.drop 1 fun | [a] => [("left", a)] | _ => []))
    (I_Take : CalI P w K mg base CX0 2 "Take" J.take ["self", "ahead", "many"] (spSInit J.take 1 fun | [a] => [("left", a)] | _ => []))
    (I_Each : CalI P w K mg base CX0 2 "Each" J.each ["self", "ahead", "many"] (spSInit J.each 1 fun | [a] => [("many", a), ("left", .int 0), ("number", .non)] | _ => []))
    (I_Until : CalI P w K mg base CX0 2 "Until" J.until' ["self", "ahead", "n", "meter"] (spSInit J.until' 2 fun | [a, b] => [("n", a), ("meter", b)] | _ => []))
    (I_Unlike : CalI P w K mg base CX0 2 "Unlike" J.unlike ["self", "ahead"] (spSInit J.unlike 0 fun _ => [("last", .non)]))
    (I_Both : CalI P w K mg base CX0 2 "Both" J.both ["self", "ahead", "other", "meter"] (spSInit J.both 2 fun | [a, b] => [("other", a), ("meter", b)] | _ => []))
    (I_Then : CalI P w K mg base CX0 2 "Then" J.thn ["self", "ahead", "other"] (spSInit J.thn 1 fun | [a] => [("other", a)] | _ => [])) : ∀ n, Cal P w K mg base CX0 (2 * n + 5) "chain_end" ["chain", "meter"] (spEnd J n)
  | 0 => by
    have void : ∀ {vs : List V} {H : Hp} {Q : VK} {E : XK}, spEnd J 0 vs H Q E → False := by
      rintro vs H Q E ⟨p, me, cs, lo, m, gs, c, _, _, _, h, _⟩
      have := c.nm_pos
      omega
    exact cal_of FE gE (ok0 FE sc_chain_end (fun vs H Q E h => (void h).elim) fun cdv A outer s H vs Q E hr h => (void h).elim) fun _ _ _ _ _ _ us hl => match us, hl with | [_, _], _ => rfl
  | n + 1 => by
    have ih := ends T FM FB FE gM gB gE I_Count I_Row I_Reckon I_Keep I_Drop I_Take I_Each I_Until I_Unlike I_Both I_Then n
    have GM : Cal P w K mg base CX0 4 "maker_of" ["maker", "meter"] (spMakerOf J) := cal_of FM gM (ok_maker_of T FM I_Count I_Row) fun _ _ _ _ _ _ us hl => match us, hl with | [_, _], _ => rfl
    have GB : Cal P w K mg base CX0 (2 * n + 6) "stage_behind" ["ahead", "stage", "meter"] (spBehind J n) := cal_of FB gB (ok_stage_behind T FB I_Reckon I_Keep I_Drop I_Take I_Each I_Until I_Unlike I_Both I_Then ih) fun _ _ _ _ _ _ us hl => match us, hl with | [_, _, _], _ => rfl
    exact cal_of FE gE (ok_chain_end T FE GM GB) fun _ _ _ _ _ _ us hl => match us, hl with | [_, _], _ => rfl
end
end Dc

set_option Elab.async false
set_option linter.all false
set_option maxRecDepth 100000
set_option maxHeartbeats 2000000
namespace Dc
open PySem PySem.Spec PyProof.Rows L2
local macro_rules | `(tactic| walk_at "ne") => `(tactic| first | assumption | (refine Ne.symm ?_; assumption) | exact ne_of (by assumption) (by assumption) (by intro q; cases q) | exact ne_of_none (by assumption) (by assumption) | exact Ne.symm (ne_of_none (by assumption) (by assumption)))
local macro_rules | `(tactic| walk_at "hp") => `(tactic| first | assumption | exact upd_same | (refine upd_keep ?_ (by assumption); walk_at "hp") | (refine upd_other ?_ ?_; · walk_at "ne"; · walk_at "hp"))
local macro_rules | `(tactic| walk_at "hl") => `(tactic| first | assumption | exact SqL.of (by walk_at "hp"))
local macro_rules | `(tactic| walk_at "ht") => `(tactic| first | assumption | exact SqT.of (by walk_at "hp"))
local macro_rules | `(tactic| walk_at "rd1") => `(tactic| first
  | ((with_reducible apply rd_var); exact rfl)
  | ((with_reducible apply rd_eq); exact rfl) | ((with_reducible apply rd_ne); exact rfl)
  | with_reducible first
  | refine iteT ?_ | refine iteF ?_ | refine rd_nF ?_ | refine rd_nT ?_ | refine rd_yes ?_ | refine rd_c ?_ | refine rd_op ?_ | refine rd_un ?_ | refine rd_test ?_ | refine rd_B ?_ | refine rd_bl ?_ | refine rd_seq ?_ | refine rd_next ?_ | refine rd_ifs ?_ | refine rd_asg ?_ | refine rd_name ?_ | refine rd_ret ?_ | refine rd_drop ?_
  | refine rd_call ?_ | refine rd_cons ?_ | refine rd_nil ?_ | refine rd_cb ?_ | refine rd_I0 ?_ | refine rd_U ?_ | refine rd_gsub ?_ | refine rd_lst ?_ | refine rd_tup ?_ | refine rd_if ?_ | refine rd_not ?_ | refine rd_rng1 ?_ | refine rd_itup ?_ | refine rd_ilst ?_ | refine rd_bm ?_ | refine rd_bm0 ?_ | refine rd_andV ?_ | refine rd_orV ?_ | refine rd_notV ?_)
local macro_rules | `(tactic| walk_at "rd") => `(tactic| repeat walk_at "rd1")
local macro_rules | `(tactic| walk_at "ci") => `(tactic| first | assumption | (show (0 : Int) < _; first | decide | omega) | exact ⟨by decide, by decide⟩ | exact Or.inr ⟨by decide, by decide⟩ | exact Or.inl ⟨by decide, by decide⟩ | exact ⟨by decide, by decide, by decide⟩ | exact Or.inl ⟨by omega, by omega⟩ | exact Or.inr ⟨by omega, by omega⟩)
local macro_rules | `(tactic| walk_at "ix") => `(tactic| first
  | ((with_reducible apply rd_ixL); (walk_at "hl"); exact rfl)
  | ((with_reducible apply rd_ixT); (walk_at "ht"); exact rfl)
  | ((with_reducible apply rd_lenL); (walk_at "hl"))
  | ((with_reducible apply rd_lenT); (walk_at "ht"))
  | ((with_reducible apply rd_tupOf); (walk_at "hl"))
  | ((with_reducible apply rd_listOf); (walk_at "hl"))
  | (with_reducible refine rd_min2 ?_)
  | ((with_reducible apply rd_I); (walk_at "ci"))
  | ((with_reducible apply rd_setL); (walk_at "hp"); exact rfl))
local macro_rules | `(tactic| walk_at "gs") => `(tactic| repeat first | walk_at "rd1" | walk_at "ix")
local macro_rules | `(tactic| walk_at "go") => `(tactic| repeat first | walk_at "rd1" | walk_at "ix" | with_reducible refine rd_and ?_ | with_reducible refine rd_or ?_)
local macro_rules | `(tactic| walk_at "fo") => `(tactic| (with_reducible refine rd_for ?_))
local macro_rules | `(tactic| walk_at "pm") => `(tactic| repeat first
  | with_reducible first | refine rd_pcons ?_ | refine rd_pstr ?_ | refine rd_pcap ?_ | refine rd_pwild ?_ | refine rd_pnil ?_ | refine rd_por ?_ | refine rd_pno ?_
  | ((with_reducible refine rd_eq rfl ?_); refine ⟨_, rfl, ?_⟩; first | refine rd_T rfl ?_ | refine rd_F (by decide) ?_)
  | dsimp only [List.nil_append, List.singleton_append, List.cons_append, setAll])
local macro_rules | `(tactic| walk_at "pc") => `(tactic| (refine rd_case ?_); (first | (refine rd_phit (SqT.of (by assumption)) rfl ?_) | (refine rd_pmiss (SqT.of (by assumption)) (by simp) ?_)); (walk_at "pm"))

/-! ### a good chain is let by -/
theorem rd_chain {r r' : R2} {ta tb tc : TE} {σ : L2.St} {H : Hp} {Q : VK} (h : ta σ H fun x H1 => tb σ H1 fun y H2 => r x y H2 fun z H3 => ∃ k, z = .bl k ∧ (if k = true then tc σ H3 fun w' H4 => r' y w' H4 Q else Q (.bl false) H3)) : tChain r r' ta tb tc σ H Q := h
theorem isi_int_bool : kitB "int" "bool" = some false := by decide +kernel
theorem isi_int_int : kitB "int" "int" = some true := by decide +kernel
theorem isi_tuple : kitB "tuple" "tuple" = some true := by decide +kernel
theorem tyx_tup {K : PySem.W.Frag} {H : Hp} {a : Addr} {xs : List V} (h : H a = some (.tup xs)) : TyX K H (.ref a) (.type "tuple") := .base (.tup h)
theorem tyx_int {K : PySem.W.Frag} {H : Hp} {n : Int} : TyX K H (.int n) (.type "int") := .base (.int n)
def spIsNumber : Sp := fun vs H Q _ => ∃ n : Int, vs = [.int n] ∧ numOk n ∧ Q (.bl true) H
def spIsWithin : Sp := fun vs H Q _ => ∃ n lo hi : Int, vs = [.int n, .int lo, .int hi] ∧ numOk n ∧ lo ≤ n ∧ n ≤ hi ∧ Q (.bl true) H
def spIsRow : Sp := fun vs H Q _ => ∃ (r : Addr) (ns : List Int), vs = [.ref r] ∧ H r = some (.tup (ns.map V.int)) ∧ ns.length ≤ 100 ∧ (∀ n ∈ ns, numOk n) ∧ ∀ H', Fr [] H H' → Q (.bl true) H'
def spIsMaker : Sp := fun vs H Q _ => ∃ (a : Addr) (k : Mkr), vs = [.ref a] ∧ MkAt H a k ∧ k.ok ∧ ∀ H', Fr [] H H' → Q (.bl true) H'
section
variable {P : Program} {w : World} {K : PySem.W.Frag} {mg : Str → Option Value} {base : Heap} {J : Cls'} {f f2 : Addr} {fd fd2 : FuncData}
theorem sc_is_number : FnScope ["number"] ["number"] (defScope s_is_number) := ⟨rfl, rfl, rfl, by decide +kernel, rfl, by decide +kernel, by decide +kernel⟩
theorem ok_is_number (T : Txt K mg) (F : FnP K "is_number" "is_number" s_is_number f fd) : FnOk P w K mg base CX0 1 f fd ["number"] spIsNumber := by
  refine ok0 F sc_is_number (fun vs H Q E h => ?_) (fun cdv A outer s H vs Q E hr h => ?_)
  · obtain ⟨n, rfl, _⟩ := h
    rfl
  · obtain ⟨n, rfl, hn, k⟩ := h
    refine ⟨_, (pss_cons (ps_if (PW.pt (pw_or (pt_val (pe_callB (call_isiK1 K) (by rfl) T.free_isinstance (by decide +kernel) (pa_cons (pv 0) (pa_cons (pe_bltn (v := .ty "bool") (u := .type "bool") (by rfl) T.free_bool (by decide +kernel) rfl) pa_nil)))) (pw_or1 (pt_not (pt_val (pe_callB (call_isiK1 K) (by rfl) T.free_isinstance (by decide +kernel) (pa_cons (pv 0) (pa_cons (pe_bltn (v := .ty "int") (u := .type "int") (by rfl) T.free_int (by decide +kernel) rfl) pa_nil))))))))
    (pss_one (ps_ret pe_bl)) pss_nil)
  (pss_one (ps_ret (pe_chain op_lt op_lt (pe_un un_neg (pe_cint T.c_FIRST_TOO_LARGE)) (pv 0) (pe_cint T.c_FIRST_TOO_LARGE))))), ?_⟩
    try dsimp only [cxOf, Cx.nox, Cx.wish]
    refine rd_at (σ' := [some (.int n)]) rfl ?_
    walk_at "go"
    refine rd_isi tyx_int isi_int_bool ?_
    walk_at "go"
    refine rd_isi tyx_int isi_int_int ?_
    walk_at "go"
    refine rd_chain ?_
    walk_at "go"
    refine rd_T hn.1 ?_
    walk_at "go"
    have h2 : n < 1000000000000000000000000000000 := by have := hn.2; omega
    rw [decide_eq_true h2]
    exact k
theorem sc_is_within : FnScope ["number", "low", "high"] ["number", "low", "high"] (defScope s_is_within) := ⟨rfl, rfl, rfl, by decide +kernel, rfl, by decide +kernel, by decide +kernel⟩
theorem ok_is_within (T : Txt K mg) (F : FnP K "is_within" "is_within" s_is_within f fd) (G_is_number : Cal P w K mg base CX0 1 "is_number" ["number"] spIsNumber) : FnOk P w K mg base CX0 2 f fd ["number", "low", "high"] spIsWithin := by
  refine ok0 F sc_is_within (fun vs H Q E h => ?_) (fun cdv A outer s H vs Q E hr h => ?_)
  · obtain ⟨n, lo, hi, rfl, _⟩ := h
    rfl
  · obtain ⟨n, lo, hi, rfl, hn, h1, h2, k⟩ := h
    refine ⟨_, (pss_one (ps_ret (pe_and (pe_cal G_is_number (hr.mono (by omega)) pass0 (pa_cons (pv 0) pa_nil)) (pe_one (pe_chain op_le op_le (pv 1) (pv 0) (pv 2)))))), ?_⟩
    try dsimp only [cxOf, Cx.nox, Cx.wish]
    refine rd_at (σ' := [some (.int n), some (.int lo), some (.int hi)]) rfl ?_
    walk_at "go"
    refine ⟨n, rfl, hn, ?_⟩
    walk_at "go"
    refine rd_chain ?_
    walk_at "go"
    refine rd_T h1 ?_
    walk_at "go"
    rw [decide_eq_true h2]
    exact k
theorem sc_is_row : FnScope ["numbers", "number"] ["numbers"] (defScope s_is_row) := ⟨rfl, rfl, rfl, by decide +kernel, rfl, by decide +kernel, by decide +kernel⟩
theorem ok_is_row (T : Txt K mg) (F : FnP K "is_row" "is_row" s_is_row f fd) (G_is_number : Cal P w K mg base CX0 1 "is_number" ["number"] spIsNumber) : FnOk P w K mg base CX0 2 f fd ["numbers"] spIsRow := by
  refine ok0 F sc_is_row (fun vs H Q E h => ?_) (fun cdv A outer s H vs Q E hr h => ?_)
  · obtain ⟨r, ns, rfl, _⟩ := h
    rfl
  · obtain ⟨r, ns, rfl, er, hl, hn, k⟩ := h
    refine ⟨_, (pss_cons (ps_if (PW.pt (pw_or (pt_not (pt_val (pe_callB (call_isiK1 K) (by rfl) T.free_isinstance (by decide +kernel) (pa_cons (pv 0) (pa_cons (pe_bltn (v := .ty "tuple") (u := .type "tuple") (by rfl) T.free_tuple (by decide +kernel) rfl) pa_nil))))) (pw_or1 (pt_cmpR op_gt (pe_callB (call_len1K K) (by rfl) T.free_len (by decide +kernel) (pa_cons (pv 0) pa_nil)) (pe_cint T.c_ROW_AT_MOST) (nomark _)))))
    (pss_one (ps_ret pe_bl)) pss_nil)
  (pss_one (ps_ret (pe_callB (cr_allK K rfl) (by rfl) T.free_all (by decide +kernel) (pa_cons (pe_lc (own := [("number", 1)]) (g := gName 1) rfl sc_is_row.nd (pi_tup (pv 0)) (blkOk_by (N := ["numbers", "number"]) (sc := defScope s_is_row) (by decide +kernel)) (fun _ _ _ _ _ => pg_name (i := 1) sc_is_row.nd rfl (Or.inl rfl)) (fun _ _ _ _ _ => pts_nil) (fun _ _ _ _ _ => (pe_cal G_is_number (hr.mono (by omega)) pass0 (pa_cons (pv 1) pa_nil)))) pa_nil))))), ?_⟩
    try dsimp only [cxOf, Cx.nox, Cx.wish]
    refine rd_at (σ' := [some (.ref r), none]) rfl ?_
    walk_at "go"
    refine rd_isi (tyx_tup er) isi_tuple ?_
    walk_at "go"
    refine rd_F (by rw [List.length_map]; omega) ?_
    walk_at "go"
    refine ⟨_, rfl, r, rfl, ⟨_, SqT.of er⟩, fun D hD => ?_⟩
    refine lc_tup (K := K) (a := r) (xs := ns.map V.int) (fun i H1 => H1 D = some (.lst ((List.replicate i true).map V.bl)) ∧ Fr [] H H1) ⟨upd_same, Fr.new hD⟩ (fun i H1 _ ⟨_, fr⟩ => SqT.of (fr.tp er)) ?_ ?_
    · rintro i y H1 hi ⟨e1, f1⟩
      obtain ⟨n, rfl, hn'⟩ : ∃ n, y = V.int n ∧ numOk n := by
        rw [List.getElem?_map] at hi
        cases e : ns[i]? with
        | none => rw [e] at hi; cases hi
        | some z => rw [e] at hi; exact ⟨z, (Option.some.inj hi).symm, hn z (List.mem_of_getElem? e)⟩
      have il : i < ns.length := by have := (List.getElem?_eq_some_iff.mp hi).1; rwa [List.length_map] at this
      walk_at "go"
      refine ⟨rfl, ?_⟩
      walk_at "go"
      refine ⟨n, rfl, hn', _, e1, by rw [List.length_map, List.length_replicate]; exact Nat.lt_of_lt_of_le il (Nat.le_trans hl (by decide)), ?_, f1.trans (Fr.put (S := [D]) (by simp) (nt e1)) fun b hb => ?_⟩
      · rw [upd_same, List.replicate_succ', List.map_append]
        rfl
      · rw [List.mem_singleton] at hb
        rw [hb]; exact .inr hD
    · rintro H1 ⟨e1, f1⟩
      walk_at "go"
      refine ⟨D, _, rfl, SqL.of e1, ?_⟩
      have z : (List.replicate (ns.map V.int).length true).all id = true := by simp
      rw [z]
      exact k _ f1
theorem sc_is_maker : FnScope ["maker", "begin", "step", "numbers"] ["maker"] (defScope s_is_maker) := ⟨rfl, rfl, rfl, by decide +kernel, rfl, by decide +kernel, by decide +kernel⟩
theorem ok_is_maker (T : Txt K mg) (F : FnP K "is_maker" "is_maker" s_is_maker f fd) (G_is_number : Cal P w K mg base CX0 1 "is_number" ["number"] spIsNumber) (G_is_row : Cal P w K mg base CX0 2 "is_row" ["numbers"] spIsRow) : FnOk P w K mg base CX0 3 f fd ["maker"] spIsMaker := by
  refine ok0 F sc_is_maker (fun vs H Q E h => ?_) (fun cdv A outer s H vs Q E hr h => ?_)
  · obtain ⟨a, kk, rfl, _⟩ := h
    rfl
  · obtain ⟨a, kk, rfl, ea, hk, k⟩ := h
    refine ⟨_, (pss_cons (ps_if (pt_not (pt_val (pe_callB (call_isiK1 K) (by rfl) T.free_isinstance (by decide +kernel) (pa_cons (pv 0) (pa_cons (pe_bltn (v := .ty "tuple") (u := .type "tuple") (by rfl) T.free_tuple (by decide +kernel) rfl) pa_nil)))))
    (pss_one (ps_ret pe_bl)) pss_nil)
  (pss_cons (ps_match (pv 0)
    (pc_cons (is := [1, 2]) sc_is_maker.nd (pat_seq rfl (pp_cons (pat_str op_eq) (pp_cons pat_cap (pp_cons pat_cap pp_nil)))) rfl (all_local (by rfl))
      (pss_one (ps_ret (pe_and (pe_cal G_is_number (hr.mono (by omega)) pass0 (pa_cons (pv 1) pa_nil)) (pe_one (pe_cal G_is_number (hr.mono (by omega)) pass0 (pa_cons (pv 2) pa_nil))))))
    (pc_cons (is := [3]) sc_is_maker.nd (pat_seq rfl (pp_cons (pat_str op_eq) (pp_cons pat_cap pp_nil))) rfl (all_local (by rfl))
      (pss_one (ps_ret (pe_cal G_is_row (hr.mono (by omega)) pass0 (pa_cons (pv 3) pa_nil))))
    pc_nil)))
  (pss_one (ps_ret pe_bl)))), ?_⟩
    try dsimp only [cxOf, Cx.nox, Cx.wish]
    refine rd_at (σ' := [some (.ref a)] ++ List.replicate (["maker", "begin", "step", "numbers"].length - 1) none) rfl ?_
    cases kk with
    | count b st =>
      simp only [MkAt] at ea
      walk_at "go"
      refine rd_isi (tyx_tup ea) isi_tuple ?_
      walk_at "go"
      refine rd_match ?_
      walk_at "go"
      repeat walk_at "pc"
      walk_at "go"
      refine ⟨b, rfl, hk.1, ?_⟩
      walk_at "go"
      refine ⟨st, rfl, hk.2, ?_⟩
      exact k _ (Fr.refl _ _)
    | row ns =>
      obtain ⟨r, ea, er⟩ := ea
      walk_at "go"
      refine rd_isi (tyx_tup ea) isi_tuple ?_
      walk_at "go"
      refine rd_match ?_
      walk_at "go"
      repeat walk_at "pc"
      walk_at "go"
      exact ⟨r, ns, rfl, er, hk.1, hk.2, k⟩
end
end Dc

set_option Elab.async false
set_option linter.all false
set_option maxRecDepth 100000
set_option maxHeartbeats 2000000
namespace Dc
open PySem PySem.Spec PyProof.Rows L2
local macro_rules | `(tactic| walk_at "ne") => `(tactic| first | assumption | (refine Ne.symm ?_; assumption) | exact ne_of (by assumption) (by assumption) (by intro q; cases q) | exact ne_of_none (by assumption) (by assumption) | exact Ne.symm (ne_of_none (by assumption) (by assumption)))
local macro_rules | `(tactic| walk_at "hp") => `(tactic| first | assumption | exact upd_same | (refine upd_keep ?_ (by assumption); walk_at "hp") | (refine upd_other ?_ ?_; · walk_at "ne"; · walk_at "hp"))
local macro_rules | `(tactic| walk_at "hl") => `(tactic| first | assumption | exact SqL.of (by walk_at "hp"))
local macro_rules | `(tactic| walk_at "ht") => `(tactic| first | assumption | exact SqT.of (by walk_at "hp"))
local macro_rules | `(tactic| walk_at "rd1") => `(tactic| first
  | ((with_reducible apply rd_var); exact rfl)
  | ((with_reducible apply rd_eq); exact rfl) | ((with_reducible apply rd_ne); exact rfl)
  | with_reducible first
  | refine iteT ?_ | refine iteF ?_ | refine rd_nF ?_ | refine rd_nT ?_ | refine rd_yes ?_ | refine rd_c ?_ | refine rd_op ?_ | refine rd_un ?_ | refine rd_test ?_ | refine rd_B ?_ | refine rd_bl ?_ | refine rd_seq ?_ | refine rd_next ?_ | refine rd_ifs ?_ | refine rd_asg ?_ | refine rd_name ?_ | refine rd_ret ?_ | refine rd_drop ?_
  | refine rd_call ?_ | refine rd_cons ?_ | refine rd_nil ?_ | refine rd_cb ?_ | refine rd_I0 ?_ | refine rd_U ?_ | refine rd_gsub ?_ | refine rd_lst ?_ | refine rd_tup ?_ | refine rd_if ?_ | refine rd_not ?_ | refine rd_rng1 ?_ | refine rd_itup ?_ | refine rd_ilst ?_ | refine rd_bm ?_ | refine rd_bm0 ?_ | refine rd_andV ?_ | refine rd_orV ?_ | refine rd_notV ?_)
local macro_rules | `(tactic| walk_at "rd") => `(tactic| repeat walk_at "rd1")
local macro_rules | `(tactic| walk_at "ci") => `(tactic| first | assumption | (show (0 : Int) < _; first | decide | omega) | exact ⟨by decide, by decide⟩ | exact Or.inr ⟨by decide, by decide⟩ | exact Or.inl ⟨by decide, by decide⟩ | exact ⟨by decide, by decide, by decide⟩ | exact Or.inl ⟨by omega, by omega⟩ | exact Or.inr ⟨by omega, by omega⟩)
local macro_rules | `(tactic| walk_at "ix") => `(tactic| first
  | ((with_reducible apply rd_ixL); (walk_at "hl"); exact rfl)
  | ((with_reducible apply rd_ixT); (walk_at "ht"); exact rfl)
  | ((with_reducible apply rd_lenL); (walk_at "hl"))
  | ((with_reducible apply rd_lenT); (walk_at "ht"))
  | ((with_reducible apply rd_tupOf); (walk_at "hl"))
  | ((with_reducible apply rd_listOf); (walk_at "hl"))
  | (with_reducible refine rd_min2 ?_)
  | ((with_reducible apply rd_I); (walk_at "ci"))
  | ((with_reducible apply rd_setL); (walk_at "hp"); exact rfl))
local macro_rules | `(tactic| walk_at "gs") => `(tactic| repeat first | walk_at "rd1" | walk_at "ix")
local macro_rules | `(tactic| walk_at "go") => `(tactic| repeat first | walk_at "rd1" | walk_at "ix" | with_reducible refine rd_and ?_ | with_reducible refine rd_or ?_)
local macro_rules | `(tactic| walk_at "fo") => `(tactic| (with_reducible refine rd_for ?_))
local macro_rules | `(tactic| walk_at "pm") => `(tactic| repeat first
  | with_reducible first | refine rd_pcons ?_ | refine rd_pstr ?_ | refine rd_pcap ?_ | refine rd_pwild ?_ | refine rd_pnil ?_ | refine rd_por ?_ | refine rd_pno ?_
  | ((with_reducible refine rd_eq rfl ?_); refine ⟨_, rfl, ?_⟩; first | refine rd_T rfl ?_ | refine rd_F (by decide) ?_)
  | dsimp only [List.nil_append, List.singleton_append, List.cons_append, setAll])
local macro_rules | `(tactic| walk_at "pc") => `(tactic| (refine rd_case ?_); (first | (refine rd_phit (SqT.of (by assumption)) rfl ?_) | (refine rd_pmiss (SqT.of (by assumption)) (by simp) ?_)); (walk_at "pm"))

def Sg.nest : Sg → Bool
  | .one _ => false
  | _ => true
def spIsStage : Sp := fun vs H Q _ => ∃ (x : Addr) (g : Sg), vs = [.ref x] ∧ SgAt H x g ∧ g.ok ∧ Q (.bl true) H
def spHasChain : Sp := fun vs H Q _ => ∃ (x : Addr) (g : Sg), vs = [.ref x] ∧ SgAt H x g ∧ ∀ H', Fr [] H H' → Q (.bl g.nest) H'
def spIsPair : Sp := fun vs H Q _ => ∃ (p m ss : Addr) (bs : List Addr), vs = [.ref p] ∧ H p = some (.tup [.ref m, .ref ss]) ∧ H ss = some (.tup (bs.map V.ref)) ∧ Q (.bl true) H
section
variable {P : Program} {w : World} {K : PySem.W.Frag} {mg : Str → Option Value} {base : Heap} {J : Cls'} {f f2 : Addr} {fd fd2 : FuncData}
theorem sc_is_stage : FnScope ["stage", "n", "rest", "wheel", "many"] ["stage"] (defScope s_is_stage) := ⟨rfl, rfl, rfl, by decide +kernel, rfl, by decide +kernel, by decide +kernel⟩
theorem ok_is_stage (T : Txt K mg) (F : FnP K "is_stage" "is_stage" s_is_stage f fd) (G_is_number : Cal P w K mg base CX0 1 "is_number" ["number"] spIsNumber) (G_is_within : Cal P w K mg base CX0 2 "is_within" ["number", "low", "high"] spIsWithin) : FnOk P w K mg base CX0 3 f fd ["stage"] spIsStage := by
  refine ok0 F sc_is_stage (fun vs H Q E h => ?_) (fun cdv A outer s H vs Q E hr h => ?_)
  · obtain ⟨x, g, rfl, _⟩ := h
    rfl
  · obtain ⟨x, g, rfl, ea, hg, k⟩ := h
    refine ⟨_, (pss_cons (ps_if (pt_not (pt_val (pe_callB (call_isiK1 K) (by rfl) T.free_isinstance (by decide +kernel) (pa_cons (pv 0) (pa_cons (pe_bltn (v := .ty "tuple") (u := .type "tuple") (by rfl) T.free_tuple (by decide +kernel) rfl) pa_nil)))))
    (pss_one (ps_ret pe_bl)) pss_nil)
  (pss_cons (ps_match (pv 0)
    (pc_cons (is := [1]) sc_is_stage.nd (pat_seq rfl (pp_cons (pat_or (pf_cons (pat_str op_eq) (pf_cons (pat_str op_eq) (pf_cons (pat_str op_eq) pf_nil)))) (pp_cons pat_cap pp_nil))) rfl (all_local (by rfl))
      (pss_one (ps_ret (pe_cal G_is_number (hr.mono (by omega)) pass0 (pa_cons (pv 1) pa_nil))))
    (pc_cons (is := [2, 3]) sc_is_stage.nd (pat_seq rfl (pp_cons (pat_str op_eq) (pp_cons pat_cap (pp_cons pat_cap pp_nil)))) rfl (all_local (by rfl))
      (pss_one (ps_ret (pe_and (pe_cal G_is_within (hr.mono (by omega)) pass0 (pa_cons (pv 3) (pa_cons pe_int (pa_cons pe_int pa_nil)))) (pe_one (pe_cal G_is_within (hr.mono (by omega)) pass0 (pa_cons (pv 2) (pa_cons pe_int (pa_cons (pe_op op_sub (pv 3) pe_int) pa_nil))))))))
    (pc_cons (is := [4]) sc_is_stage.nd (pat_seq rfl (pp_cons (pat_or (pf_cons (pat_str op_eq) (pf_cons (pat_str op_eq) pf_nil))) (pp_cons pat_cap pp_nil))) rfl (all_local (by rfl))
      (pss_one (ps_ret (pe_cal G_is_within (hr.mono (by omega)) pass0 (pa_cons (pv 4) (pa_cons pe_int (pa_cons pe_int pa_nil))))))
    (pc_cons (is := [4]) sc_is_stage.nd (pat_seq rfl (pp_cons (pat_str op_eq) (pp_cons pat_cap pp_nil))) rfl (all_local (by rfl))
      (pss_one (ps_ret (pe_cal G_is_within (hr.mono (by omega)) pass0 (pa_cons (pv 4) (pa_cons pe_int (pa_cons pe_int pa_nil))))))
    (pc_cons (is := []) sc_is_stage.nd (pat_seq rfl (pp_cons (pat_str op_eq) pp_nil)) rfl (all_local (by rfl))
      (pss_one (ps_ret pe_bl))
    (pc_cons (is := []) sc_is_stage.nd (pat_seq rfl (pp_cons (pat_or (pf_cons (pat_str op_eq) (pf_cons (pat_str op_eq) pf_nil))) (pp_cons pat_wild pp_nil))) rfl (all_local (by rfl))
      (pss_one (ps_ret pe_bl))
    pc_nil)))))))
  (pss_one (ps_ret pe_bl)))), ?_⟩
    try dsimp only [cxOf, Cx.nox, Cx.wish]
    refine rd_at (σ' := [some (.ref x)] ++ List.replicate (["stage", "n", "rest", "wheel", "many"].length - 1) none) rfl ?_
    obtain ⟨vs, ev⟩ : ∃ vs, H x = some (.tup vs) := by
      cases g with
      | one kd => exact ⟨_, ea⟩
      | both o => obtain ⟨p, h, _⟩ := ea; exact ⟨_, h⟩
      | thn o => obtain ⟨p, h, _⟩ := ea; exact ⟨_, h⟩
    walk_at "go"
    refine rd_isi (tyx_tup ev) isi_tuple ?_
    walk_at "go"
    clear ev vs
    refine rd_match ?_
    walk_at "go"
    cases g with
    | one kd =>
      cases kd with
      | add n =>
        simp only [SgAt, Kd.vals] at ea
        repeat walk_at "pc"
        walk_at "go"
        exact ⟨n, rfl, hg, k⟩
      | times n =>
        simp only [SgAt, Kd.vals] at ea
        repeat walk_at "pc"
        walk_at "go"
        exact ⟨n, rfl, hg.1, k⟩
      | keep r wh =>
        simp only [SgAt, Kd.vals] at ea
        repeat walk_at "pc"
        walk_at "go"
        refine ⟨wh, 2, 1000, rfl, by have := hg.1; have := hg.2.1; unfold numOk; omega, hg.1, hg.2.1, ?_⟩
        walk_at "go"
        exact ⟨r, 0, wh - 1, rfl, by have := hg.1; have := hg.2; unfold numOk; omega, hg.2.2.1, by have := hg.2.2.2; omega, k⟩
      | drop n =>
        simp only [SgAt, Kd.vals] at ea
        repeat walk_at "pc"
        walk_at "go"
        exact ⟨n, 0, 100, rfl, by have := hg.1; have := hg.2; unfold numOk; omega, hg.1, hg.2, k⟩
      | take n =>
        simp only [SgAt, Kd.vals] at ea
        repeat walk_at "pc"
        walk_at "go"
        exact ⟨n, 0, 100, rfl, by have := hg.1; have := hg.2; unfold numOk; omega, hg.1, hg.2, k⟩
      | each n =>
        simp only [SgAt, Kd.vals] at ea
        repeat walk_at "pc"
        walk_at "go"
        exact ⟨n, 1, 10, rfl, by have := hg.1; have := hg.2; unfold numOk; omega, hg.1, hg.2, k⟩
      | «until» n =>
        simp only [SgAt, Kd.vals] at ea
        repeat walk_at "pc"
        walk_at "go"
        exact ⟨n, rfl, hg, k⟩
      | unlike =>
        simp only [SgAt, Kd.vals] at ea
        repeat walk_at "pc"
        walk_at "go"
        exact k
    | both o =>
      obtain ⟨p, ea, _⟩ := ea
      repeat walk_at "pc"
      walk_at "go"
      exact k
    | thn o =>
      obtain ⟨p, ea, _⟩ := ea
      repeat walk_at "pc"
      walk_at "go"
      exact k
theorem sc_has_chain : FnScope ["stage"] ["stage"] (defScope s_has_chain) := ⟨rfl, rfl, rfl, by decide +kernel, rfl, by decide +kernel, by decide +kernel⟩
theorem ok_has_chain (T : Txt K mg) (F : FnP K "has_chain" "has_chain" s_has_chain f fd) : FnOk P w K mg base CX0 1 f fd ["stage"] spHasChain := by
  refine ok0 F sc_has_chain (fun vs H Q E h => ?_) (fun cdv A outer s H vs Q E hr h => ?_)
  · obtain ⟨x, g, rfl, _⟩ := h
    rfl
  · obtain ⟨x, g, rfl, ea, k⟩ := h
    refine ⟨_, (pss_one (ps_ret (pe_cmpR (op_in_seqK K) (pe_ix (ix_tupK K) (pv 0) pe_int (fun _ _ => rfl)) (pe_tup (pa_cons pe_str (pa_cons pe_str pa_nil))) (by rfl)))), ?_⟩
    try dsimp only [cxOf, Cx.nox, Cx.wish]
    refine rd_at (σ' := [some (.ref x)]) rfl ?_
    walk_at "go"
    obtain ⟨vs, nm, ev, e0, hb⟩ : ∃ vs nm, H x = some (.tup vs) ∧ atI vs 0 = some (.str nm) ∧ inV (.str nm) [.str "both", .str "then"] = g.nest := by
      cases g with
      | one kd => exact ⟨_, kd.name, ea, kd.at0, by cases kd <;> (simp only [Kd.name, Sg.nest]; decide +kernel)⟩
      | both o => obtain ⟨p, h, _⟩ := ea; exact ⟨_, "both", h, rfl, by show inV _ _ = true; decide +kernel⟩
      | thn o => obtain ⟨p, h, _⟩ := ea; exact ⟨_, "then", h, rfl, by show inV _ _ = true; decide +kernel⟩
    refine rd_ixT (SqT.of ev) e0 ?_
    walk_at "go"
    refine ⟨by show 2 ≤ sizeLine; decide, fun p hp => ?_⟩
    refine ⟨p, _, rfl, .inr (SqT.of upd_same), rfl, rfl, ?_⟩
    rw [if_neg (by decide), hb]
    exact k _ (Fr.new hp)
theorem sc_is_pair : FnScope ["part"] ["part"] (defScope s_is_pair) := ⟨rfl, rfl, rfl, by decide +kernel, rfl, by decide +kernel, by decide +kernel⟩
theorem ok_is_pair (T : Txt K mg) (F : FnP K "is_pair" "is_pair" s_is_pair f fd) : FnOk P w K mg base CX0 1 f fd ["part"] spIsPair := by
  refine ok0 F sc_is_pair (fun vs H Q E h => ?_) (fun cdv A outer s H vs Q E hr h => ?_)
  · obtain ⟨p, m, ss, bs, rfl, _⟩ := h
    rfl
  · obtain ⟨p, m, ss, bs, rfl, ep, es, k⟩ := h
    refine ⟨_, (pss_one (ps_ret (pe_and (pe_callB (call_isiK1 K) (by rfl) T.free_isinstance (by decide +kernel) (pa_cons (pv 0) (pa_cons (pe_bltn (v := .ty "tuple") (u := .type "tuple") (by rfl) T.free_tuple (by decide +kernel) rfl) pa_nil))) (pe_and (pe_cmpR op_eq (pe_callB (call_len1K K) (by rfl) T.free_len (by decide +kernel) (pa_cons (pv 0) pa_nil)) pe_int (nomark _)) (pe_one (pe_callB (call_isiK1 K) (by rfl) T.free_isinstance (by decide +kernel) (pa_cons (pe_ix (ix_tupK K) (pv 0) pe_int (fun _ _ => rfl)) (pa_cons (pe_bltn (v := .ty "tuple") (u := .type "tuple") (by rfl) T.free_tuple (by decide +kernel) rfl) pa_nil)))))))), ?_⟩
    try dsimp only [cxOf, Cx.nox, Cx.wish]
    refine rd_at (σ' := [some (.ref p)]) rfl ?_
    walk_at "go"
    refine rd_isi (tyx_tup ep) isi_tuple ?_
    walk_at "go"
    refine rd_T rfl ?_
    walk_at "go"
    exact rd_isi (tyx_tup es) isi_tuple k
end
end Dc

set_option Elab.async false
set_option linter.all false
set_option maxRecDepth 100000
set_option maxHeartbeats 2000000
namespace Dc
open PySem PySem.Spec PyProof.Rows L2
local macro_rules | `(tactic| walk_at "ne") => `(tactic| first | assumption | (refine Ne.symm ?_; assumption) | exact ne_of (by assumption) (by assumption) (by intro q; cases q) | exact ne_of_none (by assumption) (by assumption) | exact Ne.symm (ne_of_none (by assumption) (by assumption)))
local macro_rules | `(tactic| walk_at "hp") => `(tactic| first | assumption | exact upd_same | (refine upd_keep ?_ (by assumption); walk_at "hp") | (refine upd_other ?_ ?_; · walk_at "ne"; · walk_at "hp"))
local macro_rules | `(tactic| walk_at "hl") => `(tactic| first | assumption | exact SqL.of (by walk_at "hp"))
local macro_rules | `(tactic| walk_at "ht") => `(tactic| first | assumption | exact SqT.of (by walk_at "hp"))
local macro_rules | `(tactic| walk_at "rd1") => `(tactic| first
  | ((with_reducible apply rd_var); exact rfl)
  | ((with_reducible apply rd_eq); exact rfl) | ((with_reducible apply rd_ne); exact rfl)
  | with_reducible first
  | refine iteT ?_ | refine iteF ?_ | refine rd_nF ?_ | refine rd_nT ?_ | refine rd_yes ?_ | refine rd_c ?_ | refine rd_op ?_ | refine rd_un ?_ | refine rd_test ?_ | refine rd_B ?_ | refine rd_bl ?_ | refine rd_seq ?_ | refine rd_next ?_ | refine rd_ifs ?_ | refine rd_asg ?_ | refine rd_name ?_ | refine rd_ret ?_ | refine rd_drop ?_
  | refine rd_call ?_ | refine rd_cons ?_ | refine rd_nil ?_ | refine rd_cb ?_ | refine rd_I0 ?_ | refine rd_U ?_ | refine rd_gsub ?_ | refine rd_lst ?_ | refine rd_tup ?_ | refine rd_if ?_ | refine rd_not ?_ | refine rd_rng1 ?_ | refine rd_itup ?_ | refine rd_ilst ?_ | refine rd_bm ?_ | refine rd_bm0 ?_ | refine rd_andV ?_ | refine rd_orV ?_ | refine rd_notV ?_)
local macro_rules | `(tactic| walk_at "rd") => `(tactic| repeat walk_at "rd1")
local macro_rules | `(tactic| walk_at "ci") => `(tactic| first | assumption | (show (0 : Int) < _; first | decide | omega) | exact ⟨by decide, by decide⟩ | exact Or.inr ⟨by decide, by decide⟩ | exact Or.inl ⟨by decide, by decide⟩ | exact ⟨by decide, by decide, by decide⟩ | exact Or.inl ⟨by omega, by omega⟩ | exact Or.inr ⟨by omega, by omega⟩)
local macro_rules | `(tactic| walk_at "ix") => `(tactic| first
  | ((with_reducible apply rd_ixL); (walk_at "hl"); exact rfl)
  | ((with_reducible apply rd_ixT); (walk_at "ht"); exact rfl)
  | ((with_reducible apply rd_lenL); (walk_at "hl"))
  | ((with_reducible apply rd_lenT); (walk_at "ht"))
  | ((with_reducible apply rd_tupOf); (walk_at "hl"))
  | ((with_reducible apply rd_listOf); (walk_at "hl"))
  | (with_reducible refine rd_min2 ?_)
  | ((with_reducible apply rd_I); (walk_at "ci"))
  | ((with_reducible apply rd_setL); (walk_at "hp"); exact rfl))
local macro_rules | `(tactic| walk_at "gs") => `(tactic| repeat first | walk_at "rd1" | walk_at "ix")
local macro_rules | `(tactic| walk_at "go") => `(tactic| repeat first | walk_at "rd1" | walk_at "ix" | with_reducible refine rd_and ?_ | with_reducible refine rd_or ?_)
local macro_rules | `(tactic| walk_at "fo") => `(tactic| (with_reducible refine rd_for ?_))
local macro_rules | `(tactic| walk_at "pm") => `(tactic| repeat first
  | with_reducible first | refine rd_pcons ?_ | refine rd_pstr ?_ | refine rd_pcap ?_ | refine rd_pwild ?_ | refine rd_pnil ?_ | refine rd_por ?_ | refine rd_pno ?_
  | ((with_reducible refine rd_eq rfl ?_); refine ⟨_, rfl, ?_⟩; first | refine rd_T rfl ?_ | refine rd_F (by decide) ?_)
  | dsimp only [List.nil_append, List.singleton_append, List.cons_append, setAll])
local macro_rules | `(tactic| walk_at "pc") => `(tactic| (refine rd_case ?_); (first | (refine rd_phit (SqT.of (by assumption)) rfl ?_) | (refine rd_pmiss (SqT.of (by assumption)) (by simp) ?_)); (walk_at "pm"))

def spIsChain : Sp := fun vs H Q _ => ∃ (p : Addr) (c : Ch), vs = [.ref p] ∧ ChAt H p c ∧ c.ok ∧ c.nm ≤ 4 ∧ c.ns ≤ 12 ∧ ∀ H', Fr [] H H' → Q (.bl true) H'
def spCheck : Sp := fun vs H Q _ => ∃ (p : Addr) (c : Ch), vs = [.ref p] ∧ ChAt H p c ∧ c.ok ∧ c.nm ≤ 4 ∧ c.ns ≤ 12 ∧ ∀ H', Fr [] H H' → Q .non H'
/-- a statement that is not come to -/
theorem ps_dead {X : Cx} {st : Stmt} : PS X st (fun _ _ _ => False) := ⟨fun _ _ _ _ _ _ h => h.elim⟩
abbrev PL := List (Addr × Ch)
def PL.nm (L : PL) : Nat := (L.map fun x => x.2.nm).sum
def PL.ns (L : PL) : Nat := (L.map fun x => x.2.ns).sum
def PL.vs (L : PL) : List V := L.map fun x => V.ref x.1
theorem PL.nm_app (L M : PL) : PL.nm (L ++ M) = PL.nm L + PL.nm M := by unfold PL.nm; rw [List.map_append, List.sum_append]
theorem PL.ns_app (L M : PL) : PL.ns (L ++ M) = PL.ns L + PL.ns M := by unfold PL.ns; rw [List.map_append, List.sum_append]
theorem PL.nm_one (x : Addr × Ch) : PL.nm [x] = x.2.nm := by simp [PL.nm]
theorem PL.ns_one (x : Addr × Ch) : PL.ns [x] = x.2.ns := by simp [PL.ns]
theorem PL.len_le : ∀ L : PL, L.length ≤ PL.nm L
  | [] => Nat.le_refl _
  | x :: L => by
    have h1 := PL.len_le L
    have h2 := x.2.nm_pos
    have := PL.nm_app [x] L
    rw [PL.nm_one] at this
    have e : PL.nm (x :: L) = PL.nm ([x] ++ L) := rfl
    rw [List.length_cons, e, this]
    omega
theorem PL.vs_app (L M : PL) : PL.vs (L ++ M) = PL.vs L ++ PL.vs M := List.map_append
theorem Ch.of_sgs_len (c : Ch) : c.sgs.length = c.len := by
  induction c with
  | mkr m => rfl
  | st c k ih => show (c.sgs ++ [Sg.one k]).length = c.len + 1; rw [List.length_append, ih]; rfl
  | both c o ih _ => show (c.sgs ++ [Sg.both o]).length = c.len + 1; rw [List.length_append, ih]; rfl
  | thn c o ih _ => show (c.sgs ++ [Sg.thn o]).length = c.len + 1; rw [List.length_append, ih]; rfl
section
variable {P : Program} {w : World} {K : PySem.W.Frag} {mg : Str → Option Value} {base : Heap} {J : Cls'} {f f2 : Addr} {fd fd2 : FuncData}
theorem sc_is_chain : FnScope ["chain", "maker_count", "stage_count", "waiting", "part", "stage"] ["chain"] (defScope s_is_chain) := ⟨rfl, rfl, rfl, by decide +kernel, rfl, by decide +kernel, by decide +kernel⟩
theorem ok_is_chain (T : Txt K mg) (F : FnP K "is_chain" "is_chain" s_is_chain f fd) (G_is_pair : Cal P w K mg base CX0 1 "is_pair" ["part"] spIsPair) (G_is_maker : Cal P w K mg base CX0 3 "is_maker" ["maker"] spIsMaker)
    (G_is_stage : Cal P w K mg base CX0 3 "is_stage" ["stage"] spIsStage) (G_has_chain : Cal P w K mg base CX0 1 "has_chain" ["stage"] spHasChain) : FnOk P w K mg base CX0 4 f fd ["chain"] spIsChain := by
  refine ok0 F sc_is_chain (fun vs H Q E h => ?_) (fun cdv A outer s H vs Q E hr h => ?_)
  · obtain ⟨p, c, rfl, _⟩ := h
    rfl
  · obtain ⟨p, c, rfl, hc, hok, hm, hs, k⟩ := h
    refine ⟨_, (pss_cons (ps_set (i := 1) sc_is_chain.nd rfl (Or.inl rfl) pe_int)
  (pss_cons (ps_set (i := 2) sc_is_chain.nd rfl (Or.inl rfl) pe_int)
  (pss_cons (ps_set (i := 3) sc_is_chain.nd rfl (Or.inl rfl) (pe_lst (pa_cons (pv 0) pa_nil)))
  (pss_cons (ps_while PassesOwn.never (pt_truth (pv 3) (by intro _; rfl))
    (pss_cons (ps_set (i := 4) sc_is_chain.nd rfl (Or.inl rfl) (pe_bm0 PySem.F.plainAttrs_list PySem.F.slot_list_pop PySem.F.type_list_pop mt_pop (pv 3)))
    (pss_cons (ps_if (PW.pt (pw_or (pt_not (pt_val (pe_cal G_is_pair (hr.mono (by omega)) pass0 (pa_cons (pv 4) pa_nil)))) (pw_or1 (pt_not (pt_val (pe_cal G_is_maker (hr.mono (by omega)) pass0 (pa_cons (pe_ix (ix_tupK K) (pv 4) pe_int (fun _ _ => rfl)) pa_nil)))))))
      (pss_one (ps_ret pe_bl)) pss_nil)
    (pss_cons (ps_aug (i := 1) sc_is_chain.nd rfl (Or.inl rfl) pe_int ip_add)
    (pss_cons (ps_aug (i := 2) sc_is_chain.nd rfl (Or.inl rfl) (pe_callB (call_len1K K) (by rfl) T.free_len (by decide +kernel) (pa_cons (pe_ix (ix_tupK K) (pv 4) pe_int (fun _ _ => rfl)) pa_nil)) ip_add)
    (pss_cons (ps_if (PW.pt (pw_or (pt_cmpR op_gt (pv 1) (pe_cint T.c_MAKERS_AT_MOST) (nomark _)) (pw_or1 (pt_cmpR op_gt (pv 2) (pe_cint T.c_STAGES_AT_MOST) (nomark _)))))
      (pss_one (ps_ret pe_bl)) pss_nil)
    (pss_one (ps_for PassesOwn.never rfl (pi_tup (pe_ix (ix_tupK K) (pv 4) pe_int (fun _ _ => rfl))) (pg_name (i := 5) sc_is_chain.nd rfl (Or.inl rfl))
      (pss_cons (ps_if (pt_not (pt_val (pe_cal G_is_stage (hr.mono (by omega)) pass0 (pa_cons (pv 5) pa_nil))))
        (pss_one (ps_ret pe_bl)) pss_nil)
      (pss_one (ps_if (pt_val (pe_cal G_has_chain (hr.mono (by omega)) pass0 (pa_cons (pv 5) pa_nil)))
        (pss_one (ps_expr (pe_bm PySem.F.plainAttrs_list PySem.F.slot_list_append PySem.F.type_list_append mt_append (pv 3) (pa_cons (pe_ix (ix_tupK K) (pv 5) pe_int (fun _ _ => rfl)) pa_nil)))) pss_nil)))))))))))
  (pss_one (ps_ret pe_bl)))))), ?_⟩
    try dsimp only [cxOf, Cx.nox, Cx.wish]
    refine rd_at (σ' := [some (.ref p), none, none, none, none, none]) rfl ?_
    walk_at "go"
    refine ⟨by show 1 ≤ sizeLine; decide, fun l hl => ?_⟩
    walk_at "go"
    refine ⟨fun μ σ H' => ∃ (L : PL) (mc sc : Nat) (v1 v2 : Option V), σ = [some (.ref p), some (.int mc), some (.int sc), some (.ref l), v1, v2] ∧ H' l = some (.lst L.vs) ∧ (∀ x ∈ L, ChAt H' x.1 x.2 ∧ x.2.ok) ∧ mc + L.nm = c.nm ∧ sc + L.ns = c.ns ∧ Fr [] H H' ∧ μ = L.nm,
      ⟨c.nm, [(p, c)], 0, 0, none, none, rfl, upd_same, fun x hx => by rw [List.mem_singleton] at hx; subst hx; exact ⟨hc.fr (Fr.new (S := []) hl), hok⟩, by rw [PL.nm_one]; simp, by rw [PL.ns_one]; simp, Fr.new hl, by rw [PL.nm_one]⟩, ?_⟩
    rintro μ σ H' ⟨L, mc, sc, v1, v2, rfl, el, hL, h1, h2, fr, rfl⟩
    walk_at "go"
    rcases List.eq_nil_or_concat L with rfl | ⟨L', x, e⟩
    · refine ⟨false, .inl ⟨_, SqL.of el, rfl⟩, ?_⟩
      walk_at "go"
      exact k _ fr
    · rw [List.concat_eq_append] at e
      subst e
      refine ⟨true, .inl ⟨_, SqL.of el, by rw [PL.vs_app]; simp [PL.vs]⟩, ?_⟩
      rw [PL.nm_app, PL.nm_one] at h1
      rw [PL.ns_app, PL.ns_one] at h2
      obtain ⟨⟨mk, ss, bs, ep, ess, hst⟩, xok⟩ := hL x (by simp)
      have hg := hst.get
      have hxs := Ch.ok_sgs xok
      have xm := x.2.nm_pos
      have xl := x.2.len_le
      have bl : bs.length = x.2.len := by rw [hg.1, Ch.of_sgs_len]
      dsimp only
      refine iteT ?_
      refine ⟨fun σ' H' => ∃ μ', μ' < PL.nm (L' ++ [x]) ∧ _, fun σ' H' z => z, ?_⟩
      walk_at "go"
      refine ⟨.inl ⟨rfl, _, SqL.of el⟩, l, _, .ref x.1, rfl, rfl, el, by rw [PL.vs_app]; simp [PL.vs], ?_⟩
      have el1 : upd H' l (.lst (PL.vs (L' ++ [x])).dropLast) l = some (.lst (PL.vs L')) := by rw [upd_same, PL.vs_app]; simp [PL.vs]
      have f1 : Fr [l] H' (upd H' l (.lst (PL.vs (L' ++ [x])).dropLast)) := Fr.put (by simp) (nt el)
      have fr1 := fr.putN (o := .lst (PL.vs (L' ++ [x])).dropLast) (.inr hl) (nt el)
      have hL1 : ∀ y ∈ L', ChAt (upd H' l (.lst (PL.vs (L' ++ [x])).dropLast)) y.1 y.2 ∧ y.2.ok := fun y hy => ⟨(hL y (by simp [hy])).1.fr f1, (hL y (by simp [hy])).2⟩
      replace ep := f1.tp ep
      replace ess := f1.tp ess
      replace hst := hst.fr f1
      clear hL f1 fr el
      generalize upd H' l (.lst (PL.vs (L' ++ [x])).dropLast) = H1 at *
      walk_at "go"
      refine ⟨x.1, mk, ss, bs, rfl, ep, ess, ?_⟩
      walk_at "go"
      refine ⟨mk, x.2.root, rfl, hst.root, hxs.1, fun H2 f2 => ?_⟩
      replace ep := f2.tp ep
      replace ess := f2.tp ess
      replace hg := (hst.fr f2).get
      have fr2 := fr1.tr f2
      have el2 := f2.at el1 (by simp)
      have hL2 : ∀ y ∈ L', ChAt H2 y.1 y.2 ∧ y.2.ok := fun y hy => ⟨(hL1 y hy).1.fr f2, (hL1 y hy).2⟩
      clear hst f2 fr1 el1 hL1
      walk_at "go"
      refine ⟨_, rfl, ?_⟩
      walk_at "go"
      refine ⟨_, _, rfl, rfl, ?_⟩
      have e1 : (mc : Int) + 1 = ((mc + 1 : Nat) : Int) := by omega
      dsimp only
      rw [e1]
      refine ⟨_, rfl, ?_⟩
      walk_at "go"
      refine ⟨_, _, rfl, rfl, ?_⟩
      have e2 : (sc : Int) + ((bs.map V.ref).length : Nat) = ((sc + x.2.len : Nat) : Int) := by rw [List.length_map, bl]; omega
      dsimp only
      rw [e2]
      refine rd_at (σ' := [some (.ref p), some (.int ((mc + 1 : Nat) : Int)), some (.int ((sc + x.2.len : Nat) : Int)), some (.ref l), some (.ref x.1), v2]) rfl ?_
      walk_at "go"
      refine rd_F (by omega) ?_
      walk_at "go"
      refine rd_F (by omega) ?_
      walk_at "go"
      walk_at "fo"
      walk_at "go"
      have len12 : ∀ {M : PL} {i : Nat}, PL.nm M + 1 = (Ch.of x.2.root (x.2.sgs.take i)).nm → (PL.vs (L' ++ M)).length < sizeLine := fun {M i} h => by
        have q1 := Ch.of_take_nm x.2 i
        have q2 := PL.len_le (L' ++ M)
        rw [PL.nm_app] at q2
        have q3 : (PL.vs (L' ++ M)).length = (L' ++ M).length := List.length_map _
        rw [q3]
        exact Nat.lt_of_le_of_lt (show (L' ++ M).length ≤ 4 by omega) (by decide)
      refine ⟨ss, rfl, ⟨_, SqT.of ess⟩, for_tup (K := K) (a := ss) (xs := bs.map V.ref) (fun i σ H' => ∃ (M : PL) (v : Option V), σ = [some (.ref p), some (.int ((mc + 1 : Nat) : Int)), some (.int ((sc + x.2.len : Nat) : Int)), some (.ref l), some (.ref x.1), v] ∧
        H' l = some (.lst (PL.vs (L' ++ M))) ∧ (∀ y ∈ M, ChAt H2 y.1 y.2 ∧ y.2.ok) ∧ PL.nm M + 1 = (Ch.of x.2.root (x.2.sgs.take i)).nm ∧ PL.ns M + i = (Ch.of x.2.root (x.2.sgs.take i)).ns ∧ Fr [l] H2 H')
        ⟨[], v2, rfl, by rw [List.append_nil]; exact el2, fun y hy => (by cases hy), rfl, rfl, Fr.refl _ _⟩ (fun i σ H' _ ⟨_, _, _, _, _, _, _, fr⟩ => SqT.of (fr.tp ess)) ?_ ?_⟩
      · rintro i y σ H3 hi ⟨M, v, rfl, el3, hM, m1, m2, f3⟩
        obtain ⟨sx, hsx, rfl⟩ : ∃ sx, bs[i]? = some sx ∧ y = .ref sx := by
          rw [List.getElem?_map] at hi
          cases e : bs[i]? with
          | none => rw [e] at hi; cases hi
          | some z => rw [e] at hi; exact ⟨z, rfl, (Option.some.inj hi).symm⟩
        obtain ⟨g, hgi, gat⟩ := hg.2 i sx hsx
        have gok := hxs.2 g (List.mem_of_getElem? hgi)
        have nn := Ch.of_take x.2.root hgi
        walk_at "go"
        refine ⟨sx, g, rfl, gat.fr f3, gok, ?_⟩
        walk_at "go"
        refine ⟨sx, g, rfl, gat.fr f3, fun H4 f4 => ?_⟩
        walk_at "go"
        have f24 := f3.trans f4 (fun b hb => by cases hb)
        have el4 := f4.at el3 (by simp)
        refine rd_b (fun cg => ?_) (fun cg => ?_)
        · obtain ⟨o, q, eq, ho, hok2, gnm, gns⟩ : ∃ (o : Ch) (q : Addr), (∃ nm : Str, H4 sx = some (.tup [.str nm, .ref q])) ∧ ChAt H2 q o ∧ o.ok ∧ g.nm = o.nm ∧ g.ns = o.ns := by
            cases g with
            | one k => cases cg
            | both o => obtain ⟨q, e1, e2⟩ := gat; exact ⟨o, q, ⟨_, f24.tp e1⟩, e2, gok, rfl, rfl⟩
            | thn o => obtain ⟨q, e1, e2⟩ := gat; exact ⟨o, q, ⟨_, f24.tp e1⟩, e2, gok, rfl, rfl⟩
          obtain ⟨nm, eq⟩ := eq
          walk_at "go"
          refine ⟨tyl el4, ?_⟩
          walk_at "go"
          refine rd_append el4 (len12 m1) ?_
          walk_at "go"
          refine ⟨M ++ [(q, o)], _, rfl, ?_, fun y hy => ?_, ?_, ?_, f24.putN (.inl (by simp)) (nt el4)⟩
          · rw [upd_same, ← List.append_assoc, PL.vs_app (L' ++ M)]
            rfl
          · rcases List.mem_append.mp hy with z | z
            · exact hM y z
            · rw [List.mem_singleton] at z
              subst z
              exact ⟨ho, hok2⟩
          · rw [nn, Ch.snoc_nm, PL.nm_app, PL.nm_one, gnm, ← m1]; show _ + o.nm + 1 = _; omega
          · rw [nn, Ch.snoc_ns, PL.ns_app, PL.ns_one, gns, ← m2]; show _ + o.ns + (i + 1) = _; omega
        · obtain ⟨gnm, gns⟩ : g.nm = 0 ∧ g.ns = 0 := by
            cases g with
            | one k => exact ⟨rfl, rfl⟩
            | both o => cases cg
            | thn o => cases cg
          walk_at "go"
          refine ⟨M, _, rfl, el4, hM, ?_, ?_, f24⟩
          · rw [nn, Ch.snoc_nm, gnm, ← m1]
          · rw [nn, Ch.snoc_ns, gns, ← m2]; omega
      · rintro σ H3 ⟨M, v, rfl, el3, hM, m1, m2, f3⟩
        rw [List.length_map, hg.1, List.take_length, Ch.of_sgs] at m1 m2
        rw [Ch.of_sgs_len] at m2
        refine ⟨PL.nm (L' ++ M), ?_, L' ++ M, mc + 1, sc + x.2.len, _, _, rfl, el3, fun y hy => ?_, ?_, ?_, ?_, rfl⟩
        · rw [PL.nm_app, PL.nm_app, PL.nm_one]; omega
        · rcases List.mem_append.mp hy with z | z
          · exact ⟨(hL2 y z).1.fr f3, (hL2 y z).2⟩
          · exact ⟨(hM y z).1.fr f3, (hM y z).2⟩
        · rw [PL.nm_app]; omega
        · rw [PL.ns_app]; omega
        · exact fr2.trans f3 fun b hb => by rw [List.mem_singleton] at hb; rw [hb]; exact .inr hl
theorem sc_check_chain : FnScope ["chain"] ["chain"] (defScope s_check_chain) := ⟨rfl, rfl, rfl, by decide +kernel, rfl, by decide +kernel, by decide +kernel⟩
theorem ok_check_chain (T : Txt K mg) (F : FnP K "check_chain" "check_chain" s_check_chain f fd) (G_is_chain : Cal P w K mg base CX0 4 "is_chain" ["chain"] spIsChain) : FnOk P w K mg base CX0 5 f fd ["chain"] spCheck := by
  refine ok0 F sc_check_chain (fun vs H Q E h => ?_) (fun cdv A outer s H vs Q E hr h => ?_)
  · obtain ⟨p, c, rfl, _⟩ := h
    rfl
  · obtain ⟨p, c, rfl, hc, hok, hm, hs, k⟩ := h
    refine ⟨_, (pss_one (ps_if (pt_not (pt_val (pe_cal G_is_chain (hr.mono (by omega)) pass0 (pa_cons (pv 0) pa_nil))))
    (pss_one ps_dead) pss_nil)), ?_⟩
    try dsimp only [cxOf, Cx.nox, Cx.wish]
    refine rd_at (σ' := [some (.ref p)]) rfl ?_
    walk_at "go"
    refine ⟨p, c, rfl, hc, hok, hm, hs, fun H' f' => ?_⟩
    walk_at "go"
    exact k H' f'
end
end Dc

set_option Elab.async false
set_option linter.all false
set_option maxRecDepth 100000
set_option maxHeartbeats 2000000
namespace Dc
open PySem PySem.Spec PyProof.Rows L2
local macro_rules | `(tactic| walk_at "ne") => `(tactic| first | assumption | (refine Ne.symm ?_; assumption) | exact ne_of (by assumption) (by assumption) (by intro q; cases q) | exact ne_of_none (by assumption) (by assumption) | exact Ne.symm (ne_of_none (by assumption) (by assumption)))
local macro_rules | `(tactic| walk_at "hp") => `(tactic| first | assumption | exact upd_same | (refine upd_keep ?_ (by assumption); walk_at "hp") | (refine upd_other ?_ ?_; · walk_at "ne"; · walk_at "hp"))
local macro_rules | `(tactic| walk_at "hl") => `(tactic| first | assumption | exact SqL.of (by walk_at "hp"))
local macro_rules | `(tactic| walk_at "ht") => `(tactic| first | assumption | exact SqT.of (by walk_at "hp"))
local macro_rules | `(tactic| walk_at "rd1") => `(tactic| first
  | ((with_reducible apply rd_var); exact rfl)
  | ((with_reducible apply rd_eq); exact rfl) | ((with_reducible apply rd_ne); exact rfl)
  | with_reducible first
  | refine iteT ?_ | refine iteF ?_ | refine rd_nF ?_ | refine rd_nT ?_ | refine rd_yes ?_ | refine rd_c ?_ | refine rd_op ?_ | refine rd_un ?_ | refine rd_test ?_ | refine rd_B ?_ | refine rd_bl ?_ | refine rd_seq ?_ | refine rd_next ?_ | refine rd_ifs ?_ | refine rd_asg ?_ | refine rd_name ?_ | refine rd_ret ?_ | refine rd_drop ?_
  | refine rd_call ?_ | refine rd_cons ?_ | refine rd_nil ?_ | refine rd_cb ?_ | refine rd_I0 ?_ | refine rd_U ?_ | refine rd_gsub ?_ | refine rd_lst ?_ | refine rd_tup ?_ | refine rd_if ?_ | refine rd_not ?_ | refine rd_rng1 ?_ | refine rd_itup ?_ | refine rd_ilst ?_ | refine rd_bm ?_ | refine rd_bm0 ?_ | refine rd_andV ?_ | refine rd_orV ?_ | refine rd_notV ?_)
local macro_rules | `(tactic| walk_at "rd") => `(tactic| repeat walk_at "rd1")
local macro_rules | `(tactic| walk_at "ci") => `(tactic| first | assumption | (show (0 : Int) < _; first | decide | omega) | exact ⟨by decide, by decide⟩ | exact Or.inr ⟨by decide, by decide⟩ | exact Or.inl ⟨by decide, by decide⟩ | exact ⟨by decide, by decide, by decide⟩ | exact Or.inl ⟨by omega, by omega⟩ | exact Or.inr ⟨by omega, by omega⟩)
local macro_rules | `(tactic| walk_at "ix") => `(tactic| first
  | ((with_reducible apply rd_ixL); (walk_at "hl"); exact rfl)
  | ((with_reducible apply rd_ixT); (walk_at "ht"); exact rfl)
  | ((with_reducible apply rd_lenL); (walk_at "hl"))
  | ((with_reducible apply rd_lenT); (walk_at "ht"))
  | ((with_reducible apply rd_tupOf); (walk_at "hl"))
  | ((with_reducible apply rd_listOf); (walk_at "hl"))
  | (with_reducible refine rd_min2 ?_)
  | ((with_reducible apply rd_I); (walk_at "ci"))
  | ((with_reducible apply rd_setL); (walk_at "hp"); exact rfl))
local macro_rules | `(tactic| walk_at "gs") => `(tactic| repeat first | walk_at "rd1" | walk_at "ix")
local macro_rules | `(tactic| walk_at "go") => `(tactic| repeat first | walk_at "rd1" | walk_at "ix" | with_reducible refine rd_and ?_ | with_reducible refine rd_or ?_)
local macro_rules | `(tactic| walk_at "fo") => `(tactic| (with_reducible refine rd_for ?_))
local macro_rules | `(tactic| walk_at "pm") => `(tactic| repeat first
  | with_reducible first | refine rd_pcons ?_ | refine rd_pstr ?_ | refine rd_pcap ?_ | refine rd_pwild ?_ | refine rd_pnil ?_ | refine rd_por ?_ | refine rd_pno ?_
  | ((with_reducible refine rd_eq rfl ?_); refine ⟨_, rfl, ?_⟩; first | refine rd_T rfl ?_ | refine rd_F (by decide) ?_)
  | dsimp only [List.nil_append, List.singleton_append, List.cons_append, setAll])
local macro_rules | `(tactic| walk_at "pc") => `(tactic| (refine rd_case ?_); (first | (refine rd_phit (SqT.of (by assumption)) rfl ?_) | (refine rd_pmiss (SqT.of (by assumption)) (by simp) ?_)); (walk_at "pm"))

/-! ### a call of one of several classes' method whose exceptions are caught here -/
def tDynS (Cs : Addr → Prop) (m : Str) (sp : Addr → Sp) (E : L2.St → XK) (ta : TE) : TE := fun σ H Q => ta σ H fun x H1 => ∃ a C dx fs, x = .ref a ∧ Cs C ∧ H1 a = some (.ins C dx fs) ∧ fs.lookup m = none ∧ sp C [.ref a] H1 Q (E σ)
theorem rd_dynS {σ : L2.St} {H : Hp} {Q : VK} {m : Str} {ta : TE} {E : L2.St → XK} {Cs : Addr → Prop} {sp : Addr → Sp} (h : ta σ H fun x H1 => ∃ a C dx fs, x = .ref a ∧ Cs C ∧ H1 a = some (.ins C dx fs) ∧ fs.lookup m = none ∧ sp C [.ref a] H1 Q (E σ)) : tDynS Cs m sp E ta σ H Q := h
theorem pe_dyn0S {X : Cx} {CX : CXT} {k : Nat} {m : Str} {ps : List Str} {E : L2.St → XK} {o : Expr} {ta : TE} {pos apos : Pos} {Cs : Addr → Prop} {sp : Addr → Sp} {pl : Sem Bool} (he : PE X o ta) (G : ∀ C, Cs C → CalM X.prog X.w X.K X.mg X.base CX k C m ps (sp C)) (hr : Room k X.A) (hx : ∀ σ, PassesAt CX X σ (E σ))
    (ht : eval (.Call (.Attribute o m apos) [] [] pos) X.env = (do
      let ov ← eval o X.env
      standAt apos.atName
      let (f, first) ← holding [ov] (getMethod ov m pl)
      callWith pos f first (backTo pos (starEach [] X.env)) (backToKw pos (keywordEach [] X.env))) := by rfl) :
    PE X (.Call (.Attribute o m apos) [] [] pos) (tDynS Cs m sp E ta) := by
  refine ⟨fun pins s σ H Q I h => ?_⟩
  refine PySem.W.methodCall_KW (pl := pl) (thn (he.run pins s σ H _ I h) fun u s1 ⟨x, H1, I1, rx, a, C, dx, fs, ex, hC, ea, l, q⟩ => ?_) ht
  subst ex
  obtain rfl : u = Value.ref a := rx
  obtain ⟨f, fd, F, b, hm, c⟩ := G C hC
  refine getmeth_ok I1 ea c hm l ?_
  exact PySem.W.callWith_K0 (first := [.ref a]) I1.kIn hm.kp (run_fnS (us := [.ref a]) (vs := [.ref a]) F hr b (hx σ) I1 (.cons rfl .nil) q)
/-! ### the drawer -/
structure DrF (K : PySem.W.Frag) (J : Cls') : Prop where
  c : Cls K J.drawer
  meter : NoAttr K J.drawer "_meter"
  last : NoAttr K J.drawer "_last"
  back : NoAttr K J.drawer "_back"
  stopped : NoAttr K J.drawer "_stopped"
structure DrS where
  me : Addr
  cs : Addr
  lo : Addr
  da : Addr
  bk : Addr
  t : Tr
def DrS.ads (D : DrS) : List Addr := (D.t.ads ++ [D.me, D.cs, D.lo]) ++ [D.da, D.bk]
/-- what of it may change: a drawer that has stopped needs its tree no more -/
def DrS.lads (D : DrS) (s : Bool) : List Addr := (if s = true then [D.me, D.cs, D.lo] else D.t.ads ++ [D.me, D.cs, D.lo]) ++ [D.da, D.bk]
structure DrAt (J : Cls') (H : Hp) (D : DrS) (x : Nd) (m : Mt) (st : Bool) (bs : List Int) : Prop where
  ob : ∃ dx, H D.da = some (.ins J.drawer dx [("_meter", .ref D.me), ("_last", .ref D.t.ad), ("_back", .ref D.bk), ("_stopped", .bl st)])
  bk : H D.bk = some (.lst (bs.map .int))
  mt : MetAt J H D.me D.cs D.lo m x.gv
  nd : st = false → NdAt J H D.me 0 x D.t
  sep : Sep D.me D.cs D.lo D.t
  n1 : D.da ∉ D.t.ads ++ [D.me, D.cs, D.lo]
  n2 : D.bk ∉ D.t.ads ++ [D.me, D.cs, D.lo]
def Rs.isLong : Rs → Bool
  | .long => true
  | _ => false
def Rs.vals : Rs → List V
  | .num n => [.str "number", .int n]
  | .fin => [.str "end"]
  | .long => [.str "long"]
def NextR (x : Nd) (m : Mt) (st : Bool) (bs : List Int) (r : Rs) (x' : Nd) (m' : Mt) (st' : Bool) (bs' : List Int) : Prop :=
  (∃ b v, bs = b ++ [v] ∧ r = .num v ∧ x' = x ∧ m' = m ∧ st' = st ∧ bs' = b) ∨ (bs = [] ∧ st = true ∧ r = .long ∧ x' = x ∧ m' = m ∧ st' = true ∧ bs' = []) ∨
  (bs = [] ∧ st = false ∧ (∃ f, draw f x { m with book := 0 } = some (r, x', m')) ∧ st' = r.isLong ∧ bs' = [])
def spNext (J : Cls') (d : Nat) : Sp := fun vs H Q _ => ∃ (D : DrS) (x : Nd) (m : Mt) (st : Bool) (bs : List Int) (r : Rs) (x' : Nd) (m' : Mt) (st' : Bool) (bs' : List Int), vs = [.ref D.da] ∧ DrAt J H D x m st bs ∧ x.inv ∧ x.dep ≤ d ∧ m.lost.length + x.alive ≤ 1000 ∧
  NextR x m st bs r x' m' st' bs' ∧ ∀ H' q, H' q = some (.tup r.vals) → DrAt J H' D x' m' st' bs' → Fr (D.lads st) H H' → Q (.ref q) H'
section
variable {P : Program} {w : World} {K : PySem.W.Frag} {mg : Str → Option Value} {base : Heap} {J : Cls'} {f f2 : Addr} {fd fd2 : FuncData}
theorem DrAt.fresh {H : Hp} {D : DrS} {x : Nd} {m : Mt} {st : Bool} {bs : List Int} {p : Addr} {o : HO} (h : DrAt J H D x m st bs) (n : H p = none) : DrAt J (upd H p o) D x m st bs := by
  obtain ⟨⟨dx, e⟩, h1, h2, h3, h4, h5, h6⟩ := h
  exact ⟨⟨dx, upd_keep e n⟩, upd_keep h1 n, h2.fresh n, fun z => (h3 z).fr (Fr.new (S := []) n) (fun b hb q => by cases q), h4, h5, h6⟩
theorem DrAt.back {H : Hp} {D : DrS} {x : Nd} {m : Mt} {st : Bool} {bs bs' : List Int} (h : DrAt J H D x m st bs) : DrAt J (upd H D.bk (.lst (bs'.map .int))) D x m st bs' := by
  obtain ⟨⟨dx, e⟩, h1, h2, h3, h4, h5, h6⟩ := h
  have n1 := h6
  simp only [List.mem_append, List.mem_cons, List.not_mem_nil, or_false, not_or] at n1
  exact ⟨⟨dx, upd_other (ne_of e h1 (by intro q; cases q)) e⟩, upd_same, h2.put ⟨n1.2.1, n1.2.2.1, n1.2.2.2⟩, fun z => (h3 z).fr (Fr.put (S := [D.bk]) (by simp) (nt h1)) (fun b hb q => by rw [List.mem_singleton] at q; rw [q] at hb; exact n1.1 hb), h4, h5, h6⟩
theorem sc_Drawer_next : FnScope ["self", "number"] ["self"] (defScope s_Drawer_next) := ⟨rfl, rfl, rfl, by decide +kernel, rfl, by decide +kernel, by decide +kernel⟩
theorem ok_Drawer_next {d : Nat} (T : Txt K mg) (Z : DrF K J) (L : LongF K mg J) (hx : PySem.W.exmOne K (.ref J.long) (.ref J.long) = some true) (F : FnP K "next" "Drawer.next" s_Drawer_next f fd)
    (G_begin : CalM P w K mg base CX0 1 J.meter "begin_next" ["self"] (spBegin J))
    (G_draw : ∀ C, DrawC J C → CalM P w K mg base (L2.CX P w) (2 * d + 2) C "draw" ["self"] (spDraw J d C)) :
    FnOk P w K mg base CX0 (2 * d + 3) f fd ["self"] (spNext J d) := by
  refine ok0 F sc_Drawer_next (fun vs H Q E h => ?_) (fun cdv A outer s H vs Q E hr h => ?_)
  · obtain ⟨D, x, m, st, bs, r, x', m', st', bs', rfl, _⟩ := h
    rfl
  · obtain ⟨D, x, m, st, bs, r, x', m', st', bs', rfl, G, hinv, hdep, hal, hN, k⟩ := h
    obtain ⟨dx, e⟩ := G.ob
    have eb := G.bk
    refine ⟨_, (pss_cons (ps_if (pt_truth (pe_fld (pv 0) rfl) (by intro _; rfl))
    (pss_one (ps_ret (pe_tup (pa_cons pe_str (pa_cons (pe_bm0 PySem.F.plainAttrs_list PySem.F.slot_list_pop PySem.F.type_list_pop mt_pop (pe_fld (pv 0) rfl)) pa_nil))))) pss_nil)
  (pss_cons (ps_if (pt_val (pe_fld (pv 0) rfl))
    (pss_one (ps_ret (pe_tup (pa_cons pe_str pa_nil)))) pss_nil)
  (pss_cons (ps_expr (pe_cm0 (pe_fld (pv 0) rfl) G_begin (hr.mono (by omega)) pass0))
  (pss_cons (ps_try_only (tb := fun W => tAsg (tDynS (DrawC J) "draw" (spDraw J d) (WE W) (tFld K (tVar 0) "_last")) (gName 1)) (ts := fun _ _ _ => tSeq (sFld K (tVar 0) (tC (.bl true)) "_stopped") (tRet (tTup (tCons (tC (.str "long")) tNil)))) (Wout := fun _ _ _ _ => False) rfl rfl ⟨rfl, by decide, Or.inl L.g⟩ takes0 (fun W pn xe tk _ => pss_one (ps_set (i := 1) sc_Drawer_next.nd rfl (Or.inl rfl) (pe_dyn0S (pe_fld (pv 0) rfl) G_draw (hr.mono (by omega)) (fun σ => passAt tk σ)))) (fun _ _ _ _ _ _ _ => pss_cons (ps_fld (pv 0) pe_bl rfl) (pss_one (ps_ret (pe_tup (pa_cons pe_str pa_nil))))))
  (pss_cons (ps_if (pt_cmpR op_isN (pv 1) pe_non (nomark _))
    (pss_one (ps_ret (pe_tup (pa_cons pe_str pa_nil)))) pss_nil)
  (pss_one (ps_ret (pe_tup (pa_cons pe_str (pa_cons (pv 1) pa_nil)))))))))), ?_⟩
    try dsimp only [cxOf, Cx.nox, Cx.wish]
    refine rd_at (σ' := [some (.ref D.da), none]) rfl ?_
    walk_at "go"
    refine rd_sf rfl e Z.c Z.back rfl ?_
    have nme : ∀ b, b ∈ D.t.ads → b ∉ [D.me] := fun b hb z => by
      rw [List.mem_singleton] at z
      exact G.sep.hme (z ▸ hb)
    have dm : D.da ∉ [D.me] := fun z => G.n1 (List.mem_append_right _ (by rw [List.mem_singleton] at z; simp [z]))
    have bm : D.bk ∉ [D.me] := fun z => G.n2 (List.mem_append_right _ (by rw [List.mem_singleton] at z; simp [z]))
    rcases hN with ⟨b, v, rfl, rfl, rfl, rfl, rfl, rfl⟩ | ⟨rfl, rfl, rfl, rfl, rfl, rfl, rfl⟩ | ⟨rfl, rfl, ⟨f, hd⟩, rfl, rfl⟩
    · refine ⟨true, .inl ⟨_, SqL.of eb, by simp⟩, ?_⟩
      walk_at "go"
      refine rd_sf rfl e Z.c Z.back rfl ?_
      refine ⟨tyl eb, D.bk, _, .int v, rfl, rfl, eb, by simp, ?_⟩
      walk_at "go"
      refine ⟨by show 2 ≤ sizeLine; decide, fun q hq => ?_⟩
      have G1 := G.back (bs' := bs')
      have e1 : ((bs' ++ [v]).map V.int).dropLast = bs'.map V.int := by simp
      rw [e1] at hq ⊢
      exact k _ q upd_same (G1.fresh hq) ((Fr.put (by simp [DrS.lads]) (nt eb)).newN hq)
    · refine ⟨false, .inl ⟨_, SqL.of eb, rfl⟩, ?_⟩
      walk_at "go"
      refine rd_sf rfl e Z.c Z.stopped rfl ?_
      walk_at "go"
      refine ⟨by show 1 ≤ sizeLine; decide, fun q hq => ?_⟩
      exact k _ q upd_same (G.fresh hq) (Fr.new hq)
    · refine ⟨false, .inl ⟨_, SqL.of eb, rfl⟩, ?_⟩
      walk_at "go"
      refine rd_sf rfl e Z.c Z.stopped rfl ?_
      walk_at "go"
      refine rd_meth ?_
      refine rd_sf rfl e Z.c Z.meter rfl ?_
      obtain ⟨⟨dm0, em⟩, _, _⟩ := id G.mt
      refine rd_m em rfl ?_
      walk_at "go"
      refine ⟨D.me, D.cs, D.lo, m, x.gv, rfl, G.mt, G.sep.n1, G.sep.n2, G.sep.n3, fun H1 M1 f1 => ?_⟩
      have e1 := f1.at e dm
      have eb1 := f1.at eb bm
      have nd1 := (G.nd rfl).fr f1 nme
      walk_at "go"
      refine rd_dynS ?_
      refine rd_sf rfl e1 Z.c Z.last rfl ?_
      obtain ⟨dc, fc, ec, lc⟩ := nd1.obj
      refine rd_d (x.cls_draw J) ec lc ?_
      have fall : ∀ {H'}, Fr (D.t.ads ++ [D.me, D.cs, D.lo]) H1 H' → Fr (D.lads false) H H' := fun {H'} f' => (f1.mono fun b hb => by show b ∈ D.ads; rw [List.mem_singleton] at hb; simp [DrS.ads, hb]).tr (f'.mono fun b hb => by show b ∈ D.ads; exact List.mem_append_left _ hb)
      refine ⟨D.me, D.cs, D.lo, [], [], D.t, x, { m with book := 0 }, f, r, x', m', rfl, rfl, hd, ⟨G.sep, nd1, by simpa using M1, hinv, hdep, Nat.zero_le _, hal, fun n hn H' nd' mt' f' => ?_, fun hn H' nd' mt' f' => ?_, fun hn H' mt' f' => ?_⟩⟩
      · subst hn
        walk_at "go"
        refine ⟨rfl, ?_⟩
        walk_at "go"
        refine rd_F (fun z => by cases z) ?_
        walk_at "go"
        refine ⟨by show 2 ≤ sizeLine; decide, fun q hq => ?_⟩
        have G2 : DrAt J H' D x' m' false [] := ⟨⟨dx, f'.at e1 G.n1⟩, f'.at eb1 G.n2, by simpa using mt', fun _ => nd', G.sep, G.n1, G.n2⟩
        exact k _ q upd_same (G2.fresh hq) ((fall f').newN hq)
      · subst hn
        walk_at "go"
        refine ⟨rfl, ?_⟩
        walk_at "go"
        refine rd_T rfl ?_
        walk_at "go"
        refine ⟨by show 1 ≤ sizeLine; decide, fun q hq => ?_⟩
        have G2 : DrAt J H' D x' m' false [] := ⟨⟨dx, f'.at e1 G.n1⟩, f'.at eb1 G.n2, by simpa using mt', fun _ => nd', G.sep, G.n1, G.n2⟩
        exact k _ q upd_same (G2.fresh hq) ((fall f').newN hq)
      · subst hn
        refine ⟨true, hx, fun _ a ha => ?_, fun z => by cases z⟩
        have e2 := f'.at e1 G.n1
        have eb2 := f'.at eb1 G.n2
        walk_at "go"
        refine rd_fset ?_
        walk_at "go"
        refine rd_st e2 Z.c Z.stopped (by show 4 < 1000; omega) ?_
        walk_at "go"
        refine ⟨by show 1 ≤ sizeLine; decide, fun q hq => ?_⟩
        have nb : D.bk ≠ D.da := ne_of eb2 e2 (by intro q; cases q)
        have n1 := G.n1
        simp only [List.mem_append, List.mem_cons, List.not_mem_nil, or_false, not_or] at n1
        have G2 : DrAt J (upd H' D.da (.ins J.drawer dx (putF "_stopped" (.bl true) [("_meter", .ref D.me), ("_last", .ref D.t.ad), ("_back", .ref D.bk), ("_stopped", .bl false)]))) D x' m' true [] :=
          ⟨⟨dx, upd_same.trans rfl⟩, upd_other nb eb2, (by simpa using mt' : MetAt J H' D.me D.cs D.lo m' x'.gv).put ⟨n1.2.1, n1.2.2.1, n1.2.2.2⟩, fun z => (by cases z), G.sep, G.n1, G.n2⟩
        exact k _ q upd_same (G2.fresh hq) (((fall f').putN (.inl (by show D.da ∈ D.ads; simp [DrS.ads])) (nt e2)).newN hq)
end
end Dc

set_option Elab.async false
set_option linter.all false
set_option maxRecDepth 100000
set_option maxHeartbeats 2000000
namespace Dc
open PySem PySem.Spec PyProof.Rows L2
local macro_rules | `(tactic| walk_at "ne") => `(tactic| first | assumption | (refine Ne.symm ?_; assumption) | exact ne_of (by assumption) (by assumption) (by intro q; cases q) | exact ne_of_none (by assumption) (by assumption) | exact Ne.symm (ne_of_none (by assumption) (by assumption)))
local macro_rules | `(tactic| walk_at "hp") => `(tactic| first | assumption | exact upd_same | (refine upd_keep ?_ (by assumption); walk_at "hp") | (refine upd_other ?_ ?_; · walk_at "ne"; · walk_at "hp"))
local macro_rules | `(tactic| walk_at "hl") => `(tactic| first | assumption | exact SqL.of (by walk_at "hp"))
local macro_rules | `(tactic| walk_at "ht") => `(tactic| first | assumption | exact SqT.of (by walk_at "hp"))
local macro_rules | `(tactic| walk_at "rd1") => `(tactic| first
  | ((with_reducible apply rd_var); exact rfl)
  | ((with_reducible apply rd_eq); exact rfl) | ((with_reducible apply rd_ne); exact rfl)
  | with_reducible first
  | refine iteT ?_ | refine iteF ?_ | refine rd_nF ?_ | refine rd_nT ?_ | refine rd_yes ?_ | refine rd_c ?_ | refine rd_op ?_ | refine rd_un ?_ | refine rd_test ?_ | refine rd_B ?_ | refine rd_bl ?_ | refine rd_seq ?_ | refine rd_next ?_ | refine rd_ifs ?_ | refine rd_asg ?_ | refine rd_name ?_ | refine rd_ret ?_ | refine rd_drop ?_
  | refine rd_call ?_ | refine rd_cons ?_ | refine rd_nil ?_ | refine rd_cb ?_ | refine rd_I0 ?_ | refine rd_U ?_ | refine rd_gsub ?_ | refine rd_lst ?_ | refine rd_tup ?_ | refine rd_if ?_ | refine rd_not ?_ | refine rd_rng1 ?_ | refine rd_itup ?_ | refine rd_ilst ?_ | refine rd_bm ?_ | refine rd_bm0 ?_ | refine rd_andV ?_ | refine rd_orV ?_ | refine rd_notV ?_)
local macro_rules | `(tactic| walk_at "rd") => `(tactic| repeat walk_at "rd1")
local macro_rules | `(tactic| walk_at "ci") => `(tactic| first | assumption | (show (0 : Int) < _; first | decide | omega) | exact ⟨by decide, by decide⟩ | exact Or.inr ⟨by decide, by decide⟩ | exact Or.inl ⟨by decide, by decide⟩ | exact ⟨by decide, by decide, by decide⟩ | exact Or.inl ⟨by omega, by omega⟩ | exact Or.inr ⟨by omega, by omega⟩)
local macro_rules | `(tactic| walk_at "ix") => `(tactic| first
  | ((with_reducible apply rd_ixL); (walk_at "hl"); exact rfl)
  | ((with_reducible apply rd_ixT); (walk_at "ht"); exact rfl)
  | ((with_reducible apply rd_lenL); (walk_at "hl"))
  | ((with_reducible apply rd_lenT); (walk_at "ht"))
  | ((with_reducible apply rd_tupOf); (walk_at "hl"))
  | ((with_reducible apply rd_listOf); (walk_at "hl"))
  | (with_reducible refine rd_min2 ?_)
  | ((with_reducible apply rd_I); (walk_at "ci"))
  | ((with_reducible apply rd_setL); (walk_at "hp"); exact rfl))
local macro_rules | `(tactic| walk_at "gs") => `(tactic| repeat first | walk_at "rd1" | walk_at "ix")
local macro_rules | `(tactic| walk_at "go") => `(tactic| repeat first | walk_at "rd1" | walk_at "ix" | with_reducible refine rd_and ?_ | with_reducible refine rd_or ?_)
local macro_rules | `(tactic| walk_at "fo") => `(tactic| (with_reducible refine rd_for ?_))
local macro_rules | `(tactic| walk_at "pm") => `(tactic| repeat first
  | with_reducible first | refine rd_pcons ?_ | refine rd_pstr ?_ | refine rd_pcap ?_ | refine rd_pwild ?_ | refine rd_pnil ?_ | refine rd_por ?_ | refine rd_pno ?_
  | ((with_reducible refine rd_eq rfl ?_); refine ⟨_, rfl, ?_⟩; first | refine rd_T rfl ?_ | refine rd_F (by decide) ?_)
  | dsimp only [List.nil_append, List.singleton_append, List.cons_append, setAll])
local macro_rules | `(tactic| walk_at "pc") => `(tactic| (refine rd_case ?_); (first | (refine rd_phit (SqT.of (by assumption)) rfl ?_) | (refine rd_pmiss (SqT.of (by assumption)) (by simp) ?_)); (walk_at "pm"))

def spDInit (J : Cls') : Sp := fun vs H Q _ => ∃ (x dx p : Addr) (c : Ch), vs = [.ref x, .ref p] ∧ H x = some (.ins J.drawer dx []) ∧ ChAt H p c ∧ c.ok ∧ c.nm ≤ 4 ∧ c.ns ≤ 12 ∧
  ∀ H' D, D.da = x → DrAt J H' D c.nd ⟨200, []⟩ false [] → (∀ b, b ∈ D.ads → b = x ∨ H b = none) → Fr [x] H H' → Q .non H'
def spDrawnP (J : Cls') : Sp := fun vs H Q _ => ∃ (D : DrS) (x : Nd) (m : Mt) (st : Bool) (bs : List Int), vs = [.ref D.da] ∧ DrAt J H D x m st bs ∧
  ∀ H' q, H' q = some (.lst (x.gv.map V.int)) → H q = none → DrAt J H' D x m st bs → Fr [] H H' → Q (.ref q) H'
def spUndoneP (J : Cls') : Sp := fun vs H Q _ => ∃ (D : DrS) (x : Nd) (m : Mt) (st : Bool) (bs : List Int), vs = [.ref D.da] ∧ DrAt J H D x m st bs ∧
  ∀ H' q, H' q = some (.lst (m.lost.map V.int)) → H q = none → DrAt J H' D x m st bs → Fr [] H H' → Q (.ref q) H'
def spPut (J : Cls') : Sp := fun vs H Q _ => ∃ (D : DrS) (x : Nd) (m : Mt) (st : Bool) (bs : List Int) (n : Int), vs = [.ref D.da, .int n] ∧ DrAt J H D x m st bs ∧ bs.length ≤ 1000000 ∧
  ∀ H', DrAt J H' D x m st (bs ++ [n]) → Fr [D.bk] H H' → Q .non H'
section
variable {P : Program} {w : World} {K : PySem.W.Frag} {mg : Str → Option Value} {base : Heap} {J : Cls'} {f f2 : Addr} {fd fd2 : FuncData}
theorem nocon {H : Hp} {b : Addr} {o : HO} (h : H b = none) (h' : H b = some o) : False := by rw [h] at h'; cases h'
theorem none_upd {H : Hp} {p b : Addr} {o : HO} (h : upd H p o b = none) : b ≠ p ∧ H b = none := by
  have n : b ≠ p := fun z => by rw [z, upd_same] at h; cases h
  rw [upd_ne n] at h
  exact ⟨n, h⟩
theorem sc_Drawer_drawn : FnScope ["self"] ["self"] (defScope s_Drawer_drawn) := ⟨rfl, rfl, rfl, by decide +kernel, rfl, by decide +kernel, by decide +kernel⟩
theorem ok_Drawer_drawn (T : Txt K mg) (Z : DrF K J) (M : MetF K J) (F : FnP K "drawn" "Drawer.drawn" s_Drawer_drawn f fd) : FnOk P w K mg base CX0 1 f fd ["self"] (spDrawnP J) := by
  refine ok0 F sc_Drawer_drawn (fun vs H Q E h => ?_) (fun cdv A outer s H vs Q E hr h => ?_)
  · obtain ⟨D, x, m, st, bs, rfl, _⟩ := h
    rfl
  · obtain ⟨D, x, m, st, bs, rfl, G, k⟩ := h
    obtain ⟨dx, e⟩ := G.ob
    obtain ⟨⟨dm, em⟩, e1, e2⟩ := id G.mt
    refine ⟨_, (pss_one (ps_ret (pe_callTy (call_listOfK K) (by rfl) T.free_list (by decide +kernel) (pa_cons (pe_fld (pe_fld (pv 0) rfl) rfl) pa_nil)))), ?_⟩
    try dsimp only [cxOf, Cx.nox, Cx.wish]
    refine rd_at (σ' := [some (.ref D.da)]) rfl ?_
    walk_at "go"
    refine rd_fld ?_
    refine rd_sf rfl e Z.c Z.meter rfl ?_
    refine ⟨D.me, J.meter, dm, _, _, rfl, em, M.c, M.counts, rfl, ?_⟩
    walk_at "go"
    intro q hq
    exact k _ q upd_same hq (G.fresh hq) (Fr.new hq)
theorem sc_Drawer___init__ : FnScope ["self", "chain"] ["self", "chain"] (defScope s_Drawer___init__) := ⟨rfl, rfl, rfl, by decide +kernel, rfl, by decide +kernel, by decide +kernel⟩
theorem ok_Drawer___init__ (T : Txt K mg) (Z : DrF K J) (F : FnP K "__init__" "Drawer.__init__" s_Drawer___init__ f fd) (G_check_chain : Cal P w K mg base CX0 5 "check_chain" ["chain"] spCheck)
    (I_Meter : CalI P w K mg base CX0 1 "Meter" J.meter ["self"] (spMInit J)) (G_chain_end : Cal P w K mg base CX0 13 "chain_end" ["chain", "meter"] (spEnd J 4)) : FnOk P w K mg base CX0 14 f fd ["self", "chain"] (spDInit J) := by
  refine ok0 F sc_Drawer___init__ (fun vs H Q E h => ?_) (fun cdv A outer s H vs Q E hr h => ?_)
  · obtain ⟨x, dx, p, c, rfl, _⟩ := h
    rfl
  · obtain ⟨x, dx, p, c, rfl, e, hc, hok, hm, hs, k⟩ := h
    refine ⟨_, (pss_cons (ps_expr (pe_cal G_check_chain (hr.mono (by omega)) pass0 (pa_cons (pv 1) pa_nil)))
  (pss_cons (ps_fld (pv 0) (pe_mk0 I_Meter (hr.mono (by omega)) pass0) rfl)
  (pss_cons (ps_fld (pv 0) (pe_cal G_chain_end (hr.mono (by omega)) pass0 (pa_cons (pv 1) (pa_cons (pe_fld (pv 0) rfl) pa_nil))) rfl)
  (pss_cons (ps_fld (pv 0) (pe_lst pa_nil) rfl)
  (pss_one (ps_fld (pv 0) pe_bl rfl)))))), ?_⟩
    try dsimp only [cxOf, Cx.nox, Cx.wish]
    refine rd_at (σ' := [some (.ref x), some (.ref p)]) rfl ?_
    walk_at "go"
    refine ⟨p, c, rfl, hc, hok, hm, hs, fun H1 f1 => ?_⟩
    have e1 := f1.at e (by simp)
    replace hc := hc.fr f1
    walk_at "go"
    refine rd_fset ?_
    refine rd_make ?_
    walk_at "go"
    intro me dm hme hdm nd
    have hme' : upd H1 dm (.own me) me = none := by rw [upd_ne nd.symm]; exact hme
    refine ⟨me, dm, rfl, upd_same, fun H2 cs lo M n1 n2 n3 hcs hlo f2 => ⟨rfl, ?_⟩⟩
    have f12 : Fr [] H1 H2 := ((Fr.new hdm).newN hme').trans f2 fun b hb => by rw [List.mem_singleton] at hb; rw [hb]; exact .inr hme
    have e2 := f12.at e1 (by simp)
    replace hc := hc.fr f12
    have nxm : x ≠ me := fun z => by rw [z, hme] at e1; cases e1
    have nxc : x ≠ cs := ne_of e2 M.2.1 (by intro q; cases q)
    have nxl : x ≠ lo := ne_of e2 M.2.2 (by intro q; cases q)
    have fH2 : Fr [] H H2 := f1.tr f12
    walk_at "go"
    refine rd_st e2 Z.c Z.meter (by show 0 < 1000; omega) ?_
    have e3 : upd H2 x (.ins J.drawer dx [("_meter", .ref me)]) x = some (.ins J.drawer dx [("_meter", .ref me)]) := upd_same
    have M3 := M.put (o := .ins J.drawer dx [("_meter", .ref me)]) ⟨nxm, nxc, nxl⟩
    have f3 : Fr [x] H2 (upd H2 x (.ins J.drawer dx [("_meter", .ref me)])) := Fr.put (by simp) (nt e2)
    dsimp only
    refine rd_fset ?_
    walk_at "go"
    refine rd_sf rfl e3 Z.c Z.meter rfl ?_
    walk_at "go"
    refine ⟨p, me, cs, lo, ⟨200, []⟩, [], c, rfl, hc.fr f3, hok, hm, M3, n1, n2, n3, by show 0 + c.nm ≤ 1000; omega, fun H4 t nt4 M4 ft dj f4 => ?_⟩
    have e4 := f4.at e3 (by simpa using nxc)
    walk_at "go"
    refine rd_st e4 Z.c Z.last (by show 1 < 1000; omega) ?_
    have e5 : upd H4 x (.ins J.drawer dx [("_meter", .ref me), ("_last", .ref t.ad)]) x = some (.ins J.drawer dx [("_meter", .ref me), ("_last", .ref t.ad)]) := upd_same
    dsimp only
    refine rd_fset ?_
    walk_at "go"
    refine ⟨Nat.zero_le _, fun bk hbk => ?_⟩
    have hbk : upd H4 x (.ins J.drawer dx [("_meter", .ref me), ("_last", .ref t.ad)]) bk = none := hbk
    walk_at "go"
    refine rd_st (upd_keep e5 hbk) Z.c Z.back (by show 2 < 1000; omega) ?_
    have nbx : x ≠ bk := ne_of_none e5 hbk
    have e6 : upd (upd (upd H4 x (.ins J.drawer dx [("_meter", .ref me), ("_last", .ref t.ad)])) bk (.lst [])) x (.ins J.drawer dx [("_meter", .ref me), ("_last", .ref t.ad), ("_back", .ref bk)]) x = some (.ins J.drawer dx [("_meter", .ref me), ("_last", .ref t.ad), ("_back", .ref bk)]) := upd_same
    dsimp only
    refine rd_fset ?_
    walk_at "go"
    refine rd_st e6 Z.c Z.stopped (by show 3 < 1000; omega) ?_
    obtain ⟨nbk, hbk4⟩ := none_upd hbk
    have xt : x ∉ t.ads := fun z => nocon (ft x z) e3
    have bt : bk ∉ t.ads := fun z => by
      obtain ⟨C, d', fs, q⟩ := nt4.ins bk z
      exact nocon hbk4 q
    obtain ⟨⟨dm3, em3⟩, ec3, el3⟩ := id M3
    have S : Sep me cs lo t := ⟨dj, fun z => nocon (ft _ z) em3, fun z => nocon (ft _ z) ec3, fun z => nocon (ft _ z) el3, n1, n2, n3⟩
    obtain ⟨⟨dm4, em4⟩, ec4, el4⟩ := id M4
    have nb : bk ≠ me ∧ bk ≠ cs ∧ bk ≠ lo := ⟨(ne_of_none em4 hbk4).symm, (ne_of_none ec4 hbk4).symm, (ne_of_none el4 hbk4).symm⟩
    have f4' : Fr [x] H4 (upd (upd (upd (upd H4 x (.ins J.drawer dx [("_meter", .ref me), ("_last", .ref t.ad)])) bk (.lst [])) x (.ins J.drawer dx [("_meter", .ref me), ("_last", .ref t.ad), ("_back", .ref bk)])) x (.ins J.drawer dx [("_meter", .ref me), ("_last", .ref t.ad), ("_back", .ref bk), ("_stopped", .bl false)])) :=
      (((Fr.put (by simp) (nt e4)).newN hbk).putN (.inl (by simp)) (nt (upd_keep e5 hbk))).putN (.inl (by simp)) (nt e6)
    have hcs0 : H cs = none := f1.free (by simp) (none_upd (none_upd hcs).2).2
    have hlo0 : H lo = none := f1.free (by simp) (none_upd (none_upd hlo).2).2
    have hme0 : H me = none := f1.free (by simp) hme
    have f03 := (fH2.mono (S' := [x]) (fun b hb => by cases hb)).tr f3
    have f04 := f03.trans f4 fun b hb => by rw [List.mem_singleton] at hb; rw [hb]; exact .inr hcs0
    have h3 : ∀ b, b ≠ x → upd H2 x (.ins J.drawer dx [("_meter", .ref me)]) b = none → H b = none := fun b nb z => f03.free (by simpa using nb) z
    refine k _ ⟨me, cs, lo, x, bk, t⟩ rfl ⟨⟨dx, upd_same.trans rfl⟩, upd_other nbk (upd_other nbk upd_same), ?_, fun _ => nt4.fr f4' (fun b hb z => ?_), S, ?_, ?_⟩ (fun b hb => ?_) (f04.tr f4')
    · have M4' : MetAt J H4 me cs lo ⟨200, []⟩ c.nd.gv := M4
      exact M4'.fr f4' fun b hb z => by
        rw [List.mem_singleton] at z
        subst z
        simp only [List.mem_cons, List.not_mem_nil, or_false] at hb
        rcases hb with z | z | z
        · exact nxm z
        · exact nxc z
        · exact nxl z
    · rw [List.mem_singleton] at z
      exact xt (z ▸ hb)
    · simp only [List.mem_append, List.mem_cons, List.not_mem_nil, or_false, not_or]
      exact ⟨xt, nxm, nxc, nxl⟩
    · simp only [List.mem_append, List.mem_cons, List.not_mem_nil, or_false, not_or]
      exact ⟨bt, nb.1, nb.2.1, nb.2.2⟩
    · simp only [DrS.ads, List.mem_append, List.mem_cons, List.not_mem_nil, or_false] at hb
      rcases hb with (hb | rfl | rfl | rfl) | rfl | rfl
      · exact .inr (h3 b (fun z => xt (z ▸ hb)) (ft b hb))
      · exact .inr hme0
      · exact .inr hcs0
      · exact .inr hlo0
      · exact .inl rfl
      · refine .inr (h3 _ nbk (f4.free ?_ hbk4))
        simpa using nb.2.1
end
end Dc

set_option Elab.async false
set_option linter.all false
set_option maxRecDepth 100000
set_option maxHeartbeats 2000000
namespace Dc
open PySem PySem.Spec PyProof.Rows L2
local macro_rules | `(tactic| walk_at "ne") => `(tactic| first | assumption | (refine Ne.symm ?_; assumption) | exact ne_of (by assumption) (by assumption) (by intro q; cases q) | exact ne_of_none (by assumption) (by assumption) | exact Ne.symm (ne_of_none (by assumption) (by assumption)))
local macro_rules | `(tactic| walk_at "hp") => `(tactic| first | assumption | exact upd_same | (refine upd_keep ?_ (by assumption); walk_at "hp") | (refine upd_other ?_ ?_; · walk_at "ne"; · walk_at "hp"))
local macro_rules | `(tactic| walk_at "hl") => `(tactic| first | assumption | exact SqL.of (by walk_at "hp"))
local macro_rules | `(tactic| walk_at "ht") => `(tactic| first | assumption | exact SqT.of (by walk_at "hp"))
local macro_rules | `(tactic| walk_at "rd1") => `(tactic| first
  | ((with_reducible apply rd_var); exact rfl)
  | ((with_reducible apply rd_eq); exact rfl) | ((with_reducible apply rd_ne); exact rfl)
  | with_reducible first
  | refine iteT ?_ | refine iteF ?_ | refine rd_nF ?_ | refine rd_nT ?_ | refine rd_yes ?_ | refine rd_c ?_ | refine rd_op ?_ | refine rd_un ?_ | refine rd_test ?_ | refine rd_B ?_ | refine rd_bl ?_ | refine rd_seq ?_ | refine rd_next ?_ | refine rd_ifs ?_ | refine rd_asg ?_ | refine rd_name ?_ | refine rd_ret ?_ | refine rd_drop ?_
  | refine rd_call ?_ | refine rd_cons ?_ | refine rd_nil ?_ | refine rd_cb ?_ | refine rd_I0 ?_ | refine rd_U ?_ | refine rd_gsub ?_ | refine rd_lst ?_ | refine rd_tup ?_ | refine rd_if ?_ | refine rd_not ?_ | refine rd_rng1 ?_ | refine rd_itup ?_ | refine rd_ilst ?_ | refine rd_bm ?_ | refine rd_bm0 ?_ | refine rd_andV ?_ | refine rd_orV ?_ | refine rd_notV ?_)
local macro_rules | `(tactic| walk_at "rd") => `(tactic| repeat walk_at "rd1")
local macro_rules | `(tactic| walk_at "ci") => `(tactic| first | assumption | (show (0 : Int) < _; first | decide | omega) | exact ⟨by decide, by decide⟩ | exact Or.inr ⟨by decide, by decide⟩ | exact Or.inl ⟨by decide, by decide⟩ | exact ⟨by decide, by decide, by decide⟩ | exact Or.inl ⟨by omega, by omega⟩ | exact Or.inr ⟨by omega, by omega⟩)
local macro_rules | `(tactic| walk_at "ix") => `(tactic| first
  | ((with_reducible apply rd_ixL); (walk_at "hl"); exact rfl)
  | ((with_reducible apply rd_ixT); (walk_at "ht"); exact rfl)
  | ((with_reducible apply rd_lenL); (walk_at "hl"))
  | ((with_reducible apply rd_lenT); (walk_at "ht"))
  | ((with_reducible apply rd_tupOf); (walk_at "hl"))
  | ((with_reducible apply rd_listOf); (walk_at "hl"))
  | (with_reducible refine rd_min2 ?_)
  | ((with_reducible apply rd_I); (walk_at "ci"))
  | ((with_reducible apply rd_setL); (walk_at "hp"); exact rfl))
local macro_rules | `(tactic| walk_at "gs") => `(tactic| repeat first | walk_at "rd1" | walk_at "ix")
local macro_rules | `(tactic| walk_at "go") => `(tactic| repeat first | walk_at "rd1" | walk_at "ix" | with_reducible refine rd_and ?_ | with_reducible refine rd_or ?_)
local macro_rules | `(tactic| walk_at "fo") => `(tactic| (with_reducible refine rd_for ?_))
local macro_rules | `(tactic| walk_at "pm") => `(tactic| repeat first
  | with_reducible first | refine rd_pcons ?_ | refine rd_pstr ?_ | refine rd_pcap ?_ | refine rd_pwild ?_ | refine rd_pnil ?_ | refine rd_por ?_ | refine rd_pno ?_
  | ((with_reducible refine rd_eq rfl ?_); refine ⟨_, rfl, ?_⟩; first | refine rd_T rfl ?_ | refine rd_F (by decide) ?_)
  | dsimp only [List.nil_append, List.singleton_append, List.cons_append, setAll])
local macro_rules | `(tactic| walk_at "pc") => `(tactic| (refine rd_case ?_); (first | (refine rd_phit (SqT.of (by assumption)) rfl ?_) | (refine rd_pmiss (SqT.of (by assumption)) (by simp) ?_)); (walk_at "pm"))

section
variable {P : Program} {w : World} {K : PySem.W.Frag} {mg : Str → Option Value} {base : Heap} {J : Cls'} {f f2 : Addr} {fd fd2 : FuncData}
theorem sc_Drawer_undone : FnScope ["self"] ["self"] (defScope s_Drawer_undone) := ⟨rfl, rfl, rfl, by decide +kernel, rfl, by decide +kernel, by decide +kernel⟩
theorem ok_Drawer_undone (T : Txt K mg) (Z : DrF K J) (M : MetF K J) (F : FnP K "undone" "Drawer.undone" s_Drawer_undone f fd) : FnOk P w K mg base CX0 1 f fd ["self"] (spUndoneP J) := by
  refine ok0 F sc_Drawer_undone (fun vs H Q E h => ?_) (fun cdv A outer s H vs Q E hr h => ?_)
  · obtain ⟨D, x, m, st, bs, rfl, _⟩ := h
    rfl
  · obtain ⟨D, x, m, st, bs, rfl, G, k⟩ := h
    obtain ⟨dx, e⟩ := G.ob
    obtain ⟨⟨dm, em⟩, e1, e2⟩ := id G.mt
    refine ⟨_, (pss_one (ps_ret (pe_callTy (call_listOfK K) (by rfl) T.free_list (by decide +kernel) (pa_cons (pe_fld (pe_fld (pv 0) rfl) rfl) pa_nil)))), ?_⟩
    try dsimp only [cxOf, Cx.nox, Cx.wish]
    refine rd_at (σ' := [some (.ref D.da)]) rfl ?_
    walk_at "go"
    refine rd_fld ?_
    refine rd_sf rfl e Z.c Z.meter rfl ?_
    refine ⟨D.me, J.meter, dm, _, _, rfl, em, M.c, M.lost, rfl, ?_⟩
    walk_at "go"
    intro q hq
    exact k _ q upd_same hq (G.fresh hq) (Fr.new hq)
end
end Dc

set_option Elab.async false
set_option linter.all false
set_option maxRecDepth 100000
set_option maxHeartbeats 2000000
namespace Dc
open PySem PySem.Spec PyProof.Rows L2
local macro_rules | `(tactic| walk_at "ne") => `(tactic| first | assumption | (refine Ne.symm ?_; assumption) | exact ne_of (by assumption) (by assumption) (by intro q; cases q) | exact ne_of_none (by assumption) (by assumption) | exact Ne.symm (ne_of_none (by assumption) (by assumption)))
local macro_rules | `(tactic| walk_at "hp") => `(tactic| first | assumption | exact upd_same | (refine upd_keep ?_ (by assumption); walk_at "hp") | (refine upd_other ?_ ?_; · walk_at "ne"; · walk_at "hp"))
local macro_rules | `(tactic| walk_at "hl") => `(tactic| first | assumption | exact SqL.of (by walk_at "hp"))
local macro_rules | `(tactic| walk_at "ht") => `(tactic| first | assumption | exact SqT.of (by walk_at "hp"))
local macro_rules | `(tactic| walk_at "rd1") => `(tactic| first
  | ((with_reducible apply rd_var); exact rfl)
  | ((with_reducible apply rd_eq); exact rfl) | ((with_reducible apply rd_ne); exact rfl)
  | with_reducible first
  | refine iteT ?_ | refine iteF ?_ | refine rd_nF ?_ | refine rd_nT ?_ | refine rd_yes ?_ | refine rd_c ?_ | refine rd_op ?_ | refine rd_un ?_ | refine rd_test ?_ | refine rd_B ?_ | refine rd_bl ?_ | refine rd_seq ?_ | refine rd_next ?_ | refine rd_ifs ?_ | refine rd_asg ?_ | refine rd_name ?_ | refine rd_ret ?_ | refine rd_drop ?_
  | refine rd_call ?_ | refine rd_cons ?_ | refine rd_nil ?_ | refine rd_cb ?_ | refine rd_I0 ?_ | refine rd_U ?_ | refine rd_gsub ?_ | refine rd_lst ?_ | refine rd_tup ?_ | refine rd_if ?_ | refine rd_not ?_ | refine rd_rng1 ?_ | refine rd_itup ?_ | refine rd_ilst ?_ | refine rd_bm ?_ | refine rd_bm0 ?_ | refine rd_andV ?_ | refine rd_orV ?_ | refine rd_notV ?_)
local macro_rules | `(tactic| walk_at "rd") => `(tactic| repeat walk_at "rd1")
local macro_rules | `(tactic| walk_at "ci") => `(tactic| first | assumption | (show (0 : Int) < _; first | decide | omega) | exact ⟨by decide, by decide⟩ | exact Or.inr ⟨by decide, by decide⟩ | exact Or.inl ⟨by decide, by decide⟩ | exact ⟨by decide, by decide, by decide⟩ | exact Or.inl ⟨by omega, by omega⟩ | exact Or.inr ⟨by omega, by omega⟩)
local macro_rules | `(tactic| walk_at "ix") => `(tactic| first
  | ((with_reducible apply rd_ixL); (walk_at "hl"); exact rfl)
  | ((with_reducible apply rd_ixT); (walk_at "ht"); exact rfl)
  | ((with_reducible apply rd_lenL); (walk_at "hl"))
  | ((with_reducible apply rd_lenT); (walk_at "ht"))
  | ((with_reducible apply rd_tupOf); (walk_at "hl"))
  | ((with_reducible apply rd_listOf); (walk_at "hl"))
  | (with_reducible refine rd_min2 ?_)
  | ((with_reducible apply rd_I); (walk_at "ci"))
  | ((with_reducible apply rd_setL); (walk_at "hp"); exact rfl))
local macro_rules | `(tactic| walk_at "gs") => `(tactic| repeat first | walk_at "rd1" | walk_at "ix")
local macro_rules | `(tactic| walk_at "go") => `(tactic| repeat first | walk_at "rd1" | walk_at "ix" | with_reducible refine rd_and ?_ | with_reducible refine rd_or ?_)
local macro_rules | `(tactic| walk_at "fo") => `(tactic| (with_reducible refine rd_for ?_))
local macro_rules | `(tactic| walk_at "pm") => `(tactic| repeat first
  | with_reducible first | refine rd_pcons ?_ | refine rd_pstr ?_ | refine rd_pcap ?_ | refine rd_pwild ?_ | refine rd_pnil ?_ | refine rd_por ?_ | refine rd_pno ?_
  | ((with_reducible refine rd_eq rfl ?_); refine ⟨_, rfl, ?_⟩; first | refine rd_T rfl ?_ | refine rd_F (by decide) ?_)
  | dsimp only [List.nil_append, List.singleton_append, List.cons_append, setAll])
local macro_rules | `(tactic| walk_at "pc") => `(tactic| (refine rd_case ?_); (first | (refine rd_phit (SqT.of (by assumption)) rfl ?_) | (refine rd_pmiss (SqT.of (by assumption)) (by simp) ?_)); (walk_at "pm"))

/-! ### the law's drawer in the heap -/
structure LS where
  ld : Addr
  p : Addr
  la : Addr
  ll : Addr
  lb : Addr
  lg : Addr
  lo : Addr
  ms : List Addr
def LS.kvs (A : LS) (st : Bool) (book : Nat) : List (L2.Key × V) := [(.inr "chain", .ref A.p), (.inr "makers", .ref A.la), (.inr "lost", .ref A.ll), (.inr "back", .ref A.lb), (.inr "stuck", .bl st), (.inr "book", .int book), (.inr "given", .ref A.lg), (.inr "own", .ref A.lo)]
structure LSep (A : LS) : Prop where
  a1 : A.lg ≠ A.ll
  a2 : A.lg ≠ A.lb
  a3 : A.lg ≠ A.la
  a4 : A.ll ≠ A.lb
  a5 : A.ll ≠ A.la
  a6 : A.lb ≠ A.la
def MksAt (H : Hp) (ms : List Addr) (l : List Mkr) : Prop := ms.length = l.length ∧ ∀ (i : Nat) (a : Addr), ms[i]? = some a → ∃ k, l[i]? = some k ∧ MkAt H a k
structure LAt (H : Hp) (A : LS) (st : Bool) (m : Mt) (bs gs : List Int) (own : List (List L2.Key × V)) (ml : List Mkr) : Prop where
  ob : H A.ld = some (.dK (A.kvs st m.book))
  mkl : H A.la = some (.lst (A.ms.map V.ref))
  mks : MksAt H A.ms ml
  lg : H A.lg = some (.lst (gs.map V.int))
  ll : H A.ll = some (.lst (m.lost.map V.int))
  lb : H A.lb = some (.lst (bs.map V.int))
  lo : H A.lo = some (.dT own)
theorem MksAt.fr {S : List Addr} {H H' : Hp} {ms : List Addr} {l : List Mkr} (h : MksAt H ms l) (f : Fr S H H') : MksAt H' ms l :=
  ⟨h.1, fun i a e => let ⟨k, q, z⟩ := h.2 i a e; ⟨k, q, z.fr f⟩⟩
theorem LAt.fresh {H : Hp} {A : LS} {st : Bool} {m : Mt} {bs gs : List Int} {own : List (List L2.Key × V)} {ml : List Mkr} {p : Addr} {o : HO} (h : LAt H A st m bs gs own ml) (n : H p = none) : LAt (upd H p o) A st m bs gs own ml :=
  ⟨upd_keep h.ob n, upd_keep h.mkl n, h.mks.fr (Fr.new (S := []) n), upd_keep h.lg n, upd_keep h.ll n, upd_keep h.lb n, upd_keep h.lo n⟩
theorem rd_dg {td ty : TE} {σ : L2.St} {H : Hp} {Q : VK} (h : td σ H fun x H1 => ty σ H1 fun y H2 => ∃ a v, x = .ref a ∧ DGet H2 a y (some v) ∧ Q v H2) : tDGet td ty σ H Q := h
theorem rd_dgk {H : Hp} {a : Addr} {kvs : List (L2.Key × V)} {x : Str} {v : V} {Q : VK} (h : H a = some (.dK kvs)) (e : valV kvs (.inr x : L2.Key) = some v) (q : Q v H) : ∃ a' v, V.ref a = .ref a' ∧ DGet H a' (.str x) (some v) ∧ Q v H :=
  ⟨a, v, rfl, e ▸ DGet.k (k := (.inr x : L2.Key)) h, q⟩
/-- d[x], d a local -/
theorem rd_gk {i : Nat} {σ : L2.St} {H : Hp} {a : Addr} {kvs : List (L2.Key × V)} {x : Str} {v : V} {Q : VK} (s : σ[i]? = some (some (.ref a))) (h : H a = some (.dK kvs)) (e : valV kvs (.inr x : L2.Key) = some v) (q : Q v H) : tDGet (tVar i) (tC (.str x)) σ H Q :=
  ⟨_, s, rd_dgk h e q⟩
/-- d[x] = v -/
theorem rd_pk {i : Nat} {σ : L2.St} {H : Hp} {x : Str} {tv : TE} {D : Ends} (h : tv σ H fun v H1 => ∃ a kvs, σ[i]? = some (some (.ref a)) ∧ H1 a = some (.dK kvs) ∧ kvs.length < sizeLine ∧ D.nx σ (upd H1 a (.dK (putK kvs (.inr x : L2.Key) v)))) (mono : ∀ Q Q' : VK, (∀ v H1, Q v H1 → Q' v H1) → tv σ H Q → tv σ H Q') :
    sDPut (tVar i) (tC (.str x)) tv D σ H :=
  mono _ _ (fun v H1 ⟨a, kvs, s, e, hl, q⟩ => ⟨_, s, a, _, rfl, DPut.k (k := (.inr x : L2.Key)) e hl, q⟩) h
theorem room1 {k : Nat} {A : Around} (r : Room k A) : A.units + 1 < cLine := by have := r.un; omega
def Rs.ans (r : Rs) (H H' : Hp) (v : V) : Prop :=
  match r with
  | .num n => ∃ q, v = .ref q ∧ H' q = some (.lst [.int n]) ∧ H q = none
  | .fin => v = .str "end"
  | .long => v = .str "long"
def spSource : Sp := fun vs H Q _ => ∃ (A : LS) (st : Bool) (m : Mt) (bs pre post : List Int) (own : List (List L2.Key × V)) (preM postM : List Mkr) (k : Mkr) (g : Nat) (f : Nat) (r : Rs) (x' : Nd) (m' : Mt),
  vs = [.ref A.ld, .int (pre.length : Nat)] ∧ LSep A ∧ LAt H A st m bs (pre ++ [(g : Int)] ++ post) own (preM ++ [k] ++ postM) ∧ preM.length = pre.length ∧ (g : Int) < 2 ^ 64 ∧ m.book ≤ 200 ∧ draw f (.mkr k g) m = some (r, x', m') ∧
  ∀ H' v, r.ans H H' v → LAt H' A st m' bs (pre ++ x'.gv ++ post) own (preM ++ [k] ++ postM) → Fr [A.ld, A.lg] H H' → Q v H'
section
variable {P : Program} {w : World} {K : PySem.W.Frag} {mg : Str → Option Value} {base : Heap} {J : Cls'} {f f2 : Addr} {fd fd2 : FuncData}
theorem rd_par {i j : Nat} {tl : TA} {D : Ends} {σ : L2.St} {H : Hp} (h : tl σ H fun vs H1 => ∃ x y, vs = [x, y] ∧ D.nx ((σ.set i (some x)).set j (some y)) H1) : tPar i j tl D σ H := h
theorem rd_dp {td ty tv : TE} {D : Ends} {σ : L2.St} {H : Hp} (h : tv σ H fun v H1 => td σ H1 fun x H2 => ty σ H2 fun y H3 => ∃ a H4, x = .ref a ∧ DPut H3 a y v H4 ∧ D.nx σ H4) : sDPut td ty tv D σ H := h
theorem rd_dpk {H : Hp} {a : Addr} {kvs : List (L2.Key × V)} {x : Str} {v : V} {Q : Hp → Prop} (h : H a = some (.dK kvs)) (hl : kvs.length < sizeLine) (q : Q (upd H a (.dK (putK kvs (.inr x : L2.Key) v)))) : ∃ a' H4, V.ref a = .ref a' ∧ DPut H a' (.str x) v H4 ∧ Q H4 :=
  ⟨a, _, rfl, DPut.k (k := (.inr x : L2.Key)) h hl, q⟩
theorem ixN_mid {g : Int} (pre post : List Int) : ixN ((pre ++ [g] ++ post).map V.int).length ((pre.length : Nat) : Int) = some pre.length := by
  unfold ixN
  simp
  omega
theorem LS.put_book (A : LS) (st : Bool) (b : Nat) : putK (A.kvs st b) (.inr "book" : L2.Key) (.int ((b : Int) + 1)) = A.kvs st (b + 1) := rfl
theorem sc__law_source : FnScope ["_law_d", "_law_number", "_law_maker", "_law_given"] ["_law_d", "_law_number"] (defScope s__law_source) := ⟨rfl, rfl, rfl, by decide +kernel, rfl, by decide +kernel, by decide +kernel⟩
theorem ok_law_source (T : Txt K mg) (F : FnP K "_law_source" "_law_source" s__law_source f fd) : FnOk P w K mg base CX0 1 f fd ["_law_d", "_law_number"] spSource := by
  refine ok0 F sc__law_source (fun vs H Q E h => ?_) (fun cdv A outer s H vs Q E hr h => ?_)
  · obtain ⟨A, st, m, bs, pre, post, own, preM, postM, k, g, f, r, x', m', rfl, _⟩ := h
    rfl
  · obtain ⟨A, st, m, bs, pre, post, own, preM, postM, k, g, f, r, x', m', rfl, S, G, hpm, hg, hb, hd, kk⟩ := h
    have hu := room1 hr
    refine ⟨_, (pss_cons (ps_par (i := 2) (j := 3) (by rfl) sc__law_source.nd rfl rfl (by decide) rfl rfl (pa_cons (pe_ix (ix_listK K) (pe_dget hu (pv 0) pe_str (fun _ _ => rfl)) (pv 1) (fun _ _ => rfl)) (pa_cons (pe_ix (ix_listK K) (pe_dget hu (pv 0) pe_str (fun _ _ => rfl)) (pv 1) (fun _ _ => rfl)) pa_nil)) (by rfl))
  (pss_cons (ps_if (PW.pt (pw_and (pt_cmpR op_eq (pe_ix (ix_tupK K) (pv 2) pe_int (fun _ _ => rfl)) pe_str (nomark _)) (pw_and1 (pt_cmpR op_ge (pv 3) (pe_callB (call_len1K K) (by rfl) T.free_len (by decide +kernel) (pa_cons (pe_ix (ix_tupK K) (pv 2) pe_int (fun _ _ => rfl)) pa_nil)) (nomark _)))))
    (pss_one (ps_ret pe_str)) pss_nil)
  (pss_cons (ps_if (pt_cmpR op_eq (pe_dget hu (pv 0) pe_str (fun _ _ => rfl)) pe_int (nomark _))
    (pss_one (ps_ret pe_str)) pss_nil)
  (pss_cons (ps_dput hu (pv 0) pe_str (pe_op op_add (pe_dget hu (pv 0) pe_str (fun _ _ => rfl)) pe_int) rfl)
  (pss_cons (ps_asg (pe_op op_add (pv 3) pe_int) (pg_sub (pe_dget hu (pv 0) pe_str (fun _ _ => rfl)) (pv 1) set_list))
  (pss_one (ps_ret (pe_lst (pa_cons (pe_ifExp (pt_cmpR op_eq (pe_ix (ix_tupK K) (pv 2) pe_int (fun _ _ => rfl)) pe_str (nomark _)) (pe_ix (ix_tupK K) (pe_ix (ix_tupK K) (pv 2) pe_int (fun _ _ => rfl)) (pv 3) (fun _ _ => rfl)) (pe_op op_add (pe_ix (ix_tupK K) (pv 2) pe_int (fun _ _ => rfl)) (pe_op op_mul (pv 3) (pe_ix (ix_tupK K) (pv 2) pe_int (fun _ _ => rfl))))) pa_nil))))))))), ?_⟩
    try dsimp only [cxOf, Cx.nox, Cx.wish]
    refine rd_at (σ' := [some (.ref A.ld), some (.int (pre.length : Nat)), none, none]) rfl ?_
    walk_at "go"
    have hi : (preM ++ [k] ++ postM)[pre.length]? = some k := by rw [← hpm]; simp
    have hil : pre.length < A.ms.length := by rw [G.mks.1]; exact (List.getElem?_eq_some_iff.mp hi).1
    obtain ⟨a, ea⟩ : ∃ a, A.ms[pre.length]? = some a := ⟨_, List.getElem?_eq_getElem hil⟩
    obtain ⟨k', hk', ma⟩ := G.mks.2 _ _ ea
    rw [hi] at hk'
    obtain rfl : k = k' := Option.some.inj hk'
    have e1 : (A.ms.map V.ref)[pre.length]? = some (.ref a) := by rw [List.getElem?_map, ea]; rfl
    have e2 : ((pre ++ [(g : Int)] ++ post).map V.int)[pre.length]? = some (.int g) := by simp
    refine rd_par ?_
    walk_at "go"
    refine rd_gk rfl G.ob rfl ?_
    walk_at "go"
    refine rd_ixL (SqL.of G.mkl) (atI_nat e1) ?_
    walk_at "go"
    refine rd_gk rfl G.ob rfl ?_
    walk_at "go"
    refine rd_ixL (SqL.of G.lg) (atI_nat e2) ?_
    walk_at "go"
    refine ⟨_, _, rfl, ?_⟩
    dsimp only
    refine rd_at (σ' := [some (.ref A.ld), some (.int (pre.length : Nat)), some (.ref a), some (.int g)]) rfl ?_
    cases k with
    | count b step =>
      simp only [MkAt] at ma
      walk_at "go"
      refine rd_F (by decide) ?_
      walk_at "go"
      refine rd_gk rfl G.ob rfl ?_
      walk_at "go"
      refine rd_dec (fun c2 => ?_) (fun c2 => ?_)
      · have hb2 : m.book = 200 := by have := V.int.inj c2; omega
        obtain ⟨rfl, rfl, rfl⟩ := draw_count_long hb2 hd
        walk_at "go"
        exact kk _ _ rfl G (Fr.refl _ _)
      · have hb2 : m.book ≠ 200 := fun z => c2 (by rw [z]; rfl)
        obtain ⟨rfl, rfl, rfl⟩ := draw_count_num hb2 hd
        walk_at "go"
        refine rd_dp ?_
        walk_at "go"
        refine rd_gk rfl G.ob rfl ?_
        walk_at "go"
        refine rd_dpk G.ob (by show 8 < sizeLine; decide) ?_
        have eo : upd H A.ld (.dK (A.kvs st (m.book + 1))) A.ld = some (.dK (A.kvs st (m.book + 1))) := upd_same
        have f1 : Fr [A.ld, A.lg] H (upd H A.ld (.dK (A.kvs st (m.book + 1)))) := Fr.put (by simp) (nt G.ob)
        have G1 : LAt (upd H A.ld (.dK (A.kvs st (m.book + 1)))) A st { m with book := m.book + 1 } bs (pre ++ [(g : Int)] ++ post) own (preM ++ [_] ++ postM) :=
          ⟨eo, upd_other (ne_of G.mkl G.ob (by intro q; cases q)) G.mkl, G.mks.fr f1, upd_other (ne_of G.lg G.ob (by intro q; cases q)) G.lg, upd_other (ne_of G.ll G.ob (by intro q; cases q)) G.ll, upd_other (ne_of G.lb G.ob (by intro q; cases q)) G.lb, upd_other (ne_of G.lo G.ob (by intro q; cases q)) G.lo⟩
        replace ma := f1.tp ma
        rw [LS.put_book]
        dsimp only
        generalize hH1 : upd H A.ld (.dK (A.kvs st (m.book + 1))) = H1 at *
        walk_at "go"
        refine rd_gk rfl G1.ob rfl ?_
        walk_at "go"
        refine rd_setL G1.lg (j := pre.length) (ixN_mid pre post) ?_
        have e3 : ((pre ++ [(g : Int)] ++ post).map V.int).set pre.length (.int (g + 1)) = (pre ++ [((g + 1 : Nat) : Int)] ++ post).map V.int := by simp
        rw [e3]
        have f2 : Fr [A.ld, A.lg] H1 (upd H1 A.lg (.lst ((pre ++ [((g + 1 : Nat) : Int)] ++ post).map V.int))) := Fr.put (by simp) (nt G1.lg)
        have G2 : LAt (upd H1 A.lg (.lst ((pre ++ [((g + 1 : Nat) : Int)] ++ post).map V.int))) A st { m with book := m.book + 1 } bs (pre ++ [((g + 1 : Nat) : Int)] ++ post) own (preM ++ [_] ++ postM) :=
          ⟨upd_other (ne_of G1.ob G1.lg (by intro q; cases q)) G1.ob, upd_other S.a3.symm G1.mkl, G1.mks.fr f2, upd_same, upd_other S.a1.symm G1.ll, upd_other S.a2.symm G1.lb, upd_other (ne_of G1.lo G1.lg (by intro q; cases q)) G1.lo⟩
        replace ma := f2.tp ma
        generalize upd H1 A.lg (.lst ((pre ++ [((g + 1 : Nat) : Int)] ++ post).map V.int)) = H2 at *
        walk_at "go"
        refine rd_F (by decide) ?_
        walk_at "go"
        replace f2 := f1.tr f2
        refine ⟨by show 1 ≤ sizeLine; decide, fun q hq => ?_⟩
        refine kk _ _ ⟨q, rfl, upd_same, f2.free ?_ hq⟩ (G2.fresh hq) (f2.newN hq)
        simp only [List.mem_cons, List.not_mem_nil, or_false, not_or]
        exact ⟨(ne_of_none G2.ob hq).symm, (ne_of_none G2.lg hq).symm⟩
    | row ns =>
      obtain ⟨rp, ma, mr⟩ := ma
      walk_at "go"
      refine rd_T rfl ?_
      walk_at "go"
      rw [List.length_map]
      refine rd_dec (fun c1 => ?_) (fun c1 => ?_)
      · have hl : ns.length ≤ g := by omega
        obtain ⟨rfl, rfl, rfl⟩ := draw_row_fin hl hd
        walk_at "go"
        exact kk _ _ rfl G (Fr.refl _ _)
      · have hl : ¬ ns.length ≤ g := by omega
        walk_at "go"
        refine rd_gk rfl G.ob rfl ?_
        walk_at "go"
        refine rd_dec (fun c2 => ?_) (fun c2 => ?_)
        · have hb2 : m.book = 200 := by have := V.int.inj c2; omega
          obtain ⟨rfl, rfl, rfl⟩ := draw_row_long hl hb2 hd
          walk_at "go"
          exact kk _ _ rfl G (Fr.refl _ _)
        · have hb2 : m.book ≠ 200 := fun z => c2 (by rw [z]; rfl)
          obtain ⟨rfl, rfl, rfl⟩ := draw_row_num hl hb2 hd
          walk_at "go"
          refine rd_dp ?_
          walk_at "go"
          refine rd_gk rfl G.ob rfl ?_
          walk_at "go"
          refine rd_dpk G.ob (by show 8 < sizeLine; decide) ?_
          have eo : upd H A.ld (.dK (A.kvs st (m.book + 1))) A.ld = some (.dK (A.kvs st (m.book + 1))) := upd_same
          have f1 : Fr [A.ld, A.lg] H (upd H A.ld (.dK (A.kvs st (m.book + 1)))) := Fr.put (by simp) (nt G.ob)
          have G1 : LAt (upd H A.ld (.dK (A.kvs st (m.book + 1)))) A st { m with book := m.book + 1 } bs (pre ++ [(g : Int)] ++ post) own (preM ++ [_] ++ postM) :=
            ⟨eo, upd_other (ne_of G.mkl G.ob (by intro q; cases q)) G.mkl, G.mks.fr f1, upd_other (ne_of G.lg G.ob (by intro q; cases q)) G.lg, upd_other (ne_of G.ll G.ob (by intro q; cases q)) G.ll, upd_other (ne_of G.lb G.ob (by intro q; cases q)) G.lb, upd_other (ne_of G.lo G.ob (by intro q; cases q)) G.lo⟩
          replace ma := f1.tp ma
          replace mr := f1.tp mr
          rw [LS.put_book]
          dsimp only
          generalize hH1 : upd H A.ld (.dK (A.kvs st (m.book + 1))) = H1 at *
          walk_at "go"
          refine rd_gk rfl G1.ob rfl ?_
          walk_at "go"
          refine rd_setL G1.lg (j := pre.length) (ixN_mid pre post) ?_
          have e3 : ((pre ++ [(g : Int)] ++ post).map V.int).set pre.length (.int (g + 1)) = (pre ++ [((g + 1 : Nat) : Int)] ++ post).map V.int := by simp
          rw [e3]
          have f2 : Fr [A.ld, A.lg] H1 (upd H1 A.lg (.lst ((pre ++ [((g + 1 : Nat) : Int)] ++ post).map V.int))) := Fr.put (by simp) (nt G1.lg)
          have G2 : LAt (upd H1 A.lg (.lst ((pre ++ [((g + 1 : Nat) : Int)] ++ post).map V.int))) A st { m with book := m.book + 1 } bs (pre ++ [((g + 1 : Nat) : Int)] ++ post) own (preM ++ [_] ++ postM) :=
            ⟨upd_other (ne_of G1.ob G1.lg (by intro q; cases q)) G1.ob, upd_other S.a3.symm G1.mkl, G1.mks.fr f2, upd_same, upd_other S.a1.symm G1.ll, upd_other S.a2.symm G1.lb, upd_other (ne_of G1.lo G1.lg (by intro q; cases q)) G1.lo⟩
          replace ma := f2.tp ma
          replace mr := f2.tp mr
          generalize upd H1 A.lg (.lst ((pre ++ [((g + 1 : Nat) : Int)] ++ post).map V.int)) = H2 at *
          walk_at "go"
          refine rd_T rfl ?_
          walk_at "go"
          have hv : (ns.map V.int)[g]? = some (.int (ns.getD g 0)) := by
            rw [List.getElem?_map, List.getElem?_eq_getElem (by omega), List.getD_eq_getElem?_getD, List.getElem?_eq_getElem (by omega)]
            rfl
          refine rd_ixT (SqT.of mr) (atI_nat hv) ?_
          walk_at "go"
          replace f2 := f1.tr f2
          refine ⟨by show 1 ≤ sizeLine; decide, fun q hq => ?_⟩
          refine kk _ _ ⟨q, rfl, upd_same, f2.free ?_ hq⟩ (G2.fresh hq) (f2.newN hq)
          simp only [List.mem_cons, List.not_mem_nil, or_false, not_or]
          exact ⟨(ne_of_none G2.ob hq).symm, (ne_of_none G2.lg hq).symm⟩
end
end Dc

set_option Elab.async false
set_option linter.all false
set_option maxRecDepth 100000
set_option maxHeartbeats 2000000
namespace Dc
open PySem PySem.Spec PyProof.Rows L2
local macro_rules | `(tactic| walk_at "ne") => `(tactic| first | assumption | (refine Ne.symm ?_; assumption) | exact ne_of (by assumption) (by assumption) (by intro q; cases q) | exact ne_of_none (by assumption) (by assumption) | exact Ne.symm (ne_of_none (by assumption) (by assumption)))
local macro_rules | `(tactic| walk_at "hp") => `(tactic| first | assumption | exact upd_same | (refine upd_keep ?_ (by assumption); walk_at "hp") | (refine upd_other ?_ ?_; · walk_at "ne"; · walk_at "hp"))
local macro_rules | `(tactic| walk_at "hl") => `(tactic| first | assumption | exact SqL.of (by walk_at "hp"))
local macro_rules | `(tactic| walk_at "ht") => `(tactic| first | assumption | exact SqT.of (by walk_at "hp"))
local macro_rules | `(tactic| walk_at "rd1") => `(tactic| first
  | ((with_reducible apply rd_var); exact rfl)
  | ((with_reducible apply rd_eq); exact rfl) | ((with_reducible apply rd_ne); exact rfl)
  | with_reducible first
  | refine iteT ?_ | refine iteF ?_ | refine rd_nF ?_ | refine rd_nT ?_ | refine rd_yes ?_ | refine rd_c ?_ | refine rd_op ?_ | refine rd_un ?_ | refine rd_test ?_ | refine rd_B ?_ | refine rd_bl ?_ | refine rd_seq ?_ | refine rd_next ?_ | refine rd_ifs ?_ | refine rd_asg ?_ | refine rd_name ?_ | refine rd_ret ?_ | refine rd_drop ?_
  | refine rd_call ?_ | refine rd_cons ?_ | refine rd_nil ?_ | refine rd_cb ?_ | refine rd_I0 ?_ | refine rd_U ?_ | refine rd_gsub ?_ | refine rd_lst ?_ | refine rd_tup ?_ | refine rd_if ?_ | refine rd_not ?_ | refine rd_rng1 ?_ | refine rd_itup ?_ | refine rd_ilst ?_ | refine rd_bm ?_ | refine rd_bm0 ?_ | refine rd_andV ?_ | refine rd_orV ?_ | refine rd_notV ?_)
local macro_rules | `(tactic| walk_at "rd") => `(tactic| repeat walk_at "rd1")
local macro_rules | `(tactic| walk_at "ci") => `(tactic| first | assumption | (show (0 : Int) < _; first | decide | omega) | exact ⟨by decide, by decide⟩ | exact Or.inr ⟨by decide, by decide⟩ | exact Or.inl ⟨by decide, by decide⟩ | exact ⟨by decide, by decide, by decide⟩ | exact Or.inl ⟨by omega, by omega⟩ | exact Or.inr ⟨by omega, by omega⟩)
local macro_rules | `(tactic| walk_at "ix") => `(tactic| first
  | ((with_reducible apply rd_ixL); (walk_at "hl"); exact rfl)
  | ((with_reducible apply rd_ixT); (walk_at "ht"); exact rfl)
  | ((with_reducible apply rd_lenL); (walk_at "hl"))
  | ((with_reducible apply rd_lenT); (walk_at "ht"))
  | ((with_reducible apply rd_tupOf); (walk_at "hl"))
  | ((with_reducible apply rd_listOf); (walk_at "hl"))
  | (with_reducible refine rd_min2 ?_)
  | ((with_reducible apply rd_I); (walk_at "ci"))
  | ((with_reducible apply rd_setL); (walk_at "hp"); exact rfl))
local macro_rules | `(tactic| walk_at "gs") => `(tactic| repeat first | walk_at "rd1" | walk_at "ix")
local macro_rules | `(tactic| walk_at "go") => `(tactic| repeat first | walk_at "rd1" | walk_at "ix" | with_reducible refine rd_and ?_ | with_reducible refine rd_or ?_)
local macro_rules | `(tactic| walk_at "fo") => `(tactic| (with_reducible refine rd_for ?_))
local macro_rules | `(tactic| walk_at "pm") => `(tactic| repeat first
  | with_reducible first | refine rd_pcons ?_ | refine rd_pstr ?_ | refine rd_pcap ?_ | refine rd_pwild ?_ | refine rd_pnil ?_ | refine rd_por ?_ | refine rd_pno ?_
  | ((with_reducible refine rd_eq rfl ?_); refine ⟨_, rfl, ?_⟩; first | refine rd_T rfl ?_ | refine rd_F (by decide) ?_)
  | dsimp only [List.nil_append, List.singleton_append, List.cons_append, setAll])
local macro_rules | `(tactic| walk_at "pc") => `(tactic| (refine rd_case ?_); (first | (refine rd_phit (SqT.of (by assumption)) rfl ?_) | (refine rd_pmiss (SqT.of (by assumption)) (by simp) ?_)); (walk_at "pm"))

def Ow.kvs (o : Ow) : List (L2.Key × V) := [(.inr "over", .bl o.over), (.inr "told", .int o.told), (.inr "last", optV o.last), (.inr "left", .int o.left)]
def Kd.lets : Kd → Bool
  | .drop _ => true
  | .keep _ _ => true
  | .unlike => true
  | _ => false
def spLets : Sp := fun vs H Q _ => ∃ (sx od : Addr) (k : Kd) (o : Ow) (n : Int), vs = [.ref sx, .ref od, .int n] ∧ H sx = some (.tup k.vals) ∧ H od = some (.dK o.kvs) ∧ k.ok ∧ k.lets = true ∧ k.inv o ∧
  ∀ H' b o', H' od = some (.dK (Ow.kvs o')) → Fr [od] H H' → (b = true ∧ pass k o n = .again o' ∨ b = false ∧ pass k o n = .tell n o') → Q (.bl b) H'
section
variable {P : Program} {w : World} {K : PySem.W.Frag} {mg : Str → Option Value} {base : Heap} {J : Cls'} {f f2 : Addr} {fd fd2 : FuncData}
theorem sc__law_lets_go : FnScope ["_law_stage", "_law_own", "_law_number"] ["_law_stage", "_law_own", "_law_number"] (defScope s__law_lets_go) := ⟨rfl, rfl, rfl, by decide +kernel, rfl, by decide +kernel, by decide +kernel⟩
theorem ok_law_lets_go (T : Txt K mg) (F : FnP K "_law_lets_go" "_law_lets_go" s__law_lets_go f fd) : FnOk P w K mg base CX0 1 f fd ["_law_stage", "_law_own", "_law_number"] spLets := by
  refine ok0 F sc__law_lets_go (fun vs H Q E h => ?_) (fun cdv A outer s H vs Q E hr h => ?_)
  · obtain ⟨sx, od, k, o, n, rfl, _⟩ := h
    rfl
  · obtain ⟨sx, od, k, o, n, rfl, es, eo, hk, hl, hi, kk⟩ := h
    have hu := room1 hr
    refine ⟨_, (pss_cons (ps_if (pt_cmpR op_eq (pe_ix (ix_tupK K) (pv 0) pe_int (fun _ _ => rfl)) pe_str (nomark _))
    (pss_cons (ps_dput hu (pv 1) pe_str (pe_op op_add (pe_dget hu (pv 1) pe_str (fun _ _ => rfl)) pe_int) rfl)
    (pss_one (ps_ret (pe_cmpR op_le (pe_dget hu (pv 1) pe_str (fun _ _ => rfl)) (pe_ix (ix_tupK K) (pv 0) pe_int (fun _ _ => rfl)) (nomark _))))) pss_nil)
  (pss_cons (ps_if (pt_cmpR op_eq (pe_ix (ix_tupK K) (pv 0) pe_int (fun _ _ => rfl)) pe_str (nomark _))
    (pss_one (ps_ret (pe_cmpR op_ne (pe_op op_mod (pe_op op_sub (pv 2) (pe_ix (ix_tupK K) (pv 0) pe_int (fun _ _ => rfl))) (pe_ix (ix_tupK K) (pv 0) pe_int (fun _ _ => rfl))) pe_int (nomark _)))) pss_nil)
  (pss_one (ps_ret (pe_and (pe_cmpR op_gt (pe_dget hu (pv 1) pe_str (fun _ _ => rfl)) pe_int (nomark _)) (pe_one (pe_cmpR op_eq (pv 2) (pe_dget hu (pv 1) pe_str (fun _ _ => rfl)) (nomark _)))))))), ?_⟩
    try dsimp only [cxOf, Cx.nox, Cx.wish]
    refine rd_at (σ' := [some (.ref sx), some (.ref od), some (.int n)]) rfl ?_
    cases k with
    | drop k =>
      simp only [Kd.vals] at es
      walk_at "go"
      refine rd_T rfl ?_
      walk_at "go"
      refine rd_dp ?_
      walk_at "go"
      refine rd_gk rfl eo rfl ?_
      walk_at "go"
      refine rd_dpk eo (by show 4 < sizeLine; decide) ?_
      have e1 : upd H od (.dK (Ow.kvs { o with left := o.left + 1 })) od = some (.dK (Ow.kvs { o with left := o.left + 1 })) := upd_same
      have e2 : putK o.kvs (.inr "left" : L2.Key) (.int (o.left + 1)) = Ow.kvs { o with left := o.left + 1 } := rfl
      rw [e2]
      have f1 : Fr [od] H (upd H od (.dK (Ow.kvs { o with left := o.left + 1 }))) := Fr.put (by simp) (nt eo)
      replace es := f1.tp es
      walk_at "go"
      refine rd_gk rfl e1 rfl ?_
      walk_at "go"
      refine kk _ _ { o with left := o.left + 1 } e1 f1 ?_
      by_cases c : o.left + 1 ≤ k
      · exact .inl ⟨decide_eq_true c, if_pos c⟩
      · exact .inr ⟨decide_eq_false c, if_neg c⟩
    | keep r wh =>
      simp only [Kd.vals] at es
      walk_at "go"
      refine rd_F (by decide) ?_
      walk_at "go"
      refine rd_T rfl ?_
      walk_at "go"
      refine rd_I (by have := hk.1; omega) ?_
      walk_at "go"
      refine kk _ _ o eo (Fr.refl _ _) ?_
      by_cases c : (n - r) % wh = 0
      · exact .inr ⟨by rw [c]; rfl, if_pos c⟩
      · refine .inl ⟨?_, if_neg c⟩
        rw [decide_eq_false (fun z => c (V.int.inj z))]
        rfl
    | unlike =>
      simp only [Kd.vals] at es
      walk_at "go"
      refine rd_F (by decide) ?_
      walk_at "go"
      refine rd_F (by decide) ?_
      walk_at "go"
      refine rd_gk rfl eo rfl ?_
      walk_at "go"
      refine rd_dec (fun c => ?_) (fun c => ?_)
      · walk_at "go"
        refine rd_gk rfl eo rfl ?_
        refine rd_eq (by cases o.last <;> rfl) ?_
        refine kk _ _ o eo (Fr.refl _ _) ?_
        by_cases c2 : o.last = some n
        · exact .inl ⟨by rw [c2]; exact decide_eq_true rfl, if_pos ⟨by omega, c2⟩⟩
        · refine .inr ⟨decide_eq_false fun z => c2 ?_, if_neg fun z => c2 z.2⟩
          cases q : o.last with
          | none => rw [q] at z; cases z
          | some l => rw [q] at z; cases z; rfl
      · exact kk _ _ o eo (Fr.refl _ _) (.inr ⟨rfl, if_neg fun z => c (by omega)⟩)
    | _ => cases hl
end
end Dc

set_option Elab.async false
set_option linter.all false
set_option maxRecDepth 100000
set_option maxHeartbeats 2000000
namespace Dc
open PySem PySem.Spec PyProof.Rows L2
/-! ### what the law keeps of each stage -/
abbrev OwnL := List (List L2.Key × V)
def key (off at' : Nat) : List L2.Key := [.inl (off : Int), .inl (at' : Int)]
theorem key_inj {a b c d : Nat} (h : key a b = key c d) : a = c ∧ b = d := by
  unfold key at h
  injection h with h1 h2
  injection h2 with h3 _
  exact ⟨Int.ofNat.inj (Sum.inl.inj h1), Int.ofNat.inj (Sum.inl.inj h3)⟩
def ods (own : OwnL) : List Addr := own.filterMap fun kv => match kv.2 with | .ref a => some a | _ => none
theorem ods_val {own : OwnL} {k : List L2.Key} {a : Addr} (h : valV own k = some (.ref a)) : a ∈ ods own := by
  unfold valV at h
  cases e : own.find? fun kv => decide (kv.1 = k) with
  | none => rw [e] at h; cases h
  | some kv =>
    rw [e] at h
    refine List.mem_filterMap.mpr ⟨kv, List.mem_of_find?_eq_some e, ?_⟩
    have : kv.2 = .ref a := Option.some.inj h
    rw [this]
theorem ods_put {own : OwnL} {k : List L2.Key} {a b : Addr} (h : b ∈ ods (putK own k (.ref a))) : b = a ∨ b ∈ ods own := by
  obtain ⟨kv, h1, h2⟩ := List.mem_filterMap.mp h
  unfold putK at h1
  split at h1
  · obtain ⟨kv', h3, rfl⟩ := List.mem_map.mp h1
    by_cases c : kv'.1 = k
    · rw [if_pos c] at h2
      exact .inl (Option.some.inj h2).symm
    · rw [if_neg c] at h2
      exact .inr (List.mem_filterMap.mpr ⟨kv', h3, h2⟩)
  · rcases List.mem_append.mp h1 with h3 | h3
    · exact .inr (List.mem_filterMap.mpr ⟨kv, h3, h2⟩)
    · rw [List.mem_singleton] at h3
      subst h3
      exact .inl (Option.some.inj h2).symm
/-- all own dicts are dicts, each of one stage alone -/
structure OwnOk (H : Hp) (own : OwnL) : Prop where
  dict : ∀ k v, valV own k = some v → ∃ od o, v = .ref od ∧ H od = some (.dK (Ow.kvs o))
  inj : ∀ k1 k2 od, valV own k1 = some (.ref od) → valV own k2 = some (.ref od) → k1 = k2
  nd : (own.map (·.1)).Nodup
theorem val_of_mem : ∀ {own : OwnL} {kv : List L2.Key × V}, (own.map (·.1)).Nodup → kv ∈ own → valV own kv.1 = some kv.2
  | q :: own, kv, nd, h => by
    rw [List.map_cons, List.nodup_cons] at nd
    rcases List.mem_cons.mp h with rfl | h
    · exact valV_pos rfl
    · have n : ¬ q.1 = kv.1 := fun e => nd.1 (e ▸ List.mem_map_of_mem (f := (·.1)) h)
      rw [valV_neg n]
      exact val_of_mem nd.2 h
theorem put_nodup {own : OwnL} {k : List L2.Key} {v : V} (h : valV own k = none) (nd : (own.map (·.1)).Nodup) : ((putK own k v).map (·.1)).Nodup := by
  have ha : (own.any fun kv => decide (kv.1 = k)) = false := by rw [valV_any, h]; rfl
  unfold putK
  rw [if_neg (by rw [ha]; decide), List.map_append, List.nodup_append]
  refine ⟨nd, by simp, fun a ha' b hb e => ?_⟩
  obtain ⟨kv, h1, h2⟩ := List.mem_map.mp ha'
  simp only [List.map_cons, List.map_nil, List.mem_singleton] at hb
  have := List.any_eq_false.mp ha kv h1
  exact this (decide_eq_true (h2.trans (e.trans hb)))
theorem OwnOk.ods {H : Hp} {own : OwnL} (G : OwnOk H own) {b : Addr} (h : b ∈ ods own) : ∃ o, H b = some (.dK (Ow.kvs o)) := by
  obtain ⟨kv, h1, h2⟩ := List.mem_filterMap.mp h
  have e := val_of_mem G.nd h1
  obtain ⟨od, o, e1, e2⟩ := G.dict _ _ e
  rw [e1] at h2
  obtain rfl : od = b := Option.some.inj h2
  exact ⟨o, e2⟩
/-- a stage's own dict stands so, or not yet -/
def OwAt (H : Hp) (own : OwnL) (k : List L2.Key) (o : Ow) : Prop := (∃ od, valV own k = some (.ref od) ∧ H od = some (.dK o.kvs)) ∨ (valV own k = none ∧ o = ow0)
def Nd.len : Nd → Nat
  | .mkr _ _ => 0
  | .st _ _ c => c.len + 1
  | .both _ c _ => c.len + 1
  | .thn _ c _ => c.len + 1
def Nd.mks : Nd → List Mkr
  | .mkr m _ => [m]
  | .st _ _ c => c.mks
  | .both _ c d => c.mks ++ d.mks
  | .thn _ c d => c.mks ++ d.mks
def Nd.ch : Nd → Ch
  | .mkr m _ => .mkr m
  | .st k _ c => .st c.ch k
  | .both _ c d => .both c.ch d.ch
  | .thn _ c d => .thn c.ch d.ch
def LNd (H : Hp) (own : OwnL) : Nat → Nd → Prop
  | _, .mkr _ _ => True
  | off, .st _ o c => OwAt H own (key off (c.len + 1)) o ∧ LNd H own off c
  | off, .both o c d => OwAt H own (key off (c.len + 1)) o ∧ LNd H own off c ∧ LNd H own (off + c.gv.length) d
  | off, .thn o c d => OwAt H own (key off (c.len + 1)) o ∧ LNd H own off c ∧ LNd H own (off + c.gv.length) d
def isN (v : Option V) : Nat := if v.isNone = true then 1 else 0
/-- how many own dicts are not made yet -/
def cnt (own : OwnL) : Nat → Nd → Nat
  | _, .mkr _ _ => 0
  | off, .st _ o c => isN (valV own (key off (c.len + 1))) + cnt own off c
  | off, .both o c d => isN (valV own (key off (c.len + 1))) + cnt own off c + cnt own (off + c.gv.length) d
  | off, .thn o c d => isN (valV own (key off (c.len + 1))) + cnt own off c + cnt own (off + c.gv.length) d
/-- the keys of a tree -/
def InD (off : Nat) (x : Nd) (k : List L2.Key) : Prop := ∃ i a : Nat, k = key i a ∧ ((i = off ∧ a ≤ x.len) ∨ (off < i ∧ i < off + x.gv.length))
/-- outside of the keys K nothing is changed -/
def Kept (K : List L2.Key → Prop) (H : Hp) (own : OwnL) (H' : Hp) (own' : OwnL) : Prop := ∀ k, ¬ K k → valV own' k = valV own k ∧ ∀ od o, valV own k = some (.ref od) → H od = some (.dK (Ow.kvs o)) → H' od = some (.dK (Ow.kvs o))
theorem Kept.refl {K : List L2.Key → Prop} {H : Hp} {own : OwnL} : Kept K H own H own := fun _ _ => ⟨rfl, fun _ _ _ e => e⟩
theorem Kept.trans {K : List L2.Key → Prop} {H H1 H2 : Hp} {own own1 own2 : OwnL} (h : Kept K H own H1 own1) (h' : Kept K H1 own1 H2 own2) : Kept K H own H2 own2 := fun k nk => by
  obtain ⟨a1, a2⟩ := h k nk
  obtain ⟨b1, b2⟩ := h' k nk
  exact ⟨b1.trans a1, fun od o e q => b2 od o (a1.trans e) (a2 od o e q)⟩
theorem Kept.mono {K K' : List L2.Key → Prop} {H H' : Hp} {own own' : OwnL} (h : Kept K H own H' own') (m : ∀ k, K k → K' k) : Kept K' H own H' own' := fun k nk => h k fun z => nk (m k z)
theorem Nd.gv_pos : ∀ x : Nd, 1 ≤ x.gv.length
  | .mkr _ _ => Nat.le_refl _
  | .st _ _ c => Nd.gv_pos c
  | .both _ c d => by have := Nd.gv_pos c; show 1 ≤ (c.gv ++ d.gv).length; rw [List.length_append]; omega
  | .thn _ c d => by have := Nd.gv_pos c; show 1 ≤ (c.gv ++ d.gv).length; rw [List.length_append]; omega
theorem OwAt.kept {K : List L2.Key → Prop} {H H' : Hp} {own own' : OwnL} {k : List L2.Key} {o : Ow} (h : OwAt H own k o) (q : Kept K H own H' own') (n : ¬ K k) : OwAt H' own' k o := by
  obtain ⟨a1, a2⟩ := q k n
  rcases h with ⟨od, e, z⟩ | ⟨e, z⟩
  · exact .inl ⟨od, a1.trans e, a2 od o e z⟩
  · exact .inr ⟨a1.trans e, z⟩
theorem LNd.kept {K : List L2.Key → Prop} {H H' : Hp} {own own' : OwnL} (q : Kept K H own H' own') : ∀ {off : Nat} {x : Nd}, LNd H own off x → (∀ k, InD off x k → ¬ K k) → LNd H' own' off x
  | _, .mkr _ _, _, _ => trivial
  | off, .st k o c, ⟨h1, h2⟩, n => ⟨h1.kept q (n _ ⟨off, c.len + 1, rfl, .inl ⟨rfl, Nat.le_refl _⟩⟩), LNd.kept q h2 fun k ⟨i, a, e, z⟩ => n k ⟨i, a, e, z.imp (fun ⟨z1, z2⟩ => ⟨z1, Nat.le_succ_of_le z2⟩) id⟩⟩
  | off, .both o c d, ⟨h1, h2, h3⟩, n => ⟨h1.kept q (n _ ⟨off, c.len + 1, rfl, .inl ⟨rfl, Nat.le_refl _⟩⟩),
    LNd.kept q h2 fun k ⟨i, a, e, z⟩ => n k ⟨i, a, e, z.imp (fun ⟨z1, z2⟩ => ⟨z1, Nat.le_succ_of_le z2⟩) (fun ⟨z1, z2⟩ => ⟨z1, by show i < off + (c.gv ++ d.gv).length; rw [List.length_append]; omega⟩)⟩,
    LNd.kept q h3 fun k ⟨i, a, e, z⟩ => n k ⟨i, a, e, .inr (by
      have hc := c.gv_pos
      have hd := d.gv_pos
      show off < i ∧ i < off + (c.gv ++ d.gv).length
      rw [List.length_append]
      rcases z with ⟨z1, z2⟩ | ⟨z1, z2⟩ <;> omega)⟩⟩
  | off, .thn o c d, ⟨h1, h2, h3⟩, n => ⟨h1.kept q (n _ ⟨off, c.len + 1, rfl, .inl ⟨rfl, Nat.le_refl _⟩⟩),
    LNd.kept q h2 fun k ⟨i, a, e, z⟩ => n k ⟨i, a, e, z.imp (fun ⟨z1, z2⟩ => ⟨z1, Nat.le_succ_of_le z2⟩) (fun ⟨z1, z2⟩ => ⟨z1, by show i < off + (c.gv ++ d.gv).length; rw [List.length_append]; omega⟩)⟩,
    LNd.kept q h3 fun k ⟨i, a, e, z⟩ => n k ⟨i, a, e, .inr (by
      have hc := c.gv_pos
      have hd := d.gv_pos
      show off < i ∧ i < off + (c.gv ++ d.gv).length
      rw [List.length_append]
      rcases z with ⟨z1, z2⟩ | ⟨z1, z2⟩ <;> omega)⟩⟩
theorem cnt.kept {K : List L2.Key → Prop} {H H' : Hp} {own own' : OwnL} (q : Kept K H own H' own') : ∀ {off : Nat} {x : Nd}, (∀ k, InD off x k → ¬ K k) → cnt own' off x = cnt own off x
  | _, .mkr _ _, _ => rfl
  | off, .st k o c, n => by
    show isN _ + cnt own' off c = isN _ + cnt own off c
    rw [(q _ (n _ ⟨off, c.len + 1, rfl, .inl ⟨rfl, Nat.le_refl _⟩⟩)).1, cnt.kept q (off := off) (x := c) fun k ⟨i, a, e, z⟩ => n k ⟨i, a, e, z.imp (fun ⟨z1, z2⟩ => ⟨z1, Nat.le_succ_of_le z2⟩) id⟩]
  | off, .both o c d, n => by
    show isN _ + cnt own' off c + cnt own' _ d = isN _ + cnt own off c + cnt own _ d
    rw [(q _ (n _ ⟨off, c.len + 1, rfl, .inl ⟨rfl, Nat.le_refl _⟩⟩)).1, cnt.kept q (off := off) (x := c) fun k ⟨i, a, e, z⟩ => n k ⟨i, a, e, z.imp (fun ⟨z1, z2⟩ => ⟨z1, Nat.le_succ_of_le z2⟩) (fun ⟨z1, z2⟩ => ⟨z1, by show i < off + (c.gv ++ d.gv).length; rw [List.length_append]; omega⟩)⟩,
      cnt.kept q (off := off + c.gv.length) (x := d) fun k ⟨i, a, e, z⟩ => n k ⟨i, a, e, .inr (by
        have hc := c.gv_pos
        have hd := d.gv_pos
        show off < i ∧ i < off + (c.gv ++ d.gv).length
        rw [List.length_append]
        rcases z with ⟨z1, z2⟩ | ⟨z1, z2⟩ <;> omega)⟩]
  | off, .thn o c d, n => by
    show isN _ + cnt own' off c + cnt own' _ d = isN _ + cnt own off c + cnt own _ d
    rw [(q _ (n _ ⟨off, c.len + 1, rfl, .inl ⟨rfl, Nat.le_refl _⟩⟩)).1, cnt.kept q (off := off) (x := c) fun k ⟨i, a, e, z⟩ => n k ⟨i, a, e, z.imp (fun ⟨z1, z2⟩ => ⟨z1, Nat.le_succ_of_le z2⟩) (fun ⟨z1, z2⟩ => ⟨z1, by show i < off + (c.gv ++ d.gv).length; rw [List.length_append]; omega⟩)⟩,
      cnt.kept q (off := off + c.gv.length) (x := d) fun k ⟨i, a, e, z⟩ => n k ⟨i, a, e, .inr (by
        have hc := c.gv_pos
        have hd := d.gv_pos
        show off < i ∧ i < off + (c.gv ++ d.gv).length
        rw [List.length_append]
        rcases z with ⟨z1, z2⟩ | ⟨z1, z2⟩ <;> omega)⟩]
end Dc

set_option Elab.async false
set_option linter.all false
set_option maxRecDepth 100000
set_option maxHeartbeats 2000000
namespace Dc
open PySem PySem.Spec PyProof.Rows L2
local macro_rules | `(tactic| walk_at "ne") => `(tactic| first | assumption | (refine Ne.symm ?_; assumption) | exact ne_of (by assumption) (by assumption) (by intro q; cases q) | exact ne_of_none (by assumption) (by assumption) | exact Ne.symm (ne_of_none (by assumption) (by assumption)))
local macro_rules | `(tactic| walk_at "hp") => `(tactic| first | assumption | exact upd_same | (refine upd_keep ?_ (by assumption); walk_at "hp") | (refine upd_other ?_ ?_; · walk_at "ne"; · walk_at "hp"))
local macro_rules | `(tactic| walk_at "hl") => `(tactic| first | assumption | exact SqL.of (by walk_at "hp"))
local macro_rules | `(tactic| walk_at "ht") => `(tactic| first | assumption | exact SqT.of (by walk_at "hp"))
local macro_rules | `(tactic| walk_at "rd1") => `(tactic| first
  | ((with_reducible apply rd_var); exact rfl)
  | ((with_reducible apply rd_eq); exact rfl) | ((with_reducible apply rd_ne); exact rfl)
  | with_reducible first
  | refine iteT ?_ | refine iteF ?_ | refine rd_nF ?_ | refine rd_nT ?_ | refine rd_yes ?_ | refine rd_c ?_ | refine rd_op ?_ | refine rd_un ?_ | refine rd_test ?_ | refine rd_B ?_ | refine rd_bl ?_ | refine rd_seq ?_ | refine rd_next ?_ | refine rd_ifs ?_ | refine rd_asg ?_ | refine rd_name ?_ | refine rd_ret ?_ | refine rd_drop ?_
  | refine rd_call ?_ | refine rd_cons ?_ | refine rd_nil ?_ | refine rd_cb ?_ | refine rd_I0 ?_ | refine rd_U ?_ | refine rd_gsub ?_ | refine rd_lst ?_ | refine rd_tup ?_ | refine rd_if ?_ | refine rd_not ?_ | refine rd_rng1 ?_ | refine rd_itup ?_ | refine rd_ilst ?_ | refine rd_bm ?_ | refine rd_bm0 ?_ | refine rd_andV ?_ | refine rd_orV ?_ | refine rd_notV ?_)
local macro_rules | `(tactic| walk_at "rd") => `(tactic| repeat walk_at "rd1")
local macro_rules | `(tactic| walk_at "ci") => `(tactic| first | assumption | (show (0 : Int) < _; first | decide | omega) | exact ⟨by decide, by decide⟩ | exact Or.inr ⟨by decide, by decide⟩ | exact Or.inl ⟨by decide, by decide⟩ | exact ⟨by decide, by decide, by decide⟩ | exact Or.inl ⟨by omega, by omega⟩ | exact Or.inr ⟨by omega, by omega⟩)
local macro_rules | `(tactic| walk_at "ix") => `(tactic| first
  | ((with_reducible apply rd_ixL); (walk_at "hl"); exact rfl)
  | ((with_reducible apply rd_ixT); (walk_at "ht"); exact rfl)
  | ((with_reducible apply rd_lenL); (walk_at "hl"))
  | ((with_reducible apply rd_lenT); (walk_at "ht"))
  | ((with_reducible apply rd_tupOf); (walk_at "hl"))
  | ((with_reducible apply rd_listOf); (walk_at "hl"))
  | (with_reducible refine rd_min2 ?_)
  | ((with_reducible apply rd_I); (walk_at "ci"))
  | ((with_reducible apply rd_setL); (walk_at "hp"); exact rfl))
local macro_rules | `(tactic| walk_at "gs") => `(tactic| repeat first | walk_at "rd1" | walk_at "ix")
local macro_rules | `(tactic| walk_at "go") => `(tactic| repeat first | walk_at "rd1" | walk_at "ix" | with_reducible refine rd_and ?_ | with_reducible refine rd_or ?_)
local macro_rules | `(tactic| walk_at "fo") => `(tactic| (with_reducible refine rd_for ?_))
local macro_rules | `(tactic| walk_at "pm") => `(tactic| repeat first
  | with_reducible first | refine rd_pcons ?_ | refine rd_pstr ?_ | refine rd_pcap ?_ | refine rd_pwild ?_ | refine rd_pnil ?_ | refine rd_por ?_ | refine rd_pno ?_
  | ((with_reducible refine rd_eq rfl ?_); refine ⟨_, rfl, ?_⟩; first | refine rd_T rfl ?_ | refine rd_F (by decide) ?_)
  | dsimp only [List.nil_append, List.singleton_append, List.cons_append, setAll])
local macro_rules | `(tactic| walk_at "pc") => `(tactic| (refine rd_case ?_); (first | (refine rd_phit (SqT.of (by assumption)) rfl ?_) | (refine rd_pmiss (SqT.of (by assumption)) (by simp) ?_)); (walk_at "pm"))

/-! ### a draw keeps a tree's shape -/
structure Shp (x' x : Nd) : Prop where
  len : x'.len = x.len
  mks : x'.mks = x.mks
  ch : x'.ch = x.ch
theorem Shp.refl (x : Nd) : Shp x x := ⟨rfl, rfl, rfl⟩
theorem Shp.st {k : Kd} {o o' : Ow} {c c' : Nd} (h : Shp c' c) : Shp (.st k o' c') (.st k o c) := ⟨by show c'.len + 1 = c.len + 1; rw [h.len], h.mks, by show Ch.st c'.ch k = Ch.st c.ch k; rw [h.ch]⟩
theorem Shp.both {o o' : Ow} {c c' d d' : Nd} (h : Shp c' c) (h2 : Shp d' d) : Shp (.both o' c' d') (.both o c d) := ⟨by show c'.len + 1 = c.len + 1; rw [h.len], by show c'.mks ++ d'.mks = c.mks ++ d.mks; rw [h.mks, h2.mks], by show Ch.both c'.ch d'.ch = Ch.both c.ch d.ch; rw [h.ch, h2.ch]⟩
theorem Shp.thn {o o' : Ow} {c c' d d' : Nd} (h : Shp c' c) (h2 : Shp d' d) : Shp (.thn o' c' d') (.thn o c d) := ⟨by show c'.len + 1 = c.len + 1; rw [h.len], by show c'.mks ++ d'.mks = c.mks ++ d.mks; rw [h.mks, h2.mks], by show Ch.thn c'.ch d'.ch = Ch.thn c.ch d.ch; rw [h.ch, h2.ch]⟩
theorem Shp.trans {x y z : Nd} (h : Shp x y) (h2 : Shp y z) : Shp x z := ⟨h.len.trans h2.len, h.mks.trans h2.mks, h.ch.trans h2.ch⟩
theorem draw_shp : ∀ (f : Nat) (x : Nd) (m : Mt) (r : Rs) (x' : Nd) (m' : Mt), draw f x m = some (r, x', m') → Shp x' x
  | 0, _, _, _, _, _, h => by simp only [draw] at h; cases h
  | f + 1, .mkr (.row ns) g, m, r, x', m', h => by
    simp only [draw] at h
    split at h
    · cases h; exact Shp.refl _
    · split at h <;> (cases h; exact ⟨rfl, rfl, rfl⟩)
  | f + 1, .mkr (.count b s) g, m, r, x', m', h => by
    simp only [draw] at h
    split at h <;> (cases h; exact ⟨rfl, rfl, rfl⟩)
  | f + 1, .st k o c, m, r, x', m', h => by
    rw [draw_st] at h
    split at h
    · cases h; exact Shp.refl _
    · split at h
      · cases h; exact Shp.st (Shp.refl _)
      · split at h
        · cases h
        · rename_i hd
          have F := draw_shp f _ _ _ _ _ hd
          split at h
          · exact (draw_shp f _ _ _ _ _ h).trans F.st
          · cases h; exact F.st
          · cases h; exact F.st
        · rename_i hd
          have F := draw_shp f _ _ _ _ _ hd
          cases h; exact F.st
        · rename_i hd
          have F := draw_shp f _ _ _ _ _ hd
          cases h; exact F.st
  | f + 1, .both o c d, m, r, x', m', h => by
    rw [draw_both] at h
    split at h
    · cases h; exact Shp.refl _
    · split at h
      · cases h
      · rename_i h1
        have F := draw_shp f _ _ _ _ _ h1
        split at h
        · cases h
        · rename_i h2
          have G := draw_shp f _ _ _ _ _ h2
          cases h; exact F.both G
        · rename_i h2
          have G := draw_shp f _ _ _ _ _ h2
          cases h; exact F.both G
        · rename_i h2
          have G := draw_shp f _ _ _ _ _ h2
          cases h; exact F.both G
      · rename_i h1
        have F := draw_shp f _ _ _ _ _ h1
        cases h; exact F.both (Shp.refl _)
      · rename_i h1
        have F := draw_shp f _ _ _ _ _ h1
        cases h; exact F.both (Shp.refl _)
  | f + 1, .thn o c d, m, r, x', m', h => by
    rw [draw_thn] at h
    split at h
    · cases h; exact Shp.refl _
    · split at h
      · split at h
        · cases h
        · rename_i h2
          have G := draw_shp f _ _ _ _ _ h2
          cases h; exact (Shp.refl c).thn G
      · split at h
        · cases h
        · rename_i h1
          have F := draw_shp f _ _ _ _ _ h1
          split at h
          · cases h
          · rename_i h2
            have G := draw_shp f _ _ _ _ _ h2
            cases h; exact F.thn G
        · rename_i h1
          have F := draw_shp f _ _ _ _ _ h1
          cases h; exact F.thn (Shp.refl _)
        · rename_i h1
          have F := draw_shp f _ _ _ _ _ h1
          cases h; exact F.thn (Shp.refl _)
/-! ### what the law asks of its draws -/
def Rs.an (r : Rs) (H' : Hp) (v : V) : Prop :=
  match r with
  | .num n => ∃ q, v = .ref q ∧ H' q = some (.lst [.int n])
  | .fin => v = .str "end"
  | .long => v = .str "long"
structure LAsk (d : Nat) (A : LS) (p : Addr) (cF : Ch) (st : Bool) (bs pre post : List Int) (own : OwnL) (preM postM : List Mkr) (x : Nd) (m : Mt) (r : Rs) (x' : Nd) (m' : Mt) (H : Hp) (Q : VK) : Prop where
  sep : LSep A
  la : LAt H A st m bs (pre ++ x.gv ++ post) own (preM ++ x.mks ++ postM)
  pm : preM.length = pre.length
  ch : ChAt H p cF
  px : x.ch = Ch.of cF.root (cF.sgs.take x.len)
  pl : x.len ≤ cF.sgs.length
  nd : LNd H own pre.length x
  ok : OwnOk H own
  sz : own.length + cnt own pre.length x ≤ 1000
  inv : x.inv
  dep : x.dep ≤ d
  bk : m.book ≤ 200
  al : m.lost.length + x.alive ≤ 1000
  le : x.le (2 ^ 63 + m.book)
  nm : x.gv.length ≤ 4
  go : ∀ H' v own', r.an H' v → (∀ q, v = .ref q → q ≠ A.lg ∧ q ≠ A.ll) → LAt H' A st m' bs (pre ++ x'.gv ++ post) own' (preM ++ x.mks ++ postM) → LNd H' own' pre.length x' → OwnOk H' own' → own'.length + cnt own' pre.length x' ≤ own.length + cnt own pre.length x →
    Kept (InD pre.length x) H own H' own' → (∀ b, b ∈ ods own' → b ∈ ods own ∨ H b = none) → Fr (A.ld :: A.lg :: A.ll :: A.lo :: ods own) H H' → Q v H'
def spLDraw (d : Nat) : Sp := fun vs H Q _ => ∃ A p cF st bs pre post own preM postM x m f r x' m', vs = [.ref A.ld, .ref p, .int (x.len : Nat), .int (pre.length : Nat)] ∧ draw f x m = some (r, x', m') ∧ LAsk d A p cF st bs pre post own preM postM x m r x' m' H Q
/-- the topmost stage's own things -/
def Nd.top : Nd → Ow
  | .mkr _ _ => ow0
  | .st _ o _ => o
  | .both o _ _ => o
  | .thn o _ _ => o
def Nd.setTop : Nd → Ow → Nd
  | .mkr m g, _ => .mkr m g
  | .st k _ c, o => .st k o c
  | .both _ c d, o => .both o c d
  | .thn _ c d, o => .thn o c d
structure BAsk (d : Nat) (A : LS) (p od : Addr) (cF : Ch) (st : Bool) (bs pre post : List Int) (own : OwnL) (preM postM : List Mkr) (x : Nd) (m : Mt) (r : Rs) (x' : Nd) (m' : Mt) (H : Hp) (Q : VK) : Prop where
  sep : LSep A
  la : LAt H A st m bs (pre ++ x.gv ++ post) own (preM ++ x.mks ++ postM)
  pm : preM.length = pre.length
  ch : ChAt H p cF
  px : x.ch = Ch.of cF.root (cF.sgs.take x.len)
  pl : x.len ≤ cF.sgs.length
  ps : 1 ≤ x.len
  ow : valV own (key pre.length x.len) = some (.ref od)
  oh : H od = some (.dK x.top.kvs)
  ov : x.top.over = false
  nd : LNd H own pre.length x
  ok : OwnOk H own
  sz : own.length + cnt own pre.length x ≤ 1000
  inv : x.inv
  dep : x.dep ≤ d
  bk : m.book ≤ 200
  al : m.lost.length + x.alive ≤ 1000
  le : x.le (2 ^ 63 + m.book)
  nm : x.gv.length ≤ 4
  go : ∀ H' v own' o1, r.an H' v → (∀ q, v = .ref q → q ≠ A.lg ∧ q ≠ A.ll) → x'.top = o1.fin r → LAt H' A st m' bs (pre ++ x'.gv ++ post) own' (preM ++ x.mks ++ postM) → LNd H' own' pre.length (x'.setTop o1) → OwnOk H' own' → own'.length + cnt own' pre.length x' ≤ own.length + cnt own pre.length x →
    valV own' (key pre.length x.len) = some (.ref od) → H' od = some (.dK o1.kvs) →
    Kept (InD pre.length x) H own H' own' → (∀ b, b ∈ ods own' → b ∈ ods own ∨ H b = none) → Fr (A.ld :: A.lg :: A.ll :: A.lo :: ods own) H H' → Q v H'
def spLBy (d : Nat) : Sp := fun vs H Q _ => ∃ A p od cF st bs pre post own preM postM x m f r x' m', vs = [.ref A.ld, .ref p, .int (x.len : Nat), .int (pre.length : Nat), .ref od] ∧ draw f x m = some (r, x', m') ∧ BAsk d A p od cF st bs pre post own preM postM x m r x' m' H Q
section
variable {P : Program} {w : World} {K : PySem.W.Frag} {mg : Str → Option Value} {base : Heap} {J : Cls'} {f f2 : Addr} {fd fd2 : FuncData}
theorem mkr_of {f : Nat} {k : Mkr} {g : Nat} {m m' : Mt} {r : Rs} {x' : Nd} (h : draw f (.mkr k g) m = some (r, x', m')) : ∃ g', x' = .mkr k g' := by
  cases f with
  | zero => simp only [draw] at h; cases h
  | succ f =>
    cases k with
    | row ns =>
      simp only [draw] at h
      split at h
      · cases h; exact ⟨_, rfl⟩
      · split at h <;> (cases h; exact ⟨_, rfl⟩)
    | count b s =>
      simp only [draw] at h
      split at h <;> (cases h; exact ⟨_, rfl⟩)
/-- an own dict is none of the other things -/
theorem LAt.own_ne {H : Hp} {A : LS} {st : Bool} {m : Mt} {bs gs : List Int} {own : OwnL} {ml : List Mkr} (G : LAt H A st m bs gs own ml) {k : List L2.Key} {od : Addr} {o : Ow} (_ : valV own k = some (.ref od)) (q : H od = some (.dK (Ow.kvs o))) :
    od ≠ A.ld ∧ od ≠ A.lg ∧ od ≠ A.ll ∧ od ≠ A.lb ∧ od ≠ A.la ∧ od ≠ A.lo :=
  ⟨ne_of q G.ob (by intro z; cases z), ne_of q G.lg (by intro z; cases z), ne_of q G.ll (by intro z; cases z), ne_of q G.lb (by intro z; cases z), ne_of q G.mkl (by intro z; cases z), ne_of q G.lo (by intro z; cases z)⟩
theorem LAt.fr {H H' : Hp} {A : LS} {st : Bool} {m : Mt} {bs gs : List Int} {own : OwnL} {ml : List Mkr} {S : List Addr} (G : LAt H A st m bs gs own ml) (f : Fr S H H') (n : ∀ b, b ∈ [A.ld, A.la, A.lg, A.ll, A.lb, A.lo] → b ∉ S) : LAt H' A st m bs gs own ml :=
  ⟨f.at G.ob (n _ (by simp)), f.at G.mkl (n _ (by simp)), G.mks.fr f, f.at G.lg (n _ (by simp)), f.at G.ll (n _ (by simp)), f.at G.lb (n _ (by simp)), f.at G.lo (n _ (by simp))⟩
theorem LAt.setOwn {H : Hp} {A : LS} {st : Bool} {m : Mt} {bs gs : List Int} {own : OwnL} {ml : List Mkr} (G : LAt H A st m bs gs own ml) (own' : OwnL) : LAt (upd H A.lo (.dT own')) A st m bs gs own' ml :=
  ⟨upd_other (ne_of G.ob G.lo (by intro z; cases z)) G.ob, upd_other (ne_of G.mkl G.lo (by intro z; cases z)) G.mkl, G.mks.fr (Fr.put (S := [A.lo]) (by simp) (nt G.lo)), upd_other (ne_of G.lg G.lo (by intro z; cases z)) G.lg, upd_other (ne_of G.ll G.lo (by intro z; cases z)) G.ll, upd_other (ne_of G.lb G.lo (by intro z; cases z)) G.lb, upd_same⟩
theorem OwnOk.fr {H H' : Hp} {own : OwnL} {S : List Addr} (G : OwnOk H own) (f : Fr S H H') (n : ∀ {k : List L2.Key} {od : Addr} {o : Ow}, valV own k = some (.ref od) → H od = some (.dK (Ow.kvs o)) → od ∉ S) : OwnOk H' own :=
  ⟨fun k v e => let ⟨od, o, z1, z2⟩ := G.dict k v e; ⟨od, o, z1, f.at z2 (n (z1 ▸ e) z2)⟩, G.inj, G.nd⟩
/-! ### a stage's top and what is below -/
def LIn (H : Hp) (own : OwnL) : Nat → Nd → Prop
  | _, .mkr _ _ => True
  | off, .st _ _ c => LNd H own off c
  | off, .both _ c d => LNd H own off c ∧ LNd H own (off + c.gv.length) d
  | off, .thn _ c d => LNd H own off c ∧ LNd H own (off + c.gv.length) d
def cin (own : OwnL) : Nat → Nd → Nat
  | _, .mkr _ _ => 0
  | off, .st _ _ c => cnt own off c
  | off, .both _ c d => cnt own off c + cnt own (off + c.gv.length) d
  | off, .thn _ c d => cnt own off c + cnt own (off + c.gv.length) d
theorem LNd.split {H : Hp} {own : OwnL} {off : Nat} {x : Nd} (hx : 1 ≤ x.len) : LNd H own off x ↔ OwAt H own (key off x.len) x.top ∧ LIn H own off x := by
  cases x with
  | mkr m g => exact absurd hx (Nat.not_succ_le_zero _)
  | st k o c => exact Iff.rfl
  | both o c d => exact Iff.rfl
  | thn o c d => exact Iff.rfl
theorem cnt_split {own : OwnL} {off : Nat} {x : Nd} (hx : 1 ≤ x.len) : cnt own off x = isN (valV own (key off x.len)) + cin own off x := by
  cases x with
  | mkr m g => exact absurd hx (Nat.not_succ_le_zero _)
  | st k o c => rfl
  | both o c d => exact Nat.add_assoc _ _ _
  | thn o c d => exact Nat.add_assoc _ _ _
theorem below_ne {off : Nat} {x : Nd} {i a : Nat} (z : (i = off ∧ a < x.len) ∨ (off < i ∧ i < off + x.gv.length)) : key i a ≠ key off x.len := fun e => by
  obtain ⟨e1, e2⟩ := key_inj e
  omega
theorem LIn.kept {K : List L2.Key → Prop} {H H' : Hp} {own own' : OwnL} (q : Kept K H own H' own') {off : Nat} {x : Nd} (n : ∀ k, InD off x k → k ≠ key off x.len → ¬ K k) (h : LIn H own off x) : LIn H' own' off x := by
  cases x with
  | mkr m g => exact trivial
  | st k o c =>
      refine LNd.kept q (show LNd H own off c from h) fun k' ⟨i, a, e, z⟩ => ?_
      have z' : (i = off ∧ a < (Nd.st k o c).len) ∨ (off < i ∧ i < off + (Nd.st k o c).gv.length) := z.imp (fun ⟨z1, z2⟩ => ⟨z1, Nat.lt_succ_of_le z2⟩) id
      exact n k' ⟨i, a, e, z'.imp (fun ⟨z1, z2⟩ => ⟨z1, Nat.le_of_lt z2⟩) id⟩ (e ▸ below_ne z')
  | both o c d =>
    refine ⟨LNd.kept q h.1 fun k' ⟨i, a, e, z⟩ => ?_, LNd.kept q h.2 fun k' ⟨i, a, e, z⟩ => ?_⟩
    · have z' : (i = off ∧ a < (Nd.both o c d).len) ∨ (off < i ∧ i < off + (Nd.both o c d).gv.length) := z.imp (fun ⟨z1, z2⟩ => ⟨z1, Nat.lt_succ_of_le z2⟩) (fun ⟨z1, z2⟩ => ⟨z1, by show i < off + (c.gv ++ d.gv).length; rw [List.length_append]; omega⟩)
      exact n k' ⟨i, a, e, z'.imp (fun ⟨z1, z2⟩ => ⟨z1, Nat.le_of_lt z2⟩) id⟩ (e ▸ below_ne z')
    · have z' : (i = off ∧ a < (Nd.both o c d).len) ∨ (off < i ∧ i < off + (Nd.both o c d).gv.length) := .inr (by
        have hc := c.gv_pos
        have hd := d.gv_pos
        show off < i ∧ i < off + (c.gv ++ d.gv).length
        rw [List.length_append]
        rcases z with ⟨z1, z2⟩ | ⟨z1, z2⟩ <;> omega)
      exact n k' ⟨i, a, e, z'.imp (fun ⟨z1, z2⟩ => ⟨z1, Nat.le_of_lt z2⟩) id⟩ (e ▸ below_ne z')
  | thn o c d =>
    refine ⟨LNd.kept q h.1 fun k' ⟨i, a, e, z⟩ => ?_, LNd.kept q h.2 fun k' ⟨i, a, e, z⟩ => ?_⟩
    · have z' : (i = off ∧ a < (Nd.thn o c d).len) ∨ (off < i ∧ i < off + (Nd.thn o c d).gv.length) := z.imp (fun ⟨z1, z2⟩ => ⟨z1, Nat.lt_succ_of_le z2⟩) (fun ⟨z1, z2⟩ => ⟨z1, by show i < off + (c.gv ++ d.gv).length; rw [List.length_append]; omega⟩)
      exact n k' ⟨i, a, e, z'.imp (fun ⟨z1, z2⟩ => ⟨z1, Nat.le_of_lt z2⟩) id⟩ (e ▸ below_ne z')
    · have z' : (i = off ∧ a < (Nd.thn o c d).len) ∨ (off < i ∧ i < off + (Nd.thn o c d).gv.length) := .inr (by
        have hc := c.gv_pos
        have hd := d.gv_pos
        show off < i ∧ i < off + (c.gv ++ d.gv).length
        rw [List.length_append]
        rcases z with ⟨z1, z2⟩ | ⟨z1, z2⟩ <;> omega)
      exact n k' ⟨i, a, e, z'.imp (fun ⟨z1, z2⟩ => ⟨z1, Nat.le_of_lt z2⟩) id⟩ (e ▸ below_ne z')
theorem cin.kept {K : List L2.Key → Prop} {H H' : Hp} {own own' : OwnL} (q : Kept K H own H' own') {off : Nat} {x : Nd} (n : ∀ k, InD off x k → k ≠ key off x.len → ¬ K k) : cin own' off x = cin own off x := by
  cases x with
  | mkr m g => rfl
  | st k o c =>
      refine cnt.kept q (off := off) (x := c) fun k' ⟨i, a, e, z⟩ => ?_
      have z' : (i = off ∧ a < (Nd.st k o c).len) ∨ (off < i ∧ i < off + (Nd.st k o c).gv.length) := z.imp (fun ⟨z1, z2⟩ => ⟨z1, Nat.lt_succ_of_le z2⟩) id
      exact n k' ⟨i, a, e, z'.imp (fun ⟨z1, z2⟩ => ⟨z1, Nat.le_of_lt z2⟩) id⟩ (e ▸ below_ne z')
  | both o c d =>
    show cnt own' off c + cnt own' _ d = cnt own off c + cnt own _ d
    rw [cnt.kept q (off := off) (x := c) fun k' ⟨i, a, e, z⟩ => ?_, cnt.kept q (off := off + c.gv.length) (x := d) fun k' ⟨i, a, e, z⟩ => ?_]
    · have z' : (i = off ∧ a < (Nd.both o c d).len) ∨ (off < i ∧ i < off + (Nd.both o c d).gv.length) := .inr (by
        have hc := c.gv_pos
        have hd := d.gv_pos
        show off < i ∧ i < off + (c.gv ++ d.gv).length
        rw [List.length_append]
        rcases z with ⟨z1, z2⟩ | ⟨z1, z2⟩ <;> omega)
      exact n k' ⟨i, a, e, z'.imp (fun ⟨z1, z2⟩ => ⟨z1, Nat.le_of_lt z2⟩) id⟩ (e ▸ below_ne z')
    · have z' : (i = off ∧ a < (Nd.both o c d).len) ∨ (off < i ∧ i < off + (Nd.both o c d).gv.length) := z.imp (fun ⟨z1, z2⟩ => ⟨z1, Nat.lt_succ_of_le z2⟩) (fun ⟨z1, z2⟩ => ⟨z1, by show i < off + (c.gv ++ d.gv).length; rw [List.length_append]; omega⟩)
      exact n k' ⟨i, a, e, z'.imp (fun ⟨z1, z2⟩ => ⟨z1, Nat.le_of_lt z2⟩) id⟩ (e ▸ below_ne z')
  | thn o c d =>
    show cnt own' off c + cnt own' _ d = cnt own off c + cnt own _ d
    rw [cnt.kept q (off := off) (x := c) fun k' ⟨i, a, e, z⟩ => ?_, cnt.kept q (off := off + c.gv.length) (x := d) fun k' ⟨i, a, e, z⟩ => ?_]
    · have z' : (i = off ∧ a < (Nd.thn o c d).len) ∨ (off < i ∧ i < off + (Nd.thn o c d).gv.length) := .inr (by
        have hc := c.gv_pos
        have hd := d.gv_pos
        show off < i ∧ i < off + (c.gv ++ d.gv).length
        rw [List.length_append]
        rcases z with ⟨z1, z2⟩ | ⟨z1, z2⟩ <;> omega)
      exact n k' ⟨i, a, e, z'.imp (fun ⟨z1, z2⟩ => ⟨z1, Nat.le_of_lt z2⟩) id⟩ (e ▸ below_ne z')
    · have z' : (i = off ∧ a < (Nd.thn o c d).len) ∨ (off < i ∧ i < off + (Nd.thn o c d).gv.length) := z.imp (fun ⟨z1, z2⟩ => ⟨z1, Nat.lt_succ_of_le z2⟩) (fun ⟨z1, z2⟩ => ⟨z1, by show i < off + (c.gv ++ d.gv).length; rw [List.length_append]; omega⟩)
      exact n k' ⟨i, a, e, z'.imp (fun ⟨z1, z2⟩ => ⟨z1, Nat.le_of_lt z2⟩) id⟩ (e ▸ below_ne z')
theorem setTop_in (H : Hp) (own : OwnL) (off : Nat) (x : Nd) (o : Ow) : LIn H own off (x.setTop o) = LIn H own off x := by cases x <;> rfl
theorem setTop_len (x : Nd) (o : Ow) : (x.setTop o).len = x.len := by cases x <;> rfl
theorem ovr_top (x : Nd) : x.ovr = x.top.over := by cases x <;> rfl
/-- an own dict is written -/
theorem kept_put {H : Hp} {own : OwnL} (G : OwnOk H own) {k : List L2.Key} {od : Addr} (e : valV own k = some (.ref od)) (v : HO) : Kept (fun k' => k' = k) H own (upd H od v) own := fun k' nk => by
  refine ⟨rfl, fun od' o e' q => ?_⟩
  have n : od' ≠ od := fun z => nk (G.inj k' k od (z ▸ e') e)
  exact upd_other n q
theorem OwnOk.put {H : Hp} {own : OwnL} (G : OwnOk H own) {k : List L2.Key} {od : Addr} (e : valV own k = some (.ref od)) (o : Ow) : OwnOk (upd H od (.dK o.kvs)) own := by
  refine ⟨fun k' v e' => ?_, G.inj, G.nd⟩
  obtain ⟨od', o', rfl, q⟩ := G.dict k' v e'
  by_cases z : od' = od
  · subst z; exact ⟨_, o, rfl, upd_same⟩
  · exact ⟨_, o', rfl, upd_other z q⟩
theorem draw_nofin_live : ∀ (f : Nat) (x : Nd) (m : Mt) (r : Rs) (x' : Nd) (m' : Mt), draw f x m = some (r, x', m') → r ≠ .fin → x'.ovr = false
  | 0, _, _, _, _, _, h, _ => by simp only [draw] at h; cases h
  | f + 1, .mkr (.row ns) g, m, r, x', m', h, n => by obtain ⟨g', rfl⟩ := mkr_of h; rfl
  | f + 1, .mkr (.count b s) g, m, r, x', m', h, n => by obtain ⟨g', rfl⟩ := mkr_of h; rfl
  | f + 1, .st k o c, m, r, x', m', h, n => by
    rw [draw_st] at h
    split at h
    · cases h; exact absurd rfl n
    · rename_i ho
      have ho' : o.over = false := by cases q : o.over with | true => exact absurd q ho | false => rfl
      split at h
      · rename_i r0 o' ha
        cases h
        cases r with
        | fin => exact absurd rfl n
        | num v => exact (ahead_over ha).trans ho'
        | long => exact (ahead_over ha).trans ho'
      · split at h
        · cases h
        · rename_i v c' m1 hd
          split at h
          · exact draw_nofin_live f _ _ _ _ _ h n
          · rename_i w o' hp
            cases h
            exact (pass_over.2 _ _ hp).trans ho'
          · cases h; exact absurd rfl n
        · cases h; exact absurd rfl n
        · cases h; exact ho'
  | f + 1, .both o c d, m, r, x', m', h, n => by
    rw [draw_both] at h
    split at h
    · cases h; exact absurd rfl n
    · rename_i ho
      have ho' : o.over = false := by cases q : o.over with | true => exact absurd q ho | false => rfl
      split at h
      · cases h
      · split at h <;> cases h
        · exact ho'
        · exact absurd rfl n
        · exact ho'
      · cases h; exact absurd rfl n
      · cases h; exact ho'
  | f + 1, .thn o c d, m, r, x', m', h, n => by
    rw [draw_thn] at h
    split at h
    · cases h; exact absurd rfl n
    · rename_i ho
      have ho' : o.over = false := by cases q : o.over with | true => exact absurd q ho | false => rfl
      split at h
      · split at h <;> cases h
        cases r with
        | fin => exact absurd rfl n
        | num v => exact ho'
        | long => exact ho'
      · split at h
        · cases h
        · split at h <;> cases h
          cases r with
          | fin => exact absurd rfl n
          | num v => exact ho'
          | long => exact ho'
        · cases h; exact ho'
        · cases h; exact ho'
/-! ### found == 'end', a list -/
def Rs.isFin : Rs → Bool
  | .fin => true
  | _ => false
def Rs.isNum : Rs → Bool
  | .num _ => true
  | _ => false
theorem an_eqEnd {K : PySem.W.Frag} {r : Rs} {H : Hp} {v : V} {Q : VK} (h : r.an H v) (q : Q (.bl r.isFin) H) : rEqD K v (.str "end") H Q := by
  cases r with
  | num n => obtain ⟨p, rfl, e⟩ := h; exact ⟨.list [.int n], .str "end", .lst (SqL.of e) (.cons (.int n) .nil), .str _, rfl, by decide +kernel, q⟩
  | fin => obtain rfl := h; exact ⟨.str "end", .str "end", .str _, .str _, by decide +kernel, by decide +kernel, q⟩
  | long => obtain rfl := h; exact ⟨.str "long", .str "end", .str _, .str _, by decide +kernel, by decide +kernel, q⟩
theorem isi_str_list : kitB "str" "list" = some false := by decide +kernel
theorem isi_list_list : kitB "list" "list" = some true := by decide +kernel
theorem an_isList {K : PySem.W.Frag} {r : Rs} {H : Hp} {v : V} {Q : VK} (h : r.an H v) (q : Q (.bl r.isNum) H) : rIsi K [v, .ty "list"] H Q := by
  cases r with
  | num n => obtain ⟨p, rfl, e⟩ := h; exact rd_isi (.base (.lst e)) isi_list_list q
  | fin => obtain rfl := h; exact rd_isi (.base (.str _)) isi_str_list q
  | long => obtain rfl := h; exact rd_isi (.base (.str _)) isi_str_list q
theorem sc__law_draw : FnScope ["_law_d", "_law_chain", "_law_at", "_law_name", "_law_own", "_law_found"] ["_law_d", "_law_chain", "_law_at", "_law_name"] (defScope s__law_draw) := ⟨rfl, rfl, rfl, by decide +kernel, rfl, by decide +kernel, by decide +kernel⟩
theorem ok_law_draw {d : Nat} (T : Txt K mg) (F : FnP K "_law_draw" "_law_draw" s__law_draw f fd) (G__law_source : Cal P w K mg base CX0 1 "_law_source" ["_law_d", "_law_number"] spSource)
    (G__law_by : Cal P w K mg base CX0 (4 * d + 5) "_law_by" ["_law_d", "_law_chain", "_law_at", "_law_name", "_law_own"] (spLBy d)) : FnOk P w K mg base CX0 (4 * d + 6) f fd ["_law_d", "_law_chain", "_law_at", "_law_name"] (spLDraw d) := by
  refine ok0 F sc__law_draw (fun vs H Q E h => ?_) (fun cdv A outer s H vs Q E hr h => ?_)
  · obtain ⟨A, p, cF, st, bs, pre, post, own, preM, postM, x, m, f, r, x', m', rfl, _⟩ := h
    rfl
  · obtain ⟨A, p, cF, st, bs, pre, post, own, preM, postM, x, m, f, r, x', m', rfl, hd, G⟩ := h
    have hu := room1 hr
    have hu64 := hr.units
    refine ⟨_, (pss_cons (ps_if (pt_cmpR op_eq (pv 2) pe_int (nomark _))
    (pss_one (ps_ret (pe_cal G__law_source (hr.mono (by omega)) pass0 (pa_cons (pv 0) (pa_cons (pv 3) pa_nil))))) pss_nil)
  (Evl.pss_cut (ps_set (i := 4) sc__law_draw.nd rfl (Or.inl rfl) (pe_bm PySem.F.plainAttrs_dict PySem.F.slot_dict_setdefault PySem.F.type_dict_setdefault (mt_setdT hu) (pe_dget hu (pv 0) pe_str (fun _ _ => rfl)) (pa_cons (pe_tup (pa_cons (pv 3) (pa_cons (pv 2) pa_nil))) (pa_cons (pe_disp (pps_cons pe_str pe_bl (pps_cons pe_str pe_int (pps_cons pe_str pe_non (pps_cons pe_str pe_int pps_nil)))) rfl rfl (by intro q; cases q) (by decide)) pa_nil))))
  (pss_cons (ps_if (pt_val (pe_dget hu (pv 4) pe_str (fun _ _ => rfl)))
    (pss_one (ps_ret pe_str)) pss_nil)
  (pss_cons (ps_set (i := 5) sc__law_draw.nd rfl (Or.inl rfl) (pe_cal G__law_by (hr.mono (by omega)) pass0 (pa_cons (pv 0) (pa_cons (pv 1) (pa_cons (pv 2) (pa_cons (pv 3) (pa_cons (pv 4) pa_nil)))))))
  (pss_cons (ps_dput hu (pv 4) pe_str (pe_cmpR (op_eqDK K hu64) (pv 5) pe_str (nomark _)) rfl)
  (pss_cons (ps_if (pt_val (pe_callB (call_isiK1 K) (by rfl) T.free_isinstance (by decide +kernel) (pa_cons (pv 5) (pa_cons (pe_bltn (v := .ty "list") (u := .type "list") (by rfl) T.free_list (by decide +kernel) rfl) pa_nil))))
    (pss_cons (ps_dput hu (pv 4) pe_str (pe_op op_add (pe_dget hu (pv 4) pe_str (fun _ _ => rfl)) pe_int) rfl)
    (pss_one (ps_dput hu (pv 4) pe_str (pe_ix (ix_listK K) (pv 5) pe_int (fun _ _ => rfl)) rfl))) pss_nil)
  (pss_one (ps_ret (pv 5))))))))), ?_⟩
    try dsimp only [cxOf, Cx.nox, Cx.wish]
    refine rd_at (σ' := [some (.ref A.ld), some (.ref p), some (.int (x.len : Nat)), some (.int (pre.length : Nat))] ++ List.replicate (["_law_d", "_law_chain", "_law_at", "_law_name", "_law_own", "_law_found"].length - 4) none) rfl ?_
    rcases Nat.eq_zero_or_pos x.len with hx0 | hx
    · obtain ⟨k, g, hxl⟩ : ∃ k g, x = .mkr k g := by
        cases x with
        | mkr k g => exact ⟨k, g, rfl⟩
        | st k o c => cases hx0
        | both o c d => cases hx0
        | thn o c d => cases hx0
      subst hxl
      obtain ⟨g', rfl⟩ := mkr_of hd
      have hg : g ≤ 2 ^ 63 + m.book := G.le
      have hb := G.bk
      walk_at "go"
      refine rd_T rfl ?_
      walk_at "go"
      refine ⟨A, st, m, bs, pre, post, own, preM, postM, k, g, f, r, _, m', rfl, G.sep, G.la, G.pm, by omega, hb, hd, fun H' v an la' f' => ?_⟩
      refine G.go H' v own ?_ (fun q z => ?_) la' trivial (G.ok.fr f' fun e q => by have := G.la.own_ne e q; simpa using ⟨this.1, this.2.1⟩) (Nat.le_refl _) (fun k _ => ⟨rfl, fun od o e q => f'.at q (by have := G.la.own_ne e q; simpa using ⟨this.1, this.2.1⟩)⟩) (fun b hb => .inl hb) (f'.mono fun b hb => by simp only [List.mem_cons, List.not_mem_nil, or_false] at hb ⊢; rcases hb with rfl | rfl <;> simp)
      · cases r with
        | num n => obtain ⟨q, e1, e2, _⟩ := an; exact ⟨q, e1, e2⟩
        | fin => exact an
        | long => exact an
      · cases r with
        | num n =>
          obtain ⟨q', e1, e2, e3⟩ := an
          rw [e1] at z
          cases z
          exact ⟨(ne_of_none G.la.lg e3).symm, (ne_of_none G.la.ll e3).symm⟩
        | fin => rw [show v = _ from an] at z; cases z
        | long => rw [show v = _ from an] at z; cases z
    · have hs := (LNd.split hx).mp G.nd
      have shp := draw_shp _ _ _ _ _ _ hd
      have Fd := draw_facts _ _ _ _ _ _ hd G.inv G.bk
      walk_at "go"
      refine rd_F (fun z => by have := V.int.inj z; omega) ?_
      walk_at "go"
      refine ⟨fun σ1 H1 => ∃ own1 od, σ1 = [some (.ref A.ld), some (.ref p), some (.int (x.len : Nat)), some (.int (pre.length : Nat)), some (.ref od), none] ∧ LAt H1 A st m bs (pre ++ x.gv ++ post) own1 (preM ++ x.mks ++ postM) ∧ LNd H1 own1 pre.length x ∧ OwnOk H1 own1 ∧
        own1.length + cnt own1 pre.length x ≤ own.length + cnt own pre.length x ∧ valV own1 (key pre.length x.len) = some (.ref od) ∧ Kept (InD pre.length x) H own H1 own1 ∧ (∀ b, b ∈ ods own1 → b ∈ ods own ∨ H b = none) ∧ Fr (A.ld :: A.lg :: A.ll :: A.lo :: ods own) H H1, ?_, ?_⟩
      · walk_at "go"
        refine rd_gk rfl G.la.ob rfl ?_
        refine ⟨.inr (.inr (.inl ⟨rfl, .inr ⟨_, G.la.lo⟩⟩)), ?_⟩
        walk_at "go"
        refine ⟨by show 2 ≤ sizeLine; decide, fun kt hkt => ?_⟩
        walk_at "go"
        intro q hq
        refine ⟨upd_same, [(.inr "over", .bl false), (.inr "told", .int 0), (.inr "last", .non), (.inr "left", .int 0)], rfl, by decide, ?_⟩
        have hq0 : H q = none := (none_upd hq).2
        have f0 : Fr [] H (upd (upd (upd H kt (.tup [.int (pre.length : Nat), .int (x.len : Nat)])) q (.dK [])) q (.dK ow0.kvs)) := ((Fr.new hkt).newN hq).putN (.inr hq0) (nt upd_same)
        have ek : upd (upd (upd H kt (.tup [.int (pre.length : Nat), .int (x.len : Nat)])) q (.dK [])) q (.dK ow0.kvs) kt = some (.tup ((key pre.length x.len).map kV)) := upd_other (none_upd hq).1.symm (upd_other (none_upd hq).1.symm upd_same)
        have eq0 : upd (upd (upd H kt (.tup [.int (pre.length : Nat), .int (x.len : Nat)])) q (.dK [])) q (.dK ow0.kvs) q = some (.dK ow0.kvs) := upd_same
        have la0 := G.la.fr f0 (by simp)
        have ok0 := G.ok.fr f0 fun _ _ => by simp
        have kp0 : Kept (InD pre.length x) H own (upd (upd (upd H kt (.tup [.int (pre.length : Nat), .int (x.len : Nat)])) q (.dK [])) q (.dK ow0.kvs)) own := fun k _ => ⟨rfl, fun od o e z => f0.at z (by simp)⟩
        show rSetdT (.ref A.lo) [.ref kt, .ref q] (upd (upd (upd H kt (.tup [.int (pre.length : Nat), .int (x.len : Nat)])) q (.dK [])) q (.dK ow0.kvs)) _
        generalize upd (upd (upd H kt (.tup [.int (pre.length : Nat), .int (x.len : Nat)])) q (.dK [])) q (.dK ow0.kvs) = H0 at *
        refine rd_setdT (k := key pre.length x.len) la0.lo ek (by have := G.sz; exact Nat.lt_of_le_of_lt (show own.length ≤ 1000 by omega) (by decide)) (fun v hv => ?_) (fun hn => ?_)
        · obtain ⟨od, o, rfl, _⟩ := G.ok.dict _ _ hv
          walk_at "go"
          exact ⟨own, od, rfl, la0, G.nd.kept (K := fun _ => False) (fun k _ => ⟨rfl, fun od o e z => f0.at z (by simp)⟩) (fun _ _ z => z), ok0, Nat.le_refl _, hv, kp0, fun b hb => .inl hb, f0.mono fun b hb => by cases hb⟩
        · have top0 : x.top = ow0 := by
            rcases hs.1 with ⟨od, e, _⟩ | ⟨_, e⟩
            · rw [hn] at e; cases e
            · exact e
          have nqlo : q ≠ A.lo := ne_of eq0 la0.lo (by intro z; cases z)
          have kp1 : Kept (fun k' => k' = key pre.length x.len) H own (upd H0 A.lo (.dT (putK own (key pre.length x.len) (.ref q)))) (putK own (key pre.length x.len) (.ref q)) := fun k' nk => by
            refine ⟨by rw [valV_put, if_neg nk], fun od o e z => ?_⟩
            exact upd_other (G.la.own_ne e z).2.2.2.2.2 (f0.at z (by simp))
          walk_at "go"
          refine ⟨putK own (key pre.length x.len) (.ref q), q, rfl, la0.setOwn _, (LNd.split hx).mpr ⟨.inl ⟨q, by rw [valV_put, if_pos rfl], by rw [top0]; exact upd_other nqlo eq0⟩, LIn.kept kp1 (fun k _ n z => n z) hs.2⟩, ⟨fun k' v e => ?_, fun k1 k2 od e1 e2 => ?_, put_nodup hn G.ok.nd⟩, ?_, by rw [valV_put, if_pos rfl], kp1.mono fun k z => ⟨_, _, z, .inl ⟨rfl, Nat.le_refl _⟩⟩, fun b hb => ?_, (f0.mono fun b hb => by cases hb).putN (.inl (by simp)) (nt la0.lo)⟩
          · rw [valV_put] at e
            by_cases z : k' = key pre.length x.len
            · rw [if_pos z] at e
              exact ⟨q, ow0, (Option.some.inj e).symm, upd_other nqlo eq0⟩
            · rw [if_neg z] at e
              obtain ⟨od, o, e2, e3⟩ := G.ok.dict _ _ e
              exact ⟨od, o, e2, upd_other (G.la.own_ne (e2 ▸ e) e3).2.2.2.2.2 (f0.at e3 (by simp))⟩
          · rw [valV_put] at e1 e2
            by_cases z1 : k1 = key pre.length x.len
            · by_cases z2 : k2 = key pre.length x.len
              · rw [z1, z2]
              · rw [if_pos z1] at e1
                rw [if_neg z2] at e2
                cases e1
                obtain ⟨od', o, e3, e4⟩ := G.ok.dict _ _ e2
                cases e3
                exact (nocon hq0 e4).elim
            · by_cases z2 : k2 = key pre.length x.len
              · rw [if_neg z1] at e1
                rw [if_pos z2] at e2
                cases e2
                obtain ⟨od', o, e3, e4⟩ := G.ok.dict _ _ e1
                cases e3
                exact (nocon hq0 e4).elim
              · rw [if_neg z1] at e1
                rw [if_neg z2] at e2
                exact G.ok.inj _ _ _ e1 e2
          · rw [cnt_split hx, cnt_split hx, cin.kept kp1 (fun k _ n z => n z), valV_put, if_pos rfl, hn]
            have := length_putK own (key pre.length x.len) (.ref q)
            show _ + (0 + _) ≤ _ + (1 + _)
            omega
          · rcases ods_put hb with rfl | z
            · exact .inr hq0
            · exact .inl z
      · rintro σ1 H1 ⟨own1, od, rfl, la1, nd1, ok1, sz1, val1, kp1, od1, f1⟩
        have oh : H1 od = some (.dK x.top.kvs) := by
          rcases ((LNd.split hx).mp nd1).1 with ⟨od', e, z⟩ | ⟨e, _⟩
          · rw [val1] at e; cases e; exact z
          · rw [val1] at e; cases e
        walk_at "go"
        refine rd_gk rfl oh rfl ?_
        walk_at "go"
        refine rd_b (fun c => ?_) (fun c => ?_)
        · obtain ⟨rfl, rfl, rfl⟩ := draw_ovr ((ovr_top x).trans c) hd
          walk_at "go"
          exact G.go H1 _ own1 rfl (fun q z => by cases z) la1 nd1 ok1 sz1 kp1 od1 f1
        · walk_at "go"
          refine ⟨A, p, od, cF, st, bs, pre, post, own1, preM, postM, x, m, f, r, x', m', rfl, hd, ⟨G.sep, la1, G.pm, G.ch.fr f1, G.px, G.pl, hx, val1, oh, c, nd1, ok1, Nat.le_trans sz1 G.sz, G.inv, G.dep, G.bk, G.al, G.le, G.nm, fun H2 v own2 o1 an nl htop la2 nd2 ok2 sz2 val2 oh2 kp2 od2 f2 => ?_⟩⟩
          have one := la2.own_ne val2 oh2
          have hx' : 1 ≤ x'.len := by rw [shp.len]; exact hx
          have f12 : Fr (A.ld :: A.lg :: A.ll :: A.lo :: ods own) H H2 := f1.trans f2 fun b hb => by
            simp only [List.mem_cons] at hb ⊢
            rcases hb with z | z | z | z | z
            · exact .inl (.inl z)
            · exact .inl (.inr (.inl z))
            · exact .inl (.inr (.inr (.inl z)))
            · exact .inl (.inr (.inr (.inr (.inl z))))
            · exact (od1 b z).imp (fun z => .inr (.inr (.inr (.inr z)))) id
          have fin : ∀ H4, Fr [od] H2 H4 → H4 od = some (.dK x'.top.kvs) → r.an H4 v → Q v H4 := fun H4 f4 e4 an4 => by
            have kp4 : Kept (fun k' => k' = key pre.length x.len) H2 own2 H4 own2 := fun k' nk => ⟨rfl, fun od' o e z => f4.at z fun h => nk (ok2.inj k' _ od ((List.mem_singleton.mp h) ▸ e) val2)⟩
            have hin : LIn H2 own2 pre.length x' := by
              have := ((LNd.split (by rw [setTop_len]; exact hx')).mp nd2).2
              rw [setTop_in] at this
              exact this
            refine G.go H4 v own2 an4 nl (la2.fr f4 fun b hb h => ?_) ((LNd.split hx').mpr ⟨.inl ⟨od, by rw [shp.len]; exact val2, e4⟩, LIn.kept kp4 (fun k _ n z => n (by rw [shp.len]; exact z)) hin⟩) ⟨fun k' v' e => ?_, ok2.inj, ok2.nd⟩ (Nat.le_trans sz2 sz1) ?_ (fun b hb => ?_) (f12.trans f4 fun b hb => ?_)
            · rw [List.mem_singleton] at h
              subst h
              simp only [List.mem_cons, List.not_mem_nil, or_false] at hb
              obtain ⟨o1', o2', o3', o4', o5', o6'⟩ := one
              rcases hb with z | z | z | z | z | z
              · exact o1' z
              · exact o5' z
              · exact o2' z
              · exact o3' z
              · exact o4' z
              · exact o6' z
            · obtain ⟨od', o, e1, e2⟩ := ok2.dict k' v' e
              by_cases z : od' = od
              · exact ⟨od', _, e1, by rw [z]; exact e4⟩
              · exact ⟨od', o, e1, f4.at e2 (by simpa using z)⟩
            · exact kp1.trans (kp2.trans (kp4.mono fun k z => ⟨_, _, z, .inl ⟨rfl, Nat.le_refl _⟩⟩))
            · rcases od2 b hb with z | z
              · exact od1 b z
              · by_cases q : b ∈ ods own
                · exact .inl q
                · refine .inr (f1.free (fun h => ?_) z)
                  simp only [List.mem_cons] at h
                  rcases h with h | h | h | h | h
                  · exact nocon z (h ▸ la1.ob)
                  · exact nocon z (h ▸ la1.lg)
                  · exact nocon z (h ▸ la1.ll)
                  · exact nocon z (h ▸ la1.lo)
                  · exact q h
            · rw [List.mem_singleton] at hb
              subst hb
              rcases od1 _ (ods_val val1) with z | z
              · exact .inl (by simp [z])
              · exact .inr z
          clear kp2 od2 f2 nd2 sz2 f12 kp1 od1 f1 nd1 sz1 oh la1
          walk_at "go"
          refine rd_dp ?_
          walk_at "go"
          refine an_eqEnd an ?_
          walk_at "go"
          refine rd_dpk oh2 (by show 4 < sizeLine; decide) ?_
          have e3 : upd H2 od (.dK (Ow.kvs { o1 with over := r.isFin })) od = some (.dK (Ow.kvs { o1 with over := r.isFin })) := upd_same
          have f3 : Fr [od] H2 (upd H2 od (.dK (Ow.kvs { o1 with over := r.isFin }))) := Fr.put (by simp) (nt oh2)
          have an3 : r.an (upd H2 od (.dK (Ow.kvs { o1 with over := r.isFin }))) v := by
            cases r with
            | num n => obtain ⟨q, e1, e2⟩ := an; exact ⟨q, e1, upd_other (ne_of e2 oh2 (by intro z; cases z)) e2⟩
            | fin => exact an
            | long => exact an
          have ep : putK o1.kvs (.inr "over" : L2.Key) (.bl r.isFin) = Ow.kvs { o1 with over := r.isFin } := rfl
          rw [ep]
          generalize upd H2 od (.dK (Ow.kvs { o1 with over := r.isFin })) = H3 at *
          dsimp only
          walk_at "go"
          refine an_isList an3 ?_
          walk_at "go"
          cases r with
          | num n =>
            have o1f : o1.over = false := by
              have := draw_nofin_live _ _ _ _ _ _ hd (by intro z; cases z)
              rw [ovr_top, htop] at this
              exact this
            obtain ⟨fq, rfl, efq⟩ := an3
            have nq : fq ≠ od := ne_of efq e3 (by intro z; cases z)
            refine iteT ?_
            walk_at "go"
            refine rd_dp ?_
            walk_at "go"
            refine rd_gk rfl e3 rfl ?_
            walk_at "go"
            refine rd_dpk e3 (by show 4 < sizeLine; decide) ?_
            have e4 : upd H3 od (.dK (Ow.kvs { o1 with over := false, told := o1.told + 1 })) od = some (.dK (Ow.kvs { o1 with over := false, told := o1.told + 1 })) := upd_same
            have ep4 : putK (Ow.kvs { o1 with over := Rs.isFin (.num n) }) (.inr "told" : L2.Key) (.int ((o1.told : Int) + 1)) = Ow.kvs { o1 with over := false, told := o1.told + 1 } := rfl
            rw [ep4]
            have f4 := f3.putN (o := .dK (Ow.kvs { o1 with over := false, told := o1.told + 1 })) (.inl (by simp)) (nt e3)
            replace efq := upd_other (u := .dK (Ow.kvs { o1 with over := false, told := o1.told + 1 })) nq efq
            generalize upd H3 od (.dK (Ow.kvs { o1 with over := false, told := o1.told + 1 })) = H4 at *
            dsimp only
            refine rd_dp ?_
            walk_at "go"
            refine rd_dpk e4 (by show 4 < sizeLine; decide) ?_
            have ep5 : putK (Ow.kvs { o1 with over := false, told := o1.told + 1 }) (.inr "last" : L2.Key) (.int n) = Ow.kvs (o1.fin (.num n)) := by
              show Ow.kvs { o1 with over := false, told := o1.told + 1, last := some n } = Ow.kvs { o1 with told := o1.told + 1, last := some n }
              rw [← o1f]
            rw [ep5]
            dsimp only
            walk_at "go"
            exact fin _ (f4.putN (.inl (by simp)) (nt e4)) (by rw [upd_same, htop]) ⟨fq, rfl, upd_other nq efq⟩
          | fin =>
            refine iteF ?_
            walk_at "go"
            exact fin _ f3 (by rw [e3, htop]; rfl) an3
          | long =>
            have o1f : o1.over = false := by
              have := draw_nofin_live _ _ _ _ _ _ hd (by intro z; cases z)
              rw [ovr_top, htop] at this
              exact this
            refine iteF ?_
            walk_at "go"
            refine fin _ f3 ?_ an3
            rw [e3, htop]
            show some (HO.dK (Ow.kvs { o1 with over := false })) = some (HO.dK (Ow.kvs o1))
            rw [← o1f]
end
end Dc

set_option Elab.async false
set_option linter.all false
set_option maxRecDepth 100000
set_option maxHeartbeats 2000000
namespace Dc
open PySem PySem.Spec PyProof.Rows L2
local macro_rules | `(tactic| walk_at "ne") => `(tactic| first | assumption | (refine Ne.symm ?_; assumption) | exact ne_of (by assumption) (by assumption) (by intro q; cases q) | exact ne_of_none (by assumption) (by assumption) | exact Ne.symm (ne_of_none (by assumption) (by assumption)))
local macro_rules | `(tactic| walk_at "hp") => `(tactic| first | assumption | exact upd_same | (refine upd_keep ?_ (by assumption); walk_at "hp") | (refine upd_other ?_ ?_; · walk_at "ne"; · walk_at "hp"))
local macro_rules | `(tactic| walk_at "hl") => `(tactic| first | assumption | exact SqL.of (by walk_at "hp"))
local macro_rules | `(tactic| walk_at "ht") => `(tactic| first | assumption | exact SqT.of (by walk_at "hp"))
local macro_rules | `(tactic| walk_at "rd1") => `(tactic| first
  | ((with_reducible apply rd_var); exact rfl)
  | ((with_reducible apply rd_eq); exact rfl) | ((with_reducible apply rd_ne); exact rfl)
  | with_reducible first
  | refine iteT ?_ | refine iteF ?_ | refine rd_nF ?_ | refine rd_nT ?_ | refine rd_yes ?_ | refine rd_c ?_ | refine rd_op ?_ | refine rd_un ?_ | refine rd_test ?_ | refine rd_B ?_ | refine rd_bl ?_ | refine rd_seq ?_ | refine rd_next ?_ | refine rd_ifs ?_ | refine rd_asg ?_ | refine rd_name ?_ | refine rd_ret ?_ | refine rd_drop ?_
  | refine rd_call ?_ | refine rd_cons ?_ | refine rd_nil ?_ | refine rd_cb ?_ | refine rd_I0 ?_ | refine rd_U ?_ | refine rd_gsub ?_ | refine rd_lst ?_ | refine rd_tup ?_ | refine rd_if ?_ | refine rd_not ?_ | refine rd_rng1 ?_ | refine rd_itup ?_ | refine rd_ilst ?_ | refine rd_bm ?_ | refine rd_bm0 ?_ | refine rd_andV ?_ | refine rd_orV ?_ | refine rd_notV ?_)
local macro_rules | `(tactic| walk_at "rd") => `(tactic| repeat walk_at "rd1")
local macro_rules | `(tactic| walk_at "ci") => `(tactic| first | assumption | (show (0 : Int) < _; first | decide | omega) | exact ⟨by decide, by decide⟩ | exact Or.inr ⟨by decide, by decide⟩ | exact Or.inl ⟨by decide, by decide⟩ | exact ⟨by decide, by decide, by decide⟩ | exact Or.inl ⟨by omega, by omega⟩ | exact Or.inr ⟨by omega, by omega⟩)
local macro_rules | `(tactic| walk_at "ix") => `(tactic| first
  | ((with_reducible apply rd_ixL); (walk_at "hl"); exact rfl)
  | ((with_reducible apply rd_ixT); (walk_at "ht"); exact rfl)
  | ((with_reducible apply rd_lenL); (walk_at "hl"))
  | ((with_reducible apply rd_lenT); (walk_at "ht"))
  | ((with_reducible apply rd_tupOf); (walk_at "hl"))
  | ((with_reducible apply rd_listOf); (walk_at "hl"))
  | (with_reducible refine rd_min2 ?_)
  | ((with_reducible apply rd_I); (walk_at "ci"))
  | ((with_reducible apply rd_setL); (walk_at "hp"); exact rfl))
local macro_rules | `(tactic| walk_at "gs") => `(tactic| repeat first | walk_at "rd1" | walk_at "ix")
local macro_rules | `(tactic| walk_at "go") => `(tactic| repeat first | walk_at "rd1" | walk_at "ix" | with_reducible refine rd_and ?_ | with_reducible refine rd_or ?_)
local macro_rules | `(tactic| walk_at "fo") => `(tactic| (with_reducible refine rd_for ?_))
local macro_rules | `(tactic| walk_at "pm") => `(tactic| repeat first
  | with_reducible first | refine rd_pcons ?_ | refine rd_pstr ?_ | refine rd_pcap ?_ | refine rd_pwild ?_ | refine rd_pnil ?_ | refine rd_por ?_ | refine rd_pno ?_
  | ((with_reducible refine rd_eq rfl ?_); refine ⟨_, rfl, ?_⟩; first | refine rd_T rfl ?_ | refine rd_F (by decide) ?_)
  | dsimp only [List.nil_append, List.singleton_append, List.cons_append, setAll])
local macro_rules | `(tactic| walk_at "pc") => `(tactic| (refine rd_case ?_); (first | (refine rd_phit (SqT.of (by assumption)) rfl ?_) | (refine rd_pmiss (SqT.of (by assumption)) (by simp) ?_)); (walk_at "pm"))

/-! ### the law's makers -/
def Ch.mks : Ch → List Mkr
  | .mkr m => [m]
  | .st c _ => c.mks
  | .both c o => c.mks ++ o.mks
  | .thn c o => c.mks ++ o.mks
def Sg.mks : Sg → List Mkr
  | .one _ => []
  | .both o => o.mks
  | .thn o => o.mks
theorem Ch.snoc_mks (c : Ch) (g : Sg) : (c.snoc g).mks = c.mks ++ g.mks := by
  cases g with
  | one k => exact (List.append_nil _).symm
  | both o => rfl
  | thn o => rfl
theorem Ch.mks_len : ∀ c : Ch, c.mks.length = c.nm
  | .mkr _ => rfl
  | .st c _ => c.mks_len
  | .both c o => by show (c.mks ++ o.mks).length = c.nm + o.nm; rw [List.length_append, c.mks_len, o.mks_len]
  | .thn c o => by show (c.mks ++ o.mks).length = c.nm + o.nm; rw [List.length_append, c.mks_len, o.mks_len]
theorem Nd.mks_ch : ∀ x : Nd, x.mks = x.ch.mks
  | .mkr _ _ => rfl
  | .st _ _ c => Nd.mks_ch c
  | .both _ c d => by show c.mks ++ d.mks = c.ch.mks ++ d.ch.mks; rw [Nd.mks_ch c, Nd.mks_ch d]
  | .thn _ c d => by show c.mks ++ d.mks = c.ch.mks ++ d.ch.mks; rw [Nd.mks_ch c, Nd.mks_ch d]
theorem Nd.gv_ch : ∀ x : Nd, x.gv.length = x.ch.nm
  | .mkr _ _ => rfl
  | .st _ _ c => Nd.gv_ch c
  | .both _ c d => by show (c.gv ++ d.gv).length = c.ch.nm + d.ch.nm; rw [List.length_append, Nd.gv_ch c, Nd.gv_ch d]
  | .thn _ c d => by show (c.gv ++ d.gv).length = c.ch.nm + d.ch.nm; rw [List.length_append, Nd.gv_ch c, Nd.gv_ch d]
theorem Nd.len_ch : ∀ x : Nd, x.len = x.ch.len
  | .mkr _ _ => rfl
  | .st _ _ c => by show c.len + 1 = c.ch.len + 1; rw [Nd.len_ch c]
  | .both _ c d => by show c.len + 1 = c.ch.len + 1; rw [Nd.len_ch c]
  | .thn _ c d => by show c.len + 1 = c.ch.len + 1; rw [Nd.len_ch c]
theorem MksAt.app {H : Hp} {ms ms' : List Addr} {l l' : List Mkr} (h : MksAt H ms l) (h' : MksAt H ms' l') : MksAt H (ms ++ ms') (l ++ l') := by
  refine ⟨by rw [List.length_append, List.length_append, h.1, h'.1], fun i a e => ?_⟩
  by_cases c : i < ms.length
  · rw [List.getElem?_append_left c] at e
    obtain ⟨k, e1, e2⟩ := h.2 i a e
    exact ⟨k, by rw [List.getElem?_append_left (h.1 ▸ c)]; exact e1, e2⟩
  · have c' : ms.length ≤ i := Nat.le_of_not_lt c
    rw [List.getElem?_append_right c'] at e
    obtain ⟨k, e1, e2⟩ := h'.2 _ a e
    exact ⟨k, by rw [List.getElem?_append_right (h.1 ▸ c'), ← h.1]; exact e1, e2⟩
def spMakers (n : Nat) : Sp := fun vs H Q _ => ∃ (p : Addr) (c : Ch), vs = [.ref p] ∧ ChAt H p c ∧ c.nm ≤ n ∧ ∀ H' q ms, H' q = some (.lst (ms.map V.ref)) → MksAt H' ms c.mks → H q = none → Fr [] H H' → Q (.ref q) H'
/-- stage[0] in ('both', 'then') -/
theorem sg_name {H : Hp} {x : Addr} {g : Sg} (ea : SgAt H x g) : ∃ vs nm, H x = some (.tup vs) ∧ atI vs 0 = some (.str nm) ∧ inV (.str nm) [.str "both", .str "then"] = g.nest := by
  cases g with
  | one kd => exact ⟨_, kd.name, ea, kd.at0, by cases kd <;> (simp only [Kd.name, Sg.nest]; decide +kernel)⟩
  | both o => obtain ⟨p, h, _⟩ := ea; exact ⟨_, "both", h, rfl, by show inV _ _ = true; decide +kernel⟩
  | thn o => obtain ⟨p, h, _⟩ := ea; exact ⟨_, "then", h, rfl, by show inV _ _ = true; decide +kernel⟩
section
variable {P : Program} {w : World} {K : PySem.W.Frag} {mg : Str → Option Value} {base : Heap} {J : Cls'} {f f2 : Addr} {fd fd2 : FuncData}
theorem sc__law_makers : FnScope ["_law_chain", "_law_found", "_law_stage"] ["_law_chain"] (defScope s__law_makers) := ⟨rfl, rfl, rfl, by decide +kernel, rfl, by decide +kernel, by decide +kernel⟩
theorem ok_law_makers {n : Nat} (hn1 : n ≤ 1000) (T : Txt K mg) (F : FnP K "_law_makers" "_law_makers" s__law_makers f fd) (G__law_makers : Cal P w K mg base CX0 (n + 1) "_law_makers" ["_law_chain"] (spMakers n)) :
    FnOk P w K mg base CX0 (n + 2) f fd ["_law_chain"] (spMakers (n + 1)) := by
  refine ok0 F sc__law_makers (fun vs H Q E h => ?_) (fun cdv A outer s H vs Q E hr h => ?_)
  · obtain ⟨p, c, rfl, _⟩ := h
    rfl
  · obtain ⟨p, c, rfl, ⟨mk, ss, bs, ep, ess, hst⟩, hn, k⟩ := h
    have hg := hst.get
    refine ⟨_, (pss_cons (ps_set (i := 1) sc__law_makers.nd rfl (Or.inl rfl) (pe_lst (pa_cons (pe_ix (ix_tupK K) (pv 0) pe_int (fun _ _ => rfl)) pa_nil)))
  (pss_cons (ps_for PassesOwn.never rfl (pi_tup (pe_ix (ix_tupK K) (pv 0) pe_int (fun _ _ => rfl))) (pg_name (i := 2) sc__law_makers.nd rfl (Or.inl rfl))
    (pss_one (ps_if (pt_cmpR (op_in_seqK K) (pe_ix (ix_tupK K) (pv 2) pe_int (fun _ _ => rfl)) (pe_tup (pa_cons pe_str (pa_cons pe_str pa_nil))) (by rfl))
      (pss_one (ps_set (i := 1) sc__law_makers.nd rfl (Or.inl rfl) (pe_op op_cat (pv 1) (pe_cal G__law_makers (hr.mono (by omega)) pass0 (pa_cons (pe_ix (ix_tupK K) (pv 2) pe_int (fun _ _ => rfl)) pa_nil))))) pss_nil)))
  (pss_one (ps_ret (pv 1))))), ?_⟩
    try dsimp only [cxOf, Cx.nox, Cx.wish]
    refine rd_at (σ' := [some (.ref p), none, none]) rfl ?_
    walk_at "go"
    refine ⟨by show 1 ≤ sizeLine; decide, fun q0 hq0 => ?_⟩
    have f0 : Fr [] H (upd H q0 (.lst [.ref mk])) := Fr.new hq0
    walk_at "go"
    walk_at "fo"
    walk_at "go"
    refine ⟨ss, rfl, ⟨_, SqT.of (f0.tp ess)⟩, for_tup (K := K) (a := ss) (xs := bs.map V.ref) (fun i σ H' => ∃ (ms : List Addr) (q : Addr) (v : Option V), σ = [some (.ref p), some (.ref q), v] ∧ H' q = some (.lst (ms.map V.ref)) ∧ MksAt H' ms (Ch.of c.root (c.sgs.take i)).mks ∧ H q = none ∧ Fr [] H H')
      ⟨[mk], q0, none, rfl, upd_same, ⟨rfl, fun i a e => ?_⟩, hq0, f0⟩ (fun i σ H' _ ⟨_, _, _, _, _, _, _, fr⟩ => SqT.of (fr.tp ess)) ?_ ?_⟩
    · cases i with
      | zero =>
        obtain rfl := (Option.some.inj e : mk = a)
        exact ⟨c.root, rfl, hst.root.fr f0⟩
      | succ i => cases e
    · rintro i y σ H' hi ⟨ms, q, v, rfl, eq, hm, hq, fi⟩
      obtain ⟨sx, hsx, rfl⟩ : ∃ sx, bs[i]? = some sx ∧ y = .ref sx := by
        rw [List.getElem?_map] at hi
        cases e : bs[i]? with
        | none => rw [e] at hi; cases hi
        | some z => rw [e] at hi; exact ⟨z, rfl, (Option.some.inj hi).symm⟩
      obtain ⟨g, hgi, gat⟩ := hg.2 i sx hsx
      have nn := Ch.of_take c.root hgi
      have hle := Ch.of_take_nm c (i + 1)
      rw [nn, Ch.snoc_nm] at hle
      have hp1 := (Ch.of c.root (c.sgs.take i)).nm_pos
      have gat' := gat.fr fi
      obtain ⟨vs, nm, ev, e0, hb⟩ := sg_name gat'
      walk_at "go"
      refine rd_ixT (SqT.of ev) e0 ?_
      walk_at "go"
      refine ⟨by show 2 ≤ sizeLine; decide, fun tp htp => ?_⟩
      refine ⟨tp, _, rfl, .inr (SqT.of upd_same), rfl, rfl, ?_⟩
      rw [if_neg (by decide), hb]
      have ft : Fr [] H' (upd H' tp (.tup [.str "both", .str "then"])) := Fr.new htp
      have fi2 := fi.tr ft
      replace eq := ft.at eq (by simp)
      replace hm := hm.fr ft
      replace gat' := gat'.fr ft
      clear ev e0 hb
      show ∃ k, _
      generalize upd H' tp (.tup [.str "both", .str "then"]) = H2 at *
      walk_at "go"
      refine rd_b (fun cg => ?_) (fun cg => ?_)
      · obtain ⟨o, pi, eqn, ho, gnm, gmk⟩ : ∃ (o : Ch) (pi : Addr), (∃ nm : Str, H2 sx = some (.tup [.str nm, .ref pi])) ∧ ChAt H2 pi o ∧ g.nm = o.nm ∧ g.mks = o.mks := by
          cases g with
          | one k => cases cg
          | both o => obtain ⟨pi, e1, e2⟩ := gat'; exact ⟨o, pi, ⟨_, e1⟩, e2, rfl, rfl⟩
          | thn o => obtain ⟨pi, e1, e2⟩ := gat'; exact ⟨o, pi, ⟨_, e1⟩, e2, rfl, rfl⟩
        obtain ⟨nm, eqn⟩ := eqn
        walk_at "go"
        refine ⟨pi, o, rfl, ho, by omega, fun H3 q3 ms3 e3 m3 hq3 f3 => ?_⟩
        have eq3 := f3.at eq (by simp)
        walk_at "go"
        refine rd_cat eq3 e3 ?_ fun q4 hq4 => ?_
        · rw [List.length_map, List.length_map, hm.1, m3.1, Ch.mks_len, Ch.mks_len]
          exact Nat.le_trans (show _ ≤ 1001 by omega) (by decide)
        · walk_at "go"
          refine ⟨ms ++ ms3, q4, _, rfl, by rw [upd_same, List.map_append], ?_, (fi2.tr f3).free (by simp) hq4, (fi2.tr f3).newN hq4⟩
          rw [nn, Ch.snoc_mks, gmk]
          exact ((hm.fr f3).app m3).fr (Fr.new (S := []) hq4)
      · obtain ⟨gnm, gmk⟩ : g.nm = 0 ∧ g.mks = [] := by
          cases g with
          | one k => exact ⟨rfl, rfl⟩
          | both o => cases cg
          | thn o => cases cg
        walk_at "go"
        refine ⟨ms, q, _, rfl, eq, ?_, hq, fi2⟩
        rw [nn, Ch.snoc_mks, gmk, List.append_nil]
        exact hm
    · rintro σ H' ⟨ms, q, v, rfl, eq, hm, hq, fi⟩
      rw [List.length_map, hg.1, List.take_length, Ch.of_sgs] at hm
      walk_at "go"
      exact k H' q ms eq hm hq fi
theorem lawmakers {f : Addr} {fd : FuncData} (T : Txt K mg) (F : FnP K "_law_makers" "_law_makers" s__law_makers f fd) (g : mg "_law_makers" = some (.ref f)) : ∀ n, n ≤ 1001 → Cal P w K mg base CX0 (n + 1) "_law_makers" ["_law_chain"] (spMakers n)
  | 0, _ => by
    have void : ∀ {vs : List V} {H : Hp} {Q : VK} {E : XK}, spMakers 0 vs H Q E → False := by
      rintro vs H Q E ⟨p, c, _, _, h, _⟩
      have := c.nm_pos
      omega
    exact cal_of F g (ok0 F sc__law_makers (fun vs H Q E h => (void h).elim) fun cdv A outer s H vs Q E hr h => (void h).elim) fun _ _ _ _ _ _ us hl => match us, hl with | [_], _ => rfl
  | n + 1, h => cal_of F g (ok_law_makers (by omega) T F (lawmakers T F g n (by omega))) fun _ _ _ _ _ _ us hl => match us, hl with | [_], _ => rfl
end
end Dc

set_option Elab.async false
set_option linter.all false
set_option maxRecDepth 100000
set_option maxHeartbeats 2000000
namespace Dc
open PySem PySem.Spec PyProof.Rows L2
local macro_rules | `(tactic| walk_at "ne") => `(tactic| first | assumption | (refine Ne.symm ?_; assumption) | exact ne_of (by assumption) (by assumption) (by intro q; cases q) | exact ne_of_none (by assumption) (by assumption) | exact Ne.symm (ne_of_none (by assumption) (by assumption)))
local macro_rules | `(tactic| walk_at "hp") => `(tactic| first | assumption | exact upd_same | (refine upd_keep ?_ (by assumption); walk_at "hp") | (refine upd_other ?_ ?_; · walk_at "ne"; · walk_at "hp"))
local macro_rules | `(tactic| walk_at "hl") => `(tactic| first | assumption | exact SqL.of (by walk_at "hp"))
local macro_rules | `(tactic| walk_at "ht") => `(tactic| first | assumption | exact SqT.of (by walk_at "hp"))
local macro_rules | `(tactic| walk_at "rd1") => `(tactic| first
  | ((with_reducible apply rd_var); exact rfl)
  | ((with_reducible apply rd_eq); exact rfl) | ((with_reducible apply rd_ne); exact rfl)
  | with_reducible first
  | refine iteT ?_ | refine iteF ?_ | refine rd_nF ?_ | refine rd_nT ?_ | refine rd_yes ?_ | refine rd_c ?_ | refine rd_op ?_ | refine rd_un ?_ | refine rd_test ?_ | refine rd_B ?_ | refine rd_bl ?_ | refine rd_seq ?_ | refine rd_next ?_ | refine rd_ifs ?_ | refine rd_asg ?_ | refine rd_name ?_ | refine rd_ret ?_ | refine rd_drop ?_
  | refine rd_call ?_ | refine rd_cons ?_ | refine rd_nil ?_ | refine rd_cb ?_ | refine rd_I0 ?_ | refine rd_U ?_ | refine rd_gsub ?_ | refine rd_lst ?_ | refine rd_tup ?_ | refine rd_if ?_ | refine rd_not ?_ | refine rd_rng1 ?_ | refine rd_itup ?_ | refine rd_ilst ?_ | refine rd_bm ?_ | refine rd_bm0 ?_ | refine rd_andV ?_ | refine rd_orV ?_ | refine rd_notV ?_)
local macro_rules | `(tactic| walk_at "rd") => `(tactic| repeat walk_at "rd1")
local macro_rules | `(tactic| walk_at "ci") => `(tactic| first | assumption | (show (0 : Int) < _; first | decide | omega) | exact ⟨by decide, by decide⟩ | exact Or.inr ⟨by decide, by decide⟩ | exact Or.inl ⟨by decide, by decide⟩ | exact ⟨by decide, by decide, by decide⟩ | exact Or.inl ⟨by omega, by omega⟩ | exact Or.inr ⟨by omega, by omega⟩)
local macro_rules | `(tactic| walk_at "ix") => `(tactic| first
  | ((with_reducible apply rd_ixL); (walk_at "hl"); exact rfl)
  | ((with_reducible apply rd_ixT); (walk_at "ht"); exact rfl)
  | ((with_reducible apply rd_lenL); (walk_at "hl"))
  | ((with_reducible apply rd_lenT); (walk_at "ht"))
  | ((with_reducible apply rd_tupOf); (walk_at "hl"))
  | ((with_reducible apply rd_listOf); (walk_at "hl"))
  | (with_reducible refine rd_min2 ?_)
  | ((with_reducible apply rd_I); (walk_at "ci"))
  | ((with_reducible apply rd_setL); (walk_at "hp"); exact rfl))
local macro_rules | `(tactic| walk_at "gs") => `(tactic| repeat first | walk_at "rd1" | walk_at "ix")
local macro_rules | `(tactic| walk_at "go") => `(tactic| repeat first | walk_at "rd1" | walk_at "ix" | with_reducible refine rd_and ?_ | with_reducible refine rd_or ?_)
local macro_rules | `(tactic| walk_at "fo") => `(tactic| (with_reducible refine rd_for ?_))
local macro_rules | `(tactic| walk_at "pm") => `(tactic| repeat first
  | with_reducible first | refine rd_pcons ?_ | refine rd_pstr ?_ | refine rd_pcap ?_ | refine rd_pwild ?_ | refine rd_pnil ?_ | refine rd_por ?_ | refine rd_pno ?_
  | ((with_reducible refine rd_eq rfl ?_); refine ⟨_, rfl, ?_⟩; first | refine rd_T rfl ?_ | refine rd_F (by decide) ?_)
  | dsimp only [List.nil_append, List.singleton_append, List.cons_append, setAll])
local macro_rules | `(tactic| walk_at "pc") => `(tactic| (refine rd_case ?_); (first | (refine rd_phit (SqT.of (by assumption)) rfl ?_) | (refine rd_pmiss (SqT.of (by assumption)) (by simp) ?_)); (walk_at "pm"))

def spBeside (d : Nat) : Sp := fun vs H Q _ => ∃ A p cF st bs pre post own preM postM c e g m f r e' m', vs = [.ref A.ld, .ref p, .int ((Nd.len c + 1 : Nat) : Int), .int (List.length pre : Nat)] ∧ draw f e m = some (r, e', m') ∧ ChAt H p cF ∧ Nd.ch c = Ch.of (Ch.root cF) ((Ch.sgs cF).take (Nd.len c)) ∧
  (Ch.sgs cF)[Nd.len c]? = some g ∧ (g = .both (Nd.ch e) ∨ g = .thn (Nd.ch e)) ∧ (Nd.gv c).length ≤ 4 ∧
  ∀ H' pi, Fr [] H H' → ChAt H' pi (Nd.ch e) → LAsk d A pi (Nd.ch e) st bs (pre ++ Nd.gv c) post own (preM ++ Nd.mks c) postM e m r e' m' H' Q
section
variable {P : Program} {w : World} {K : PySem.W.Frag} {mg : Str → Option Value} {base : Heap} {J : Cls'} {f f2 : Addr} {fd fd2 : FuncData}
theorem rd_sl {r : V → Option Int → Option Int → Hp → VK → Prop} {to : TE} {te : TE} {σ : L2.St} {H : Hp} {Q : VK} (h : to σ H fun x H1 => te σ H1 fun y H2 => ∃ i, y = .int i ∧ r x none (some i) H2 Q) : tSl r to tNoPart (tPart te) σ H Q := h
theorem sc__law_beside : FnScope ["_law_d", "_law_chain", "_law_at", "_law_name", "_law_here", "_law_stage", "_law_inner"] ["_law_d", "_law_chain", "_law_at", "_law_name"] (defScope s__law_beside) := ⟨rfl, rfl, rfl, by decide +kernel, rfl, by decide +kernel, by decide +kernel⟩
theorem ok_law_beside {d j k : Nat} (T : Txt K mg) (F : FnP K "_law_beside" "_law_beside" s__law_beside f fd) (G__law_makers : Cal P w K mg base CX0 5 "_law_makers" ["_law_chain"] (spMakers 4)) (hj : j ≤ k) (h5 : 5 ≤ k)
    (G__law_draw : Cal P w K mg base CX0 j "_law_draw" ["_law_d", "_law_chain", "_law_at", "_law_name"] (spLDraw d)) : FnOk P w K mg base CX0 (k + 1) f fd ["_law_d", "_law_chain", "_law_at", "_law_name"] (spBeside d) := by
  refine ok0 F sc__law_beside (fun vs H Q E h => ?_) (fun cdv A outer s H vs Q E hr h => ?_)
  · obtain ⟨A, p, cF, st, bs, pre, post, own, preM, postM, c, e, g, m, f, r, e', m', rfl, _⟩ := h
    rfl
  · obtain ⟨A, p, cF, st, bs, pre, post, own, preM, postM, c, e, g, m, f, r, e', m', rfl, hd, hch, hc, hg, hge, h4, go⟩ := h
    obtain ⟨mk, ss, as, ep, ess, hst⟩ := id hch
    have hget := hst.get
    refine ⟨_, (pss_cons (ps_set (i := 4) sc__law_beside.nd rfl (Or.inl rfl) (pe_op op_add (pv 3) pe_int))
  (pss_cons (ps_for PassesOwn.never rfl (pi_tup (pe_slice (sl_tupK K) (pe_ix (ix_tupK K) (pv 1) pe_int (fun _ _ => rfl)) po_none (po_some (pe_op op_sub (pv 2) pe_int)))) (pg_name (i := 5) sc__law_beside.nd rfl (Or.inl rfl))
    (pss_one (ps_if (pt_cmpR (op_in_seqK K) (pe_ix (ix_tupK K) (pv 5) pe_int (fun _ _ => rfl)) (pe_tup (pa_cons pe_str (pa_cons pe_str pa_nil))) (by rfl))
      (pss_one (ps_set (i := 4) sc__law_beside.nd rfl (Or.inl rfl) (pe_op op_add (pv 4) (pe_callB (call_len1K K) (by rfl) T.free_len (by decide +kernel) (pa_cons (pe_cal G__law_makers (hr.mono (by omega)) pass0 (pa_cons (pe_ix (ix_tupK K) (pv 5) pe_int (fun _ _ => rfl)) pa_nil)) pa_nil))))) pss_nil)))
  (pss_cons (ps_set (i := 6) sc__law_beside.nd rfl (Or.inl rfl) (pe_ix (ix_tupK K) (pe_ix (ix_tupK K) (pe_ix (ix_tupK K) (pv 1) pe_int (fun _ _ => rfl)) (pe_op op_sub (pv 2) pe_int) (fun _ _ => rfl)) pe_int (fun _ _ => rfl)))
  (pss_one (ps_ret (pe_cal G__law_draw (hr.mono (by omega)) pass0 (pa_cons (pv 0) (pa_cons (pv 6) (pa_cons (pe_callB (call_len1K K) (by rfl) T.free_len (by decide +kernel) (pa_cons (pe_ix (ix_tupK K) (pv 6) pe_int (fun _ _ => rfl)) pa_nil)) (pa_cons (pv 4) pa_nil)))))))))), ?_⟩
    try dsimp only [cxOf, Cx.nox, Cx.wish]
    refine rd_at (σ' := [some (.ref A.ld), some (.ref p), some (.int ((c.len + 1 : Nat) : Int)), some (.int (pre.length : Nat))] ++ List.replicate (["_law_d", "_law_chain", "_law_at", "_law_name", "_law_here", "_law_stage", "_law_inner"].length - 4) none) rfl ?_
    walk_at "go"
    walk_at "fo"
    walk_at "go"
    refine rd_sl ?_
    walk_at "go"
    have e0 : ((c.len + 1 : Nat) : Int) - 1 = ((c.len : Nat) : Int) := by omega
    refine ⟨_, rfl, ?_⟩
    dsimp only
    rw [e0]
    have hgl : c.len < c.len + 1 := Nat.lt_succ_self _
    have cl : c.len < cF.sgs.length := (List.getElem?_eq_some_iff.mp hg).1
    have bl : (as.map V.ref).length = cF.sgs.length := by rw [List.length_map, hget.1]
    have ecut : cutV (as.map V.ref) none (some ((c.len : Nat) : Int)) = (as.take c.len).map V.ref := by
      unfold cutV
      rw [HT.sIx_none, HT.sIx_nat, bl, Nat.min_eq_left (Nat.le_of_lt cl), List.drop_zero, Nat.sub_zero, List.map_take]
    refine ⟨ss, _, rfl, SqT.of ess, ?_, fun tq htq => ?_⟩
    · rintro ⟨_, h2⟩
      rw [HT.sIx_nat, bl, Nat.min_eq_left (Nat.le_of_lt cl)] at h2
      omega
    rw [ecut]
    have ft : Fr [] H (upd H tq (.tup ((as.take c.len).map V.ref))) := Fr.new htq
    have etq : upd H tq (.tup ((as.take c.len).map V.ref)) tq = some (.tup ((as.take c.len).map V.ref)) := upd_same
    generalize upd H tq (.tup ((as.take c.len).map V.ref)) = H1 at *
    refine ⟨tq, rfl, ⟨_, SqT.of etq⟩, for_tup (K := K) (a := tq) (xs := (as.take c.len).map V.ref) (fun i σ H' => ∃ (v : Option V), σ = [some (.ref A.ld), some (.ref p), some (.int ((c.len + 1 : Nat) : Int)), some (.int (pre.length : Nat)), some (.int ((pre.length + (Ch.of cF.root (cF.sgs.take i)).nm : Nat) : Int)), v, none] ∧ Fr [] H H' ∧ H' tq = some (.tup ((as.take c.len).map V.ref)))
      ⟨none, rfl, ft, etq⟩ (fun i σ H' _ ⟨_, _, _, e⟩ => SqT.of e) ?_ ?_⟩
    · rintro i y σ H' hi ⟨v, rfl, fi, eq⟩
      obtain ⟨sx, hsx, hil, rfl⟩ : ∃ sx, as[i]? = some sx ∧ i < c.len ∧ y = .ref sx := by
        rw [List.getElem?_map, List.getElem?_take] at hi
        by_cases z : i < c.len
        · rw [if_pos z] at hi
          cases e : as[i]? with
          | none => rw [e] at hi; cases hi
          | some w => rw [e] at hi; exact ⟨w, rfl, z, (Option.some.inj hi).symm⟩
        · rw [if_neg z] at hi; cases hi
      obtain ⟨g', hgi, gat⟩ := hget.2 i sx hsx
      have nn := Ch.of_take cF.root hgi
      have hle : (Ch.of cF.root (cF.sgs.take (i + 1))).nm ≤ c.ch.nm := by
        have := Ch.of_append_nm cF.root (cF.sgs.take (i + 1)) ((cF.sgs.take c.len).drop (i + 1))
        have e5 : cF.sgs.take (i + 1) = (cF.sgs.take c.len).take (i + 1) := by rw [List.take_take, Nat.min_eq_left hil]
        rw [e5, List.take_append_drop, ← hc, ← e5] at this
        exact this
      rw [nn, Ch.snoc_nm, ← Nd.gv_ch] at hle
      have gat' := gat.fr fi
      obtain ⟨vs, nm, ev, e1, hb⟩ := sg_name gat'
      walk_at "go"
      refine rd_ixT (SqT.of ev) e1 ?_
      walk_at "go"
      refine ⟨by show 2 ≤ sizeLine; decide, fun tp htp => ?_⟩
      refine ⟨tp, _, rfl, .inr (SqT.of upd_same), rfl, rfl, ?_⟩
      rw [if_neg (by decide), hb]
      have ft2 : Fr [] H' (upd H' tp (.tup [.str "both", .str "then"])) := Fr.new htp
      have fi2 := fi.tr ft2
      replace eq := ft2.at eq (by simp)
      replace gat' := gat'.fr ft2
      clear ev e1 hb
      show ∃ k, _
      generalize upd H' tp (.tup [.str "both", .str "then"]) = H2 at *
      walk_at "go"
      refine rd_b (fun cg => ?_) (fun cg => ?_)
      · obtain ⟨o, pi, eqn, ho, gnm⟩ : ∃ (o : Ch) (pi : Addr), (∃ nm : Str, H2 sx = some (.tup [.str nm, .ref pi])) ∧ ChAt H2 pi o ∧ g'.nm = o.nm := by
          cases g' with
          | one k => cases cg
          | both o => obtain ⟨pi, e1, e2⟩ := gat'; exact ⟨o, pi, ⟨_, e1⟩, e2, rfl⟩
          | thn o => obtain ⟨pi, e1, e2⟩ := gat'; exact ⟨o, pi, ⟨_, e1⟩, e2, rfl⟩
        obtain ⟨nm, eqn⟩ := eqn
        walk_at "go"
        refine ⟨pi, o, rfl, ho, by omega, fun H3 q3 ms3 e3 m3 hq3 f3 => ?_⟩
        walk_at "go"
        refine ⟨some (.ref sx), ?_, fi2.tr f3, f3.at eq (by simp)⟩
        rw [nn, Ch.snoc_nm, gnm, List.length_map, m3.1, Ch.mks_len]
        show _ = [_, _, _, _, some (V.int ((pre.length + ((Ch.of cF.root (cF.sgs.take i)).nm + o.nm) : Nat) : Int)), _, _]
        have e6 : ((pre.length + (Ch.of cF.root (cF.sgs.take i)).nm : Nat) : Int) + (o.nm : Nat) = ((pre.length + ((Ch.of cF.root (cF.sgs.take i)).nm + o.nm) : Nat) : Int) := by omega
        rw [← e6]
        rfl
      · have gnm : g'.nm = 0 := by
          cases g' with
          | one k => rfl
          | both o => cases cg
          | thn o => cases cg
        walk_at "go"
        refine ⟨some (.ref sx), ?_, fi2, eq⟩
        rw [nn, Ch.snoc_nm, gnm]
        rfl
    · rintro σ H' ⟨v, rfl, fi, eq⟩
      have lt : ((as.take c.len).map V.ref).length = c.len := by rw [List.length_map, List.length_take, hget.1]; omega
      rw [lt, ← hc, ← Nd.gv_ch]
      obtain ⟨sx, hsx⟩ : ∃ sx, as[c.len]? = some sx := ⟨_, List.getElem?_eq_getElem (by rw [hget.1]; exact cl)⟩
      obtain ⟨g', hgi, gat⟩ := hget.2 _ sx hsx
      rw [hg] at hgi
      obtain rfl : g = g' := Option.some.inj hgi
      replace gat := gat.fr fi
      obtain ⟨nm, pi, esx, ho⟩ : ∃ (nm : Str) (pi : Addr), H' sx = some (.tup [.str nm, .ref pi]) ∧ ChAt H' pi e.ch := by
        rcases hge with rfl | rfl
        · obtain ⟨pi, e1, e2⟩ := gat; exact ⟨_, pi, e1, e2⟩
        · obtain ⟨pi, e1, e2⟩ := gat; exact ⟨_, pi, e1, e2⟩
      obtain ⟨mk2, ss2, as2, ep2, ess2, hst2⟩ := id ho
      have ev : (as.map V.ref)[c.len]? = some (.ref sx) := by rw [List.getElem?_map, hsx]; rfl
      replace ep := fi.tp ep
      replace ess := fi.tp ess
      walk_at "go"
      rw [e0]
      refine rd_ixT (SqT.of ess) (atI_nat ev) ?_
      walk_at "go"
      have l2 : ((as2.map V.ref).length : Int) = ((e.len : Nat) : Int) := by rw [List.length_map, hst2.get.1, Ch.of_sgs_len, Nd.len_ch]
      have l3 : ((pre.length + c.gv.length : Nat) : Int) = (((pre ++ c.gv).length : Nat) : Int) := by rw [List.length_append]
      rw [l2, l3]
      exact ⟨A, pi, e.ch, st, bs, pre ++ c.gv, post, own, preM ++ c.mks, postM, e, m, f, r, e', m', rfl, hd, go H' pi fi ho⟩
end
end Dc

set_option Elab.async false
set_option linter.all false
set_option maxRecDepth 100000
set_option maxHeartbeats 2000000
namespace Dc
open PySem PySem.Spec PyProof.Rows L2
local macro_rules | `(tactic| walk_at "ne") => `(tactic| first | assumption | (refine Ne.symm ?_; assumption) | exact ne_of (by assumption) (by assumption) (by intro q; cases q) | exact ne_of_none (by assumption) (by assumption) | exact Ne.symm (ne_of_none (by assumption) (by assumption)))
local macro_rules | `(tactic| walk_at "hp") => `(tactic| first | assumption | exact upd_same | (refine upd_keep ?_ (by assumption); walk_at "hp") | (refine upd_other ?_ ?_; · walk_at "ne"; · walk_at "hp"))
local macro_rules | `(tactic| walk_at "hl") => `(tactic| first | assumption | exact SqL.of (by walk_at "hp"))
local macro_rules | `(tactic| walk_at "ht") => `(tactic| first | assumption | exact SqT.of (by walk_at "hp"))
local macro_rules | `(tactic| walk_at "rd1") => `(tactic| first
  | ((with_reducible apply rd_var); exact rfl)
  | ((with_reducible apply rd_eq); exact rfl) | ((with_reducible apply rd_ne); exact rfl)
  | with_reducible first
  | refine iteT ?_ | refine iteF ?_ | refine rd_nF ?_ | refine rd_nT ?_ | refine rd_yes ?_ | refine rd_c ?_ | refine rd_op ?_ | refine rd_un ?_ | refine rd_test ?_ | refine rd_B ?_ | refine rd_bl ?_ | refine rd_seq ?_ | refine rd_next ?_ | refine rd_ifs ?_ | refine rd_asg ?_ | refine rd_name ?_ | refine rd_ret ?_ | refine rd_drop ?_
  | refine rd_call ?_ | refine rd_cons ?_ | refine rd_nil ?_ | refine rd_cb ?_ | refine rd_I0 ?_ | refine rd_U ?_ | refine rd_gsub ?_ | refine rd_lst ?_ | refine rd_tup ?_ | refine rd_if ?_ | refine rd_not ?_ | refine rd_rng1 ?_ | refine rd_itup ?_ | refine rd_ilst ?_ | refine rd_bm ?_ | refine rd_bm0 ?_ | refine rd_andV ?_ | refine rd_orV ?_ | refine rd_notV ?_)
local macro_rules | `(tactic| walk_at "rd") => `(tactic| repeat walk_at "rd1")
local macro_rules | `(tactic| walk_at "ci") => `(tactic| first | assumption | (show (0 : Int) < _; first | decide | omega) | exact ⟨by decide, by decide⟩ | exact Or.inr ⟨by decide, by decide⟩ | exact Or.inl ⟨by decide, by decide⟩ | exact ⟨by decide, by decide, by decide⟩ | exact Or.inl ⟨by omega, by omega⟩ | exact Or.inr ⟨by omega, by omega⟩)
local macro_rules | `(tactic| walk_at "ix") => `(tactic| first
  | ((with_reducible apply rd_ixL); (walk_at "hl"); exact rfl)
  | ((with_reducible apply rd_ixT); (walk_at "ht"); exact rfl)
  | ((with_reducible apply rd_lenL); (walk_at "hl"))
  | ((with_reducible apply rd_lenT); (walk_at "ht"))
  | ((with_reducible apply rd_tupOf); (walk_at "hl"))
  | ((with_reducible apply rd_listOf); (walk_at "hl"))
  | (with_reducible refine rd_min2 ?_)
  | ((with_reducible apply rd_I); (walk_at "ci"))
  | ((with_reducible apply rd_setL); (walk_at "hp"); exact rfl))
local macro_rules | `(tactic| walk_at "gs") => `(tactic| repeat first | walk_at "rd1" | walk_at "ix")
local macro_rules | `(tactic| walk_at "go") => `(tactic| repeat first | walk_at "rd1" | walk_at "ix" | with_reducible refine rd_and ?_ | with_reducible refine rd_or ?_)
local macro_rules | `(tactic| walk_at "fo") => `(tactic| (with_reducible refine rd_for ?_))
local macro_rules | `(tactic| walk_at "pm") => `(tactic| repeat first
  | with_reducible first | refine rd_pcons ?_ | refine rd_pstr ?_ | refine rd_pcap ?_ | refine rd_pwild ?_ | refine rd_pnil ?_ | refine rd_por ?_ | refine rd_pno ?_
  | ((with_reducible refine rd_eq rfl ?_); refine ⟨_, rfl, ?_⟩; first | refine rd_T rfl ?_ | refine rd_F (by decide) ?_)
  | dsimp only [List.nil_append, List.singleton_append, List.cons_append, setAll])
local macro_rules | `(tactic| walk_at "pc") => `(tactic| (refine rd_case ?_); (first | (refine rd_phit (SqT.of (by assumption)) rfl ?_) | (refine rd_pmiss (SqT.of (by assumption)) (by simp) ?_)); (walk_at "pm"))

def toldS : Kd → Ow → Int → Option (Int × Ow)
  | .until a, o, n => if a ≤ n then none else some (n, o)
  | .each j, o, n => some (n, { o with left := j - 1 })
  | .add a, o, n => some (n + a, o)
  | .times a, o, n => some (n * a, o)
  | _, o, n => some (n, o)
/-- what is told of a number that has come through: a simple stage, or then -/
structure ToldS (A : LS) (p od fq : Addr) (st : Bool) (m : Mt) (bs gs : List Int) (own : OwnL) (ml : List Mkr) (cF : Ch) (at' : Nat) (off n : Int) (H : Hp) (Q : VK) : Prop where
  la : LAt H A st m bs gs own ml
  sep : LSep A
  ch : ChAt H p cF
  fq : H fq = some (.lst [.int n])
  al : m.lost.length ≤ 1000
  k : (∃ k o, cF.sgs[at']? = some (.one k) ∧ k.ok ∧ H od = some (.dK (Ow.kvs o)) ∧ (∀ v o1, toldS k o n = some (v, o1) → ∀ H' q, H' q = some (.lst [.int v]) → q ≠ A.lg ∧ q ≠ A.ll → H' od = some (.dK (Ow.kvs o1)) → Fr [od] H H' → Q (.ref q) H') ∧
      (toldS k o n = none → ∀ H', LAt H' A st { m with lost := m.lost ++ [n] } bs gs own ml → Fr [A.ll] H H' → Q (.str "end") H')) ∨
    (∃ e, cF.sgs[at']? = some (.thn e) ∧ ∀ H' q, H' q = some (.lst [.int n]) → q ≠ A.lg ∧ q ≠ A.ll → Fr [] H H' → Q (.ref q) H')
def spTold (d : Nat) : Sp := fun vs H Q E => ∃ A p od fq at' off n, vs = [.ref A.ld, .ref p, .int ((at' + 1 : Nat) : Int), .int off, .ref od, .ref fq] ∧
  ((∃ st m bs gs own ml cF, ToldS A p od fq st m bs gs own ml cF at' off n H Q) ∨
   (∃ st m bs gs own ml cF e, LAt H A st m bs gs own ml ∧ LSep A ∧ ChAt H p cF ∧ H fq = some (.lst [.int n]) ∧ (Ch.sgs cF)[at']? = some (.both e) ∧
     ∀ H1, Fr [] H H1 → spBeside d [.ref A.ld, .ref p, .int ((at' + 1 : Nat) : Int), .int off] H1 (fun v H2 => ∃ r2 : Rs, r2.an H2 v ∧ H2 fq = some (.lst [.int n]) ∧
       (∀ b, r2 = .num b → ∀ H' q, H' q = some (.lst [.int (n + b)]) → (∀ u, H2 u ≠ none → q ≠ u) → Fr [] H2 H' → Q (.ref q) H') ∧
       (r2 = .fin → ∃ m2 gs2 own2, LAt H2 A st m2 bs gs2 own2 ml ∧ m2.lost.length ≤ 1000 ∧ ∀ H', LAt H' A st { m2 with lost := m2.lost ++ [n] } bs gs2 own2 ml → Fr [A.ll] H2 H' → Q (.str "end") H') ∧
       (r2 = .long → Q (.str "long") H2)) E))
section
variable {P : Program} {w : World} {K : PySem.W.Frag} {mg : Str → Option Value} {base : Heap} {J : Cls'} {f f2 : Addr} {fd fd2 : FuncData}
theorem LAt.putLost {H : Hp} {A : LS} {st : Bool} {m : Mt} {bs gs : List Int} {own : OwnL} {ml : List Mkr} (S : LSep A) (G : LAt H A st m bs gs own ml) (n : Int) : LAt (upd H A.ll (.lst (m.lost.map V.int ++ [.int n]))) A st { m with lost := m.lost ++ [n] } bs gs own ml :=
  ⟨upd_other (ne_of G.ob G.ll (by intro z; cases z)) G.ob, upd_other S.a5.symm G.mkl, G.mks.fr (Fr.put (S := [A.ll]) (by simp) (nt G.ll)), upd_other S.a1 G.lg, by rw [upd_same, List.map_append]; rfl, upd_other S.a4.symm G.lb, upd_other (ne_of G.lo G.ll (by intro z; cases z)) G.lo⟩
theorem LAsk.imp {d : Nat} {A : LS} {p : Addr} {cF : Ch} {st : Bool} {bs pre post : List Int} {own : OwnL} {preM postM : List Mkr} {x : Nd} {m : Mt} {r : Rs} {x' : Nd} {m' : Mt} {H : Hp} {Q Q' : VK} (G : LAsk d A p cF st bs pre post own preM postM x m r x' m' H Q) (h : ∀ v H, Q v H → Q' v H) :
    LAsk d A p cF st bs pre post own preM postM x m r x' m' H Q' :=
  ⟨G.sep, G.la, G.pm, G.ch, G.px, G.pl, G.nd, G.ok, G.sz, G.inv, G.dep, G.bk, G.al, G.le, G.nm, fun H' v own' a b c e f g i j k => h _ _ (G.go H' v own' a b c e f g i j k)⟩
theorem spBeside.imp {d : Nat} {vs : List V} {H : Hp} {Q Q' : VK} {E E' : XK} (G : spBeside d vs H Q E) (h : ∀ v H, Q v H → Q' v H) : spBeside d vs H Q' E' := by
  obtain ⟨A, p, cF, st, bs, pre, post, own, preM, postM, c, e, g, m, f, r, e', m', e1, e2, e3, e4, e5, e6, e7, go⟩ := G
  exact ⟨A, p, cF, st, bs, pre, post, own, preM, postM, c, e, g, m, f, r, e', m', e1, e2, e3, e4, e5, e6, e7, fun H' pi a b => (go H' pi a b).imp h⟩
theorem sc__law_told : FnScope ["_law_d", "_law_chain", "_law_at", "_law_name", "_law_own", "_law_found", "_law_stage", "_law_other", "_law_number"] ["_law_d", "_law_chain", "_law_at", "_law_name", "_law_own", "_law_found"] (defScope s__law_told) := ⟨rfl, rfl, rfl, by decide +kernel, rfl, by decide +kernel, by decide +kernel⟩
theorem ok_law_told {d k : Nat} (T : Txt K mg) (F : FnP K "_law_told" "_law_told" s__law_told f fd) (G__law_beside : Cal P w K mg base CX0 k "_law_beside" ["_law_d", "_law_chain", "_law_at", "_law_name"] (spBeside d)) :
    FnOk P w K mg base CX0 (k + 1) f fd ["_law_d", "_law_chain", "_law_at", "_law_name", "_law_own", "_law_found"] (spTold d) := by
  refine ok0 F sc__law_told (fun vs H Q E h => ?_) (fun cdv A outer s H vs Q E hr h => ?_)
  · obtain ⟨A, p, od, fq, at', off, n, rfl, _⟩ := h
    rfl
  · obtain ⟨A, p, od, fq, at', off, n, rfl, h⟩ := h
    have hu := room1 hr
    have hu64 := hr.units
    refine ⟨_, (pss_cons (ps_set (i := 6) sc__law_told.nd rfl (Or.inl rfl) (pe_ix (ix_tupK K) (pe_ix (ix_tupK K) (pv 1) pe_int (fun _ _ => rfl)) (pe_op op_sub (pv 2) pe_int) (fun _ _ => rfl)))
  (pss_cons (ps_if (PW.pt (pw_and (pt_cmpR op_eq (pe_ix (ix_tupK K) (pv 6) pe_int (fun _ _ => rfl)) pe_str (nomark _)) (pw_and1 (pt_cmpR op_ge (pe_ix (ix_listK K) (pv 5) pe_int (fun _ _ => rfl)) (pe_ix (ix_tupK K) (pv 6) pe_int (fun _ _ => rfl)) (nomark _)))))
    (pss_cons (ps_expr (pe_bm PySem.F.plainAttrs_list PySem.F.slot_list_append PySem.F.type_list_append mt_append (pe_dget hu (pv 0) pe_str (fun _ _ => rfl)) (pa_cons (pe_ix (ix_listK K) (pv 5) pe_int (fun _ _ => rfl)) pa_nil)))
    (pss_one (ps_ret pe_str))) pss_nil)
  (pss_cons (ps_if (pt_cmpR op_eq (pe_ix (ix_tupK K) (pv 6) pe_int (fun _ _ => rfl)) pe_str (nomark _))
    (pss_cons (ps_set (i := 7) sc__law_told.nd rfl (Or.inl rfl) (pe_cal G__law_beside (hr.mono (by omega)) pass0 (pa_cons (pv 0) (pa_cons (pv 1) (pa_cons (pv 2) (pa_cons (pv 3) pa_nil))))))
    (pss_cons (ps_if (pt_cmpR (op_eqDK K hu64) (pv 7) pe_str (nomark _))
      (pss_one (ps_expr (pe_bm PySem.F.plainAttrs_list PySem.F.slot_list_append PySem.F.type_list_append mt_append (pe_dget hu (pv 0) pe_str (fun _ _ => rfl)) (pa_cons (pe_ix (ix_listK K) (pv 5) pe_int (fun _ _ => rfl)) pa_nil)))) pss_nil)
    (pss_one (ps_ret (pe_ifExp (pt_val (pe_callB (call_isiK1 K) (by rfl) T.free_isinstance (by decide +kernel) (pa_cons (pv 7) (pa_cons (pe_bltn (v := .ty "list") (u := .type "list") (by rfl) T.free_list (by decide +kernel) rfl) pa_nil)))) (pe_lst (pa_cons (pe_op op_add (pe_ix (ix_listK K) (pv 5) pe_int (fun _ _ => rfl)) (pe_ix (ix_listK K) (pv 7) pe_int (fun _ _ => rfl))) pa_nil)) (pv 7)))))) pss_nil)
  (pss_cons (ps_if (pt_cmpR op_eq (pe_ix (ix_tupK K) (pv 6) pe_int (fun _ _ => rfl)) pe_str (nomark _))
    (pss_one (ps_dput hu (pv 4) pe_str (pe_op op_sub (pe_ix (ix_tupK K) (pv 6) pe_int (fun _ _ => rfl)) pe_int) rfl)) pss_nil)
  (pss_cons (ps_set (i := 8) sc__law_told.nd rfl (Or.inl rfl) (pe_ix (ix_listK K) (pv 5) pe_int (fun _ _ => rfl)))
  (pss_cons (ps_if (pt_cmpR (op_in_seqK K) (pe_ix (ix_tupK K) (pv 6) pe_int (fun _ _ => rfl)) (pe_tup (pa_cons pe_str (pa_cons pe_str pa_nil))) (by rfl))
    (pss_one (ps_set (i := 8) sc__law_told.nd rfl (Or.inl rfl) (pe_ifExp (pt_cmpR op_eq (pe_ix (ix_tupK K) (pv 6) pe_int (fun _ _ => rfl)) pe_str (nomark _)) (pe_op op_add (pv 8) (pe_ix (ix_tupK K) (pv 6) pe_int (fun _ _ => rfl))) (pe_op op_mul (pv 8) (pe_ix (ix_tupK K) (pv 6) pe_int (fun _ _ => rfl)))))) pss_nil)
  (pss_one (ps_ret (pe_lst (pa_cons (pv 8) pa_nil)))))))))), ?_⟩
    try dsimp only [cxOf, Cx.nox, Cx.wish]
    refine rd_at (σ' := [some (.ref A.ld), some (.ref p), some (.int ((at' + 1 : Nat) : Int)), some (.int off), some (.ref od), some (.ref fq)] ++ List.replicate (["_law_d", "_law_chain", "_law_at", "_law_name", "_law_own", "_law_found", "_law_stage", "_law_other", "_law_number"].length - 6) none) rfl ?_
    have e0 : ((at' + 1 : Nat) : Int) - 1 = ((at' : Nat) : Int) := by omega
    rcases h with ⟨st, m, bs, gs, own, ml, cF, G⟩ | ⟨st, m, bs, gs, own, ml, cF, e, la, sep, ch, efq, hg, go⟩
    · have efq := G.fq
      obtain ⟨mk, ss, as, ep, ess, hst⟩ := id G.ch
      have hget := hst.get
      rcases G.k with ⟨k, o, hg, hk, eo, g1, g2⟩ | ⟨e, hg, g1⟩
      · obtain ⟨sx, hsx⟩ : ∃ sx, as[at']? = some sx := ⟨_, List.getElem?_eq_getElem (by rw [hget.1]; exact (List.getElem?_eq_some_iff.mp hg).1)⟩
        obtain ⟨g', hgi, es⟩ := hget.2 _ sx hsx
        rw [hg] at hgi
        cases hgi
        have ev : (as.map V.ref)[at']? = some (.ref sx) := by rw [List.getElem?_map, hsx]; rfl
        walk_at "go"
        rw [e0]
        refine rd_ixT (SqT.of ess) (atI_nat ev) ?_
        cases k with
        | add a =>
          simp only [SgAt, Kd.vals] at es
          walk_at "go"
          refine rd_F (by decide) ?_
          walk_at "go"
          refine rd_F (by decide) ?_
          walk_at "go"
          refine rd_F (by decide) ?_
          walk_at "go"
          refine ⟨by show 2 ≤ sizeLine; decide, fun tp htp => ?_⟩
          have ft : Fr [] H (upd H tp (.tup [.str "add", .str "times"])) := Fr.new htp
          refine ⟨tp, _, rfl, .inr (SqT.of upd_same), rfl, rfl, ?_⟩
          rw [if_neg (by decide), show inV (.str "add") [.str "add", .str "times"] = true by decide +kernel]
          replace es := ft.tp es
          replace eo := ft.at eo (by simp)
          show ∃ k, _
          generalize upd H tp (.tup [.str "add", .str "times"]) = H1 at *
          walk_at "go"
          refine rd_T rfl ?_
          walk_at "go"
          refine ⟨by show 1 ≤ sizeLine; decide, fun q hq => ?_⟩
          exact g1 _ _ rfl _ q upd_same ⟨(ne_of_none (ft.at G.la.lg (by simp)) hq).symm, (ne_of_none (ft.at G.la.ll (by simp)) hq).symm⟩ (upd_keep eo hq) ((ft.mono fun b hb => by cases hb).newN hq)
        | times a =>
          simp only [SgAt, Kd.vals] at es
          walk_at "go"
          refine rd_F (by decide) ?_
          walk_at "go"
          refine rd_F (by decide) ?_
          walk_at "go"
          refine rd_F (by decide) ?_
          walk_at "go"
          refine ⟨by show 2 ≤ sizeLine; decide, fun tp htp => ?_⟩
          have ft : Fr [] H (upd H tp (.tup [.str "add", .str "times"])) := Fr.new htp
          refine ⟨tp, _, rfl, .inr (SqT.of upd_same), rfl, rfl, ?_⟩
          rw [if_neg (by decide), show inV (.str "times") [.str "add", .str "times"] = true by decide +kernel]
          replace es := ft.tp es
          replace eo := ft.at eo (by simp)
          show ∃ k, _
          generalize upd H tp (.tup [.str "add", .str "times"]) = H1 at *
          walk_at "go"
          refine rd_F (by decide) ?_
          walk_at "go"
          refine rd_I (.inr ⟨hk.2.1, hk.2.2⟩) ?_
          walk_at "go"
          refine ⟨by show 1 ≤ sizeLine; decide, fun q hq => ?_⟩
          exact g1 _ _ rfl _ q upd_same ⟨(ne_of_none (ft.at G.la.lg (by simp)) hq).symm, (ne_of_none (ft.at G.la.ll (by simp)) hq).symm⟩ (upd_keep eo hq) ((ft.mono fun b hb => by cases hb).newN hq)
        | keep r wh =>
          simp only [SgAt, Kd.vals] at es
          walk_at "go"
          refine rd_F (by decide) ?_
          walk_at "go"
          refine rd_F (by decide) ?_
          walk_at "go"
          refine rd_F (by decide) ?_
          walk_at "go"
          refine ⟨by show 2 ≤ sizeLine; decide, fun tp htp => ?_⟩
          have ft : Fr [] H (upd H tp (.tup [.str "add", .str "times"])) := Fr.new htp
          refine ⟨tp, _, rfl, .inr (SqT.of upd_same), rfl, rfl, ?_⟩
          rw [if_neg (by decide), show inV (.str "keep") [.str "add", .str "times"] = false by decide +kernel]
          replace es := ft.tp es
          replace eo := ft.at eo (by simp)
          show ∃ k, _
          generalize upd H tp (.tup [.str "add", .str "times"]) = H1 at *
          walk_at "go"
          refine ⟨by show 1 ≤ sizeLine; decide, fun q hq => ?_⟩
          exact g1 _ _ rfl _ q upd_same ⟨(ne_of_none (ft.at G.la.lg (by simp)) hq).symm, (ne_of_none (ft.at G.la.ll (by simp)) hq).symm⟩ (upd_keep eo hq) ((ft.mono fun b hb => by cases hb).newN hq)
        | drop j =>
          simp only [SgAt, Kd.vals] at es
          walk_at "go"
          refine rd_F (by decide) ?_
          walk_at "go"
          refine rd_F (by decide) ?_
          walk_at "go"
          refine rd_F (by decide) ?_
          walk_at "go"
          refine ⟨by show 2 ≤ sizeLine; decide, fun tp htp => ?_⟩
          have ft : Fr [] H (upd H tp (.tup [.str "add", .str "times"])) := Fr.new htp
          refine ⟨tp, _, rfl, .inr (SqT.of upd_same), rfl, rfl, ?_⟩
          rw [if_neg (by decide), show inV (.str "drop") [.str "add", .str "times"] = false by decide +kernel]
          replace es := ft.tp es
          replace eo := ft.at eo (by simp)
          show ∃ k, _
          generalize upd H tp (.tup [.str "add", .str "times"]) = H1 at *
          walk_at "go"
          refine ⟨by show 1 ≤ sizeLine; decide, fun q hq => ?_⟩
          exact g1 _ _ rfl _ q upd_same ⟨(ne_of_none (ft.at G.la.lg (by simp)) hq).symm, (ne_of_none (ft.at G.la.ll (by simp)) hq).symm⟩ (upd_keep eo hq) ((ft.mono fun b hb => by cases hb).newN hq)
        | take j =>
          simp only [SgAt, Kd.vals] at es
          walk_at "go"
          refine rd_F (by decide) ?_
          walk_at "go"
          refine rd_F (by decide) ?_
          walk_at "go"
          refine rd_F (by decide) ?_
          walk_at "go"
          refine ⟨by show 2 ≤ sizeLine; decide, fun tp htp => ?_⟩
          have ft : Fr [] H (upd H tp (.tup [.str "add", .str "times"])) := Fr.new htp
          refine ⟨tp, _, rfl, .inr (SqT.of upd_same), rfl, rfl, ?_⟩
          rw [if_neg (by decide), show inV (.str "take") [.str "add", .str "times"] = false by decide +kernel]
          replace es := ft.tp es
          replace eo := ft.at eo (by simp)
          show ∃ k, _
          generalize upd H tp (.tup [.str "add", .str "times"]) = H1 at *
          walk_at "go"
          refine ⟨by show 1 ≤ sizeLine; decide, fun q hq => ?_⟩
          exact g1 _ _ rfl _ q upd_same ⟨(ne_of_none (ft.at G.la.lg (by simp)) hq).symm, (ne_of_none (ft.at G.la.ll (by simp)) hq).symm⟩ (upd_keep eo hq) ((ft.mono fun b hb => by cases hb).newN hq)
        | each j =>
          simp only [SgAt, Kd.vals] at es
          walk_at "go"
          refine rd_F (by decide) ?_
          walk_at "go"
          refine rd_F (by decide) ?_
          walk_at "go"
          refine rd_T rfl ?_
          walk_at "go"
          refine rd_dp ?_
          walk_at "go"
          refine rd_dpk eo (by show 4 < sizeLine; decide) ?_
          have e3 : putK o.kvs (.inr "left" : L2.Key) (.int (j - 1)) = Ow.kvs { o with left := j - 1 } := rfl
          rw [e3]
          have f1 : Fr [od] H (upd H od (.dK (Ow.kvs { o with left := j - 1 }))) := Fr.put (by simp) (nt eo)
          have nq : fq ≠ od := ne_of efq eo (by intro z; cases z)
          have nlg : A.lg ≠ od := ne_of G.la.lg eo (by intro z; cases z)
          have nll : A.ll ≠ od := ne_of G.la.ll eo (by intro z; cases z)
          have eo1 : upd H od (.dK (Ow.kvs { o with left := j - 1 })) od = some (.dK (Ow.kvs { o with left := j - 1 })) := upd_same
          replace es := f1.tp es
          replace efq := upd_other (u := .dK (Ow.kvs { o with left := j - 1 })) nq efq
          generalize upd H od (.dK (Ow.kvs { o with left := j - 1 })) = H0 at *
          dsimp only
          walk_at "go"
          refine ⟨by show 2 ≤ sizeLine; decide, fun tp htp => ?_⟩
          have ft : Fr [] H0 (upd H0 tp (.tup [.str "add", .str "times"])) := Fr.new htp
          refine ⟨tp, _, rfl, .inr (SqT.of upd_same), rfl, rfl, ?_⟩
          rw [if_neg (by decide), show inV (.str "each") [.str "add", .str "times"] = false by decide +kernel]
          replace eo1 := ft.at eo1 (by simp)
          have f2 := f1.trans ft fun b hb => by cases hb
          show ∃ k, _
          generalize upd H0 tp (.tup [.str "add", .str "times"]) = H1 at *
          walk_at "go"
          refine ⟨by show 1 ≤ sizeLine; decide, fun q hq => ?_⟩
          exact g1 _ _ rfl _ q upd_same ⟨(ne_of_none (f2.at G.la.lg (by simpa using nlg)) hq).symm, (ne_of_none (f2.at G.la.ll (by simpa using nll)) hq).symm⟩ (upd_keep eo1 hq) ((f2).newN hq)
        | «until» a =>
          simp only [SgAt, Kd.vals] at es
          walk_at "go"
          refine rd_T rfl ?_
          walk_at "go"
          refine rd_dec (fun c => ?_) (fun c => ?_)
          · walk_at "go"
            refine rd_gk rfl G.la.ob rfl ?_
            refine ⟨tyl G.la.ll, ?_⟩
            walk_at "go"
            refine rd_append G.la.ll (by rw [List.length_map]; exact Nat.lt_of_le_of_lt G.al (by decide)) ?_
            walk_at "go"
            exact g2 (if_pos (by omega)) _ (G.la.putLost G.sep n) (Fr.put (by simp) (nt G.la.ll))
          · have g1' := fun v o1 q => g1 v o1 ((if_neg (by omega)).trans q)
            walk_at "go"
            refine rd_F (by decide) ?_
            walk_at "go"
            refine rd_F (by decide) ?_
            walk_at "go"
            refine ⟨by show 2 ≤ sizeLine; decide, fun tp htp => ?_⟩
            have ft : Fr [] H (upd H tp (.tup [.str "add", .str "times"])) := Fr.new htp
            refine ⟨tp, _, rfl, .inr (SqT.of upd_same), rfl, rfl, ?_⟩
            rw [if_neg (by decide), show inV (.str "until") [.str "add", .str "times"] = false by decide +kernel]
            replace eo := ft.at eo (by simp)
            show ∃ k, _
            generalize upd H tp (.tup [.str "add", .str "times"]) = H1 at *
            walk_at "go"
            refine ⟨by show 1 ≤ sizeLine; decide, fun q hq => ?_⟩
            exact g1' _ _ rfl _ q upd_same ⟨(ne_of_none (ft.at G.la.lg (by simp)) hq).symm, (ne_of_none (ft.at G.la.ll (by simp)) hq).symm⟩ (upd_keep eo hq) ((ft.mono fun b hb => by cases hb).newN hq)
        | unlike =>
          simp only [SgAt, Kd.vals] at es
          walk_at "go"
          refine rd_F (by decide) ?_
          walk_at "go"
          refine rd_F (by decide) ?_
          walk_at "go"
          refine rd_F (by decide) ?_
          walk_at "go"
          refine ⟨by show 2 ≤ sizeLine; decide, fun tp htp => ?_⟩
          have ft : Fr [] H (upd H tp (.tup [.str "add", .str "times"])) := Fr.new htp
          refine ⟨tp, _, rfl, .inr (SqT.of upd_same), rfl, rfl, ?_⟩
          rw [if_neg (by decide), show inV (.str "unlike") [.str "add", .str "times"] = false by decide +kernel]
          replace es := ft.tp es
          replace eo := ft.at eo (by simp)
          show ∃ k, _
          generalize upd H tp (.tup [.str "add", .str "times"]) = H1 at *
          walk_at "go"
          refine ⟨by show 1 ≤ sizeLine; decide, fun q hq => ?_⟩
          exact g1 _ _ rfl _ q upd_same ⟨(ne_of_none (ft.at G.la.lg (by simp)) hq).symm, (ne_of_none (ft.at G.la.ll (by simp)) hq).symm⟩ (upd_keep eo hq) ((ft.mono fun b hb => by cases hb).newN hq)
      · obtain ⟨sx, hsx⟩ : ∃ sx, as[at']? = some sx := ⟨_, List.getElem?_eq_getElem (by rw [hget.1]; exact (List.getElem?_eq_some_iff.mp hg).1)⟩
        obtain ⟨g', hgi, es⟩ := hget.2 _ sx hsx
        rw [hg] at hgi
        cases hgi
        obtain ⟨pi, es, _⟩ := es
        have ev : (as.map V.ref)[at']? = some (.ref sx) := by rw [List.getElem?_map, hsx]; rfl
        walk_at "go"
        rw [e0]
        refine rd_ixT (SqT.of ess) (atI_nat ev) ?_
        walk_at "go"
        refine rd_F (by decide) ?_
        walk_at "go"
        refine rd_F (by decide) ?_
        walk_at "go"
        refine rd_F (by decide) ?_
        walk_at "go"
        refine ⟨by show 2 ≤ sizeLine; decide, fun tp htp => ?_⟩
        have ft : Fr [] H (upd H tp (.tup [.str "add", .str "times"])) := Fr.new htp
        refine ⟨tp, _, rfl, .inr (SqT.of upd_same), rfl, rfl, ?_⟩
        rw [if_neg (by decide), show inV (.str "then") [.str "add", .str "times"] = false by decide +kernel]
        show ∃ k, _
        generalize upd H tp (.tup [.str "add", .str "times"]) = H1 at *
        walk_at "go"
        refine ⟨by show 1 ≤ sizeLine; decide, fun q hq => ?_⟩
        exact g1 _ q upd_same ⟨(ne_of_none (ft.at G.la.lg (by simp)) hq).symm, (ne_of_none (ft.at G.la.ll (by simp)) hq).symm⟩ (ft.newN hq)
    · obtain ⟨mk, ss, as, ep, ess, hst⟩ := id ch
      have hget := hst.get
      obtain ⟨sx, hsx⟩ : ∃ sx, as[at']? = some sx := ⟨_, List.getElem?_eq_getElem (by rw [hget.1]; exact (List.getElem?_eq_some_iff.mp hg).1)⟩
      obtain ⟨g', hgi, es⟩ := hget.2 _ sx hsx
      rw [hg] at hgi
      cases hgi
      obtain ⟨pi, es, _⟩ := es
      have ev : (as.map V.ref)[at']? = some (.ref sx) := by rw [List.getElem?_map, hsx]; rfl
      walk_at "go"
      rw [e0]
      refine rd_ixT (SqT.of ess) (atI_nat ev) ?_
      walk_at "go"
      refine rd_F (by decide) ?_
      walk_at "go"
      refine rd_T rfl ?_
      walk_at "go"
      refine spBeside.imp (go H (Fr.refl _ _)) fun v H2 ⟨r2, an, efq2, c1, c2, c3⟩ => ?_
      walk_at "go"
      refine an_eqEnd an ?_
      walk_at "go"
      cases r2 with
      | num b =>
        obtain ⟨q2, rfl, eq2⟩ := an
        refine iteF ?_
        walk_at "go"
        refine an_isList (r := .num b) ⟨q2, rfl, eq2⟩ ?_
        walk_at "go"
        refine iteT ?_
        walk_at "go"
        refine ⟨by show 1 ≤ sizeLine; decide, fun q hq => ?_⟩
        exact c1 b rfl _ q upd_same (fun u hu z => hu (z ▸ hq)) (Fr.new hq)
      | fin =>
        obtain rfl := an
        obtain ⟨m2, gs2, own2, la2, al2, c2⟩ := c2 rfl
        refine iteT ?_
        walk_at "go"
        refine rd_gk rfl la2.ob rfl ?_
        refine ⟨tyl la2.ll, ?_⟩
        walk_at "go"
        refine rd_append la2.ll (by rw [List.length_map]; exact Nat.lt_of_le_of_lt al2 (by decide)) ?_
        walk_at "go"
        refine an_isList (r := .fin) rfl ?_
        walk_at "go"
        refine iteF ?_
        walk_at "go"
        exact c2 _ (la2.putLost sep n) (Fr.put (by simp) (nt la2.ll))
      | long =>
        obtain rfl := an
        refine iteF ?_
        walk_at "go"
        refine an_isList (r := .long) rfl ?_
        walk_at "go"
        refine iteF ?_
        walk_at "go"
        exact c3 rfl
end
end Dc

set_option Elab.async false
set_option linter.all false
set_option maxRecDepth 100000
set_option maxHeartbeats 2000000
namespace Dc
open PySem PySem.Spec PyProof.Rows L2
local macro_rules | `(tactic| walk_at "ne") => `(tactic| first | assumption | (refine Ne.symm ?_; assumption) | exact ne_of (by assumption) (by assumption) (by intro q; cases q) | exact ne_of_none (by assumption) (by assumption) | exact Ne.symm (ne_of_none (by assumption) (by assumption)))
local macro_rules | `(tactic| walk_at "hp") => `(tactic| first | assumption | exact upd_same | (refine upd_keep ?_ (by assumption); walk_at "hp") | (refine upd_other ?_ ?_; · walk_at "ne"; · walk_at "hp"))
local macro_rules | `(tactic| walk_at "hl") => `(tactic| first | assumption | exact SqL.of (by walk_at "hp"))
local macro_rules | `(tactic| walk_at "ht") => `(tactic| first | assumption | exact SqT.of (by walk_at "hp"))
local macro_rules | `(tactic| walk_at "rd1") => `(tactic| first
  | ((with_reducible apply rd_var); exact rfl)
  | ((with_reducible apply rd_eq); exact rfl) | ((with_reducible apply rd_ne); exact rfl)
  | with_reducible first
  | refine iteT ?_ | refine iteF ?_ | refine rd_nF ?_ | refine rd_nT ?_ | refine rd_yes ?_ | refine rd_c ?_ | refine rd_op ?_ | refine rd_un ?_ | refine rd_test ?_ | refine rd_B ?_ | refine rd_bl ?_ | refine rd_seq ?_ | refine rd_next ?_ | refine rd_ifs ?_ | refine rd_asg ?_ | refine rd_name ?_ | refine rd_ret ?_ | refine rd_drop ?_
  | refine rd_call ?_ | refine rd_cons ?_ | refine rd_nil ?_ | refine rd_cb ?_ | refine rd_I0 ?_ | refine rd_U ?_ | refine rd_gsub ?_ | refine rd_lst ?_ | refine rd_tup ?_ | refine rd_if ?_ | refine rd_not ?_ | refine rd_rng1 ?_ | refine rd_itup ?_ | refine rd_ilst ?_ | refine rd_bm ?_ | refine rd_bm0 ?_ | refine rd_andV ?_ | refine rd_orV ?_ | refine rd_notV ?_)
local macro_rules | `(tactic| walk_at "rd") => `(tactic| repeat walk_at "rd1")
local macro_rules | `(tactic| walk_at "ci") => `(tactic| first | assumption | (show (0 : Int) < _; first | decide | omega) | exact ⟨by decide, by decide⟩ | exact Or.inr ⟨by decide, by decide⟩ | exact Or.inl ⟨by decide, by decide⟩ | exact ⟨by decide, by decide, by decide⟩ | exact Or.inl ⟨by omega, by omega⟩ | exact Or.inr ⟨by omega, by omega⟩)
local macro_rules | `(tactic| walk_at "ix") => `(tactic| first
  | ((with_reducible apply rd_ixL); (walk_at "hl"); exact rfl)
  | ((with_reducible apply rd_ixT); (walk_at "ht"); exact rfl)
  | ((with_reducible apply rd_lenL); (walk_at "hl"))
  | ((with_reducible apply rd_lenT); (walk_at "ht"))
  | ((with_reducible apply rd_tupOf); (walk_at "hl"))
  | ((with_reducible apply rd_listOf); (walk_at "hl"))
  | (with_reducible refine rd_min2 ?_)
  | ((with_reducible apply rd_I); (walk_at "ci"))
  | ((with_reducible apply rd_setL); (walk_at "hp"); exact rfl))
local macro_rules | `(tactic| walk_at "gs") => `(tactic| repeat first | walk_at "rd1" | walk_at "ix")
local macro_rules | `(tactic| walk_at "go") => `(tactic| repeat first | walk_at "rd1" | walk_at "ix" | with_reducible refine rd_and ?_ | with_reducible refine rd_or ?_)
local macro_rules | `(tactic| walk_at "fo") => `(tactic| (with_reducible refine rd_for ?_))
local macro_rules | `(tactic| walk_at "pm") => `(tactic| repeat first
  | with_reducible first | refine rd_pcons ?_ | refine rd_pstr ?_ | refine rd_pcap ?_ | refine rd_pwild ?_ | refine rd_pnil ?_ | refine rd_por ?_ | refine rd_pno ?_
  | ((with_reducible refine rd_eq rfl ?_); refine ⟨_, rfl, ?_⟩; first | refine rd_T rfl ?_ | refine rd_F (by decide) ?_)
  | dsimp only [List.nil_append, List.singleton_append, List.cons_append, setAll])
local macro_rules | `(tactic| walk_at "pc") => `(tactic| (refine rd_case ?_); (first | (refine rd_phit (SqT.of (by assumption)) rfl ?_) | (refine rd_pmiss (SqT.of (by assumption)) (by simp) ?_)); (walk_at "pm"))

/-! ### a stage and what it draws from -/
def Nd.kid : Nd → Nd
  | .mkr m g => .mkr m g
  | .st _ _ c => c
  | .both _ c _ => c
  | .thn _ c _ => c
def Nd.setKid : Nd → Nd → Nd
  | .mkr m g, _ => .mkr m g
  | .st k o _, c => .st k o c
  | .both o _ d, c => .both o c d
  | .thn o _ d, c => .thn o c d
def Nd.sgv : Nd → List Int
  | .both _ _ d => d.gv
  | .thn _ _ d => d.gv
  | _ => []
def Nd.smk : Nd → List Mkr
  | .both _ _ d => d.mks
  | .thn _ _ d => d.mks
  | _ => []
def LSib (H : Hp) (own : OwnL) (off : Nat) : Nd → Prop
  | .both _ c d => LNd H own (off + c.gv.length) d
  | .thn _ c d => LNd H own (off + c.gv.length) d
  | _ => True
def csib (own : OwnL) (off : Nat) : Nd → Nat
  | .both _ c d => cnt own (off + c.gv.length) d
  | .thn _ c d => cnt own (off + c.gv.length) d
  | _ => 0
section
variable {H H' : Hp} {own own' : OwnL} {off : Nat} {y c' : Nd}
theorem kid_gv (hy : 1 ≤ y.len) : y.gv = y.kid.gv ++ y.sgv := by
  cases y with
  | mkr m g => exact absurd hy (Nat.not_succ_le_zero _)
  | st k o c => exact (List.append_nil _).symm
  | both o c d => rfl
  | thn o c d => rfl
theorem kid_mks (hy : 1 ≤ y.len) : y.mks = y.kid.mks ++ y.smk := by
  cases y with
  | mkr m g => exact absurd hy (Nat.not_succ_le_zero _)
  | st k o c => exact (List.append_nil _).symm
  | both o c d => rfl
  | thn o c d => rfl
theorem kid_len (hy : 1 ≤ y.len) : y.len = y.kid.len + 1 := by
  cases y with
  | mkr m g => exact absurd hy (Nat.not_succ_le_zero _)
  | st k o c => rfl
  | both o c d => rfl
  | thn o c d => rfl
theorem kid_nd (hy : 1 ≤ y.len) : LNd H own off y ↔ OwAt H own (key off y.len) y.top ∧ LNd H own off y.kid ∧ LSib H own off y := by
  cases y with
  | mkr m g => exact absurd hy (Nat.not_succ_le_zero _)
  | st k o c => exact ⟨fun h => ⟨h.1, h.2, trivial⟩, fun h => ⟨h.1, h.2.1⟩⟩
  | both o c d => exact Iff.rfl
  | thn o c d => exact Iff.rfl
theorem kid_cnt (hy : 1 ≤ y.len) : cnt own off y = isN (valV own (key off y.len)) + cnt own off y.kid + csib own off y := by
  cases y with
  | mkr m g => exact absurd hy (Nat.not_succ_le_zero _)
  | st k o c => rfl
  | both o c d => rfl
  | thn o c d => rfl
theorem kid_inv (hy : 1 ≤ y.len) (h : y.inv) : y.kid.inv := by
  cases y with
  | mkr m g => exact absurd hy (Nat.not_succ_le_zero _)
  | st k o c => exact h.2.2
  | both o c d => exact h.1
  | thn o c d => exact h.2.1
theorem kid_dep (hy : 1 ≤ y.len) : y.kid.dep + 1 ≤ y.dep := by
  cases y with
  | mkr m g => exact absurd hy (Nat.not_succ_le_zero _)
  | st k o c => exact Nat.le_refl _
  | both o c d => show c.dep + 1 ≤ max c.dep d.dep + 1; omega
  | thn o c d => show c.dep + 1 ≤ max c.dep d.dep + 1; omega
theorem kid_alive (hy : 1 ≤ y.len) : y.kid.alive ≤ y.alive := by
  cases y with
  | mkr m g => exact Nat.le_refl _
  | st k o c => show c.alive ≤ o.al + c.alive; omega
  | both o c d => show c.alive ≤ o.al + c.alive + d.alive; omega
  | thn o c d => show c.alive ≤ o.al + c.alive + d.alive; omega
theorem kid_le {B : Nat} (hy : 1 ≤ y.len) (h : y.le B) : y.kid.le B := by
  cases y with
  | mkr m g => exact h
  | st k o c => exact h
  | both o c d => exact h.1
  | thn o c d => exact h.1
/-- what a new child keeps -/
theorem set_facts (hy : 1 ≤ y.len) (s : Shp c' y.kid) (hg : c'.gv.length = y.kid.gv.length) :
    (y.setKid c').len = y.len ∧ (y.setKid c').mks = y.mks ∧ (y.setKid c').ch = y.ch ∧ (y.setKid c').gv = c'.gv ++ y.sgv ∧ (y.setKid c').top = y.top ∧ (y.setKid c').kid = c' ∧ (LSib H' own' off (y.setKid c') = LSib H' own' off y) ∧ csib own' off (y.setKid c') = csib own' off y := by
  cases y with
  | mkr m g => exact absurd hy (Nat.not_succ_le_zero _)
  | st k o c => exact ⟨by show c'.len + 1 = c.len + 1; rw [s.len]; rfl, s.mks, by show Ch.st c'.ch k = Ch.st c.ch k; rw [s.ch]; rfl, (List.append_nil _).symm, rfl, rfl, rfl, rfl⟩
  | both o c d =>
    have hg : c'.gv.length = c.gv.length := hg
    exact ⟨by show c'.len + 1 = c.len + 1; rw [s.len]; rfl, by show c'.mks ++ d.mks = c.mks ++ d.mks; rw [s.mks]; rfl, by show Ch.both c'.ch d.ch = Ch.both c.ch d.ch; rw [s.ch]; rfl, rfl, rfl, rfl, by show LNd H' own' (off + c'.gv.length) d = LNd H' own' (off + c.gv.length) d; rw [hg], by show cnt own' (off + c'.gv.length) d = cnt own' (off + c.gv.length) d; rw [hg]⟩
  | thn o c d =>
    have hg : c'.gv.length = c.gv.length := hg
    exact ⟨by show c'.len + 1 = c.len + 1; rw [s.len]; rfl, by show c'.mks ++ d.mks = c.mks ++ d.mks; rw [s.mks]; rfl, by show Ch.thn c'.ch d.ch = Ch.thn c.ch d.ch; rw [s.ch]; rfl, rfl, rfl, rfl, by show LNd H' own' (off + c'.gv.length) d = LNd H' own' (off + c.gv.length) d; rw [hg], by show cnt own' (off + c'.gv.length) d = cnt own' (off + c.gv.length) d; rw [hg]⟩
theorem not_kid {i a : Nat} (hy : 1 ≤ y.len) : InD off y.kid (key i a) → i = off → a < y.len := by
  rintro ⟨i', a', e, z⟩ rfl
  obtain ⟨rfl, rfl⟩ := key_inj e
  have := kid_len hy
  rcases z with ⟨_, z⟩ | ⟨z, _⟩ <;> omega
theorem LSib.kept {K : List L2.Key → Prop} (q : Kept K H own H' own') (n : ∀ i a, off + y.kid.gv.length ≤ i → ¬ K (key i a)) (h : LSib H own off y) : LSib H' own' off y := by
  cases y with
  | mkr m g => trivial
  | st k o c => trivial
  | both o c d => exact LNd.kept q (show LNd H own (off + c.gv.length) d from h) fun k ⟨i, a, e, z⟩ => e ▸ n i a (by show off + c.gv.length ≤ i; omega)
  | thn o c d => exact LNd.kept q (show LNd H own (off + c.gv.length) d from h) fun k ⟨i, a, e, z⟩ => e ▸ n i a (by show off + c.gv.length ≤ i; omega)
theorem csib.kept {K : List L2.Key → Prop} (q : Kept K H own H' own') (n : ∀ i a, off + y.kid.gv.length ≤ i → ¬ K (key i a)) : csib own' off y = csib own off y := by
  cases y with
  | mkr m g => rfl
  | st k o c => rfl
  | both o c d => exact cnt.kept q (off := off + c.gv.length) (x := d) fun k ⟨i, a, e, z⟩ => e ▸ n i a (by show off + c.gv.length ≤ i; omega)
  | thn o c d => exact cnt.kept q (off := off + c.gv.length) (x := d) fun k ⟨i, a, e, z⟩ => e ▸ n i a (by show off + c.gv.length ≤ i; omega)
theorem kid_in (hy : 1 ≤ y.len) {k : List L2.Key} (h : InD off y.kid k) : InD off y k := by
  obtain ⟨i, a, e, z⟩ := h
  have h1 := kid_len hy
  have h2 := congrArg List.length (kid_gv hy)
  rw [List.length_append] at h2
  exact ⟨i, a, e, by omega⟩
end
theorem snoc_inj {c c' : Ch} {g g' : Sg} (h : c.snoc g = c'.snoc g') : c = c' ∧ g = g' := by
  cases g <;> cases g' <;> first | (cases h; done) | (cases h; exact ⟨rfl, rfl⟩)
def Nd.sg : Nd → Sg
  | .mkr _ _ => .one .unlike
  | .st k _ _ => .one k
  | .both _ _ d => .both d.ch
  | .thn _ _ d => .thn d.ch
theorem ch_snoc {y : Nd} (hy : 1 ≤ y.len) : y.ch = y.kid.ch.snoc y.sg := by
  cases y with
  | mkr m g => exact absurd hy (Nat.not_succ_le_zero _)
  | st k o c => rfl
  | both o c d => rfl
  | thn o c d => rfl
theorem kid_px {cF : Ch} {y : Nd} (hy : 1 ≤ y.len) (px : y.ch = Ch.of cF.root (cF.sgs.take y.len)) (pl : y.len ≤ cF.sgs.length) : y.kid.ch = Ch.of cF.root (cF.sgs.take y.kid.len) ∧ cF.sgs[y.kid.len]? = some y.sg := by
  have e := kid_len hy
  have hl : y.kid.len < cF.sgs.length := by omega
  obtain ⟨g, hg⟩ : ∃ g, cF.sgs[y.kid.len]? = some g := ⟨_, List.getElem?_eq_getElem hl⟩
  rw [e, Ch.of_take cF.root hg, ch_snoc hy] at px
  obtain ⟨a, b⟩ := snoc_inj px
  exact ⟨a, b ▸ hg⟩
/-- amid the law's work for a stage -/
structure LMid (fl : Bool) (d : Nat) (A : LS) (p od : Addr) (cF : Ch) (st : Bool) (bs pre post : List Int) (preM postM : List Mkr) (x0 : Nd) (H0 : Hp) (own0 : OwnL) (y : Nd) (m : Mt) (own : OwnL) (H : Hp) : Prop where
  sep : LSep A
  la : LAt H A st m bs (pre ++ y.gv ++ post) own (preM ++ y.mks ++ postM)
  pm : preM.length = pre.length
  ch : ChAt H p cF
  px : y.ch = Ch.of cF.root (cF.sgs.take y.len)
  pl : y.len ≤ cF.sgs.length
  ps : 1 ≤ y.len
  ow : valV own (key pre.length y.len) = some (.ref od)
  oh : H od = some (.dK y.top.kvs)
  nd : LNd H own pre.length y
  ok : OwnOk H own
  sz : own.length + cnt own pre.length y ≤ own0.length + cnt own0 pre.length x0
  s0 : own0.length + cnt own0 pre.length x0 ≤ 1000
  inv : fl = true → y.inv
  dep : y.dep ≤ d
  bk : m.book ≤ 200
  al : fl = true → m.lost.length + y.alive ≤ 1000
  le : y.le (2 ^ 63 + m.book)
  nm : y.gv.length ≤ 4
  kp : Kept (InD pre.length x0) H0 own0 H own
  ods : ∀ b, b ∈ ods own → b ∈ ods own0 ∨ H0 b = none
  fr : Fr (A.ld :: A.lg :: A.ll :: A.lo :: Dc.ods own0) H0 H
  l0 : y.len = x0.len
  g0 : y.gv.length = x0.gv.length
  m0 : y.mks = x0.mks
theorem set_alive {y c' : Nd} (hy : 1 ≤ y.len) : (y.setKid c').alive + y.kid.alive = y.alive + c'.alive := by
  cases y with
  | mkr m g => exact absurd hy (Nat.not_succ_le_zero _)
  | st k o c => show o.al + c'.alive + c.alive = o.al + c.alive + c'.alive; omega
  | both o c d => show o.al + c'.alive + d.alive + c.alive = o.al + c.alive + d.alive + c'.alive; omega
  | thn o c d => show o.al + c'.alive + d.alive + c.alive = o.al + c.alive + d.alive + c'.alive; omega
theorem set_dep {y c' : Nd} (hy : 1 ≤ y.len) (h : c'.dep = y.kid.dep) : (y.setKid c').dep = y.dep := by
  cases y with
  | mkr m g => exact absurd hy (Nat.not_succ_le_zero _)
  | st k o c => show c'.dep + 1 = c.dep + 1; rw [h]; rfl
  | both o c d => show max c'.dep d.dep + 1 = max c.dep d.dep + 1; rw [h]; rfl
  | thn o c d => show max c'.dep d.dep + 1 = max c.dep d.dep + 1; rw [h]; rfl
theorem set_le {y c' : Nd} {B B' : Nat} (hy : 1 ≤ y.len) (h : y.le B) (hB : B ≤ B') (h' : c'.le B') : (y.setKid c').le B' := by
  cases y with
  | mkr m g => exact absurd hy (Nat.not_succ_le_zero _)
  | st k o c => exact h'
  | both o c d => exact ⟨h', Nd.le.mono hB h.2⟩
  | thn o c d => exact ⟨h', Nd.le.mono hB h.2⟩
theorem ind_eq {off : Nat} {x y : Nd} (l : y.len = x.len) (g : y.gv.length = x.gv.length) {k : List L2.Key} (h : InD off y k) : InD off x k := by
  obtain ⟨i, a, e, z⟩ := h
  exact ⟨i, a, e, by rw [← l, ← g]; exact z⟩
section
variable {d : Nat} {A : LS} {p od : Addr} {cF : Ch} {st : Bool} {bs pre post : List Int} {preM postM : List Mkr} {x0 : Nd} {H0 : Hp} {own0 : OwnL} {y : Nd} {m : Mt} {own : OwnL} {H : Hp}
theorem LMid.ods_up {fl : Bool} (M : LMid fl d A p od cF st bs pre post preM postM x0 H0 own0 y m own H) {own' : OwnL} (h : ∀ b, b ∈ Dc.ods own' → b ∈ Dc.ods own ∨ H b = none) : ∀ b, b ∈ Dc.ods own' → b ∈ Dc.ods own0 ∨ H0 b = none := fun b hb => by
  rcases h b hb with z | z
  · exact M.ods b z
  · by_cases q : b ∈ Dc.ods own0
    · exact .inl q
    · refine .inr (M.fr.free (fun h => ?_) z)
      simp only [List.mem_cons] at h
      rcases h with h | h | h | h | h
      · exact nocon z (h ▸ M.la.ob)
      · exact nocon z (h ▸ M.la.lg)
      · exact nocon z (h ▸ M.la.ll)
      · exact nocon z (h ▸ M.la.lo)
      · exact q h
theorem LMid.fr_up {fl : Bool} (M : LMid fl d A p od cF st bs pre post preM postM x0 H0 own0 y m own H) {H' : Hp} (f : Fr (A.ld :: A.lg :: A.ll :: A.lo :: Dc.ods own) H H') : Fr (A.ld :: A.lg :: A.ll :: A.lo :: Dc.ods own0) H0 H' := M.fr.trans f fun b hb => by
  simp only [List.mem_cons] at hb ⊢
  rcases hb with z | z | z | z | z
  · exact .inl (.inl z)
  · exact .inl (.inr (.inl z))
  · exact .inl (.inr (.inr (.inl z)))
  · exact .inl (.inr (.inr (.inr (.inl z))))
  · exact (M.ods b z).imp (fun z => .inr (.inr (.inr (.inr z)))) id
theorem LMid.ask {g : Nat} {rc : Rs} {c' : Nd} {m1 : Mt} {Q : VK} (M : LMid true (d + 1) A p od cF st bs pre post preM postM x0 H0 own0 y m own H) (hd : draw g y.kid m = some (rc, c', m1)) (hinv : c'.inv → (y.setKid c').inv)
    (go : ∀ H' v own', rc.an H' v → (∀ q, v = .ref q → q ≠ A.lg ∧ q ≠ A.ll) → LMid true (d + 1) A p od cF st bs pre post preM postM x0 H0 own0 (y.setKid c') m1 own' H' → Q v H') : LAsk d A p cF st bs pre (y.sgv ++ post) own preM (y.smk ++ postM) y.kid m rc c' m1 H Q := by
  have hy := M.ps
  have F := draw_facts _ _ _ _ _ _ hd (kid_inv hy (M.inv rfl)) M.bk
  have L := draw_lost _ _ _ _ _ _ hd
  have S := draw_shp _ _ _ _ _ _ hd
  have px := kid_px hy M.px M.pl
  have kl := kid_len hy
  have kc := kid_cnt (own := own) (off := pre.length) hy
  have gl := congrArg List.length (kid_gv hy)
  rw [List.length_append] at gl
  have ka := kid_alive hy
  have kd := kid_dep hy
  have sa := set_alive (c' := c') hy
  refine ⟨M.sep, by have := M.la; rw [kid_gv hy, kid_mks hy] at this; simpa using this, M.pm, M.ch, px.1, by have := M.pl; omega, ((kid_nd hy).mp M.nd).2.1, M.ok, by have := M.sz; have := M.s0; omega, kid_inv hy (M.inv rfl), by have := M.dep; omega, M.bk, by have := M.al rfl; omega, kid_le hy M.le, by have := M.nm; omega, fun H' v own' an nl la' nd' ok' sz' kp' od' fr' => ?_⟩
  obtain ⟨s1, s2, s3, s4, s5, s6, s7, s8⟩ := set_facts (H' := H') (own' := own') (off := pre.length) hy S F.gl
  have nk : ¬ InD pre.length y.kid (key pre.length y.len) := fun h => by have := not_kid hy h rfl; omega
  have nsib : ∀ i a, pre.length + y.kid.gv.length ≤ i → ¬ InD pre.length y.kid (key i a) := fun i a hi h => by
    obtain ⟨i', a', e, z⟩ := h
    obtain ⟨rfl, rfl⟩ := key_inj e
    have := y.kid.gv_pos
    omega
  obtain ⟨kv, kh⟩ := kp' _ nk
  have ow' : valV own' (key pre.length y.len) = some (.ref od) := kv.trans M.ow
  have oh' := kh od _ M.ow M.oh
  refine go H' v own' an nl ⟨M.sep, ?_, M.pm, M.ch.fr fr', by rw [s3, s1]; exact M.px, by rw [s1]; exact M.pl, by rw [s1]; exact hy, by rw [s1]; exact ow', by rw [s5]; exact oh', ?_, ok', ?_, M.s0, fun _ => hinv F.inv, by rw [set_dep hy L.2]; exact M.dep, F.b2, fun _ => by have := L.1; have := M.al rfl; omega, ?_, ?_, ?_, M.ods_up od', M.fr_up fr', by rw [s1]; exact M.l0, ?_, by rw [s2]; exact M.m0⟩
  · rw [s4, s2, kid_mks hy]
    simpa using la'
  · refine (kid_nd (by rw [s1]; exact hy)).mpr ⟨.inl ⟨od, by rw [s1]; exact ow', by rw [s5]; exact oh'⟩, by rw [s6]; exact nd', by rw [s7]; exact LSib.kept kp' nsib ((kid_nd hy).mp M.nd).2.2⟩
  · have kc' := kid_cnt (own := own') (off := pre.length) (y := y.setKid c') (by rw [s1]; exact hy)
    rw [s1, s6, s8, csib.kept kp' nsib, kv] at kc'
    have := M.sz
    omega
  · exact set_le hy M.le (by have := F.b1; omega) (Nd.le.mono (by have := F.b1; omega) (F.le _ (kid_le hy M.le)))
  · rw [s4, List.length_append, F.gl]; have := M.nm; omega
  · exact M.kp.trans (kp'.mono fun k h => ind_eq M.l0 M.g0 (kid_in hy h))
  · rw [s4, List.length_append, F.gl, ← M.g0]; omega
end
end Dc

set_option Elab.async false
set_option linter.all false
set_option maxRecDepth 100000
set_option maxHeartbeats 2000000
namespace Dc
open PySem PySem.Spec PyProof.Rows L2
local macro_rules | `(tactic| walk_at "ne") => `(tactic| first | assumption | (refine Ne.symm ?_; assumption) | exact ne_of (by assumption) (by assumption) (by intro q; cases q) | exact ne_of_none (by assumption) (by assumption) | exact Ne.symm (ne_of_none (by assumption) (by assumption)))
local macro_rules | `(tactic| walk_at "hp") => `(tactic| first | assumption | exact upd_same | (refine upd_keep ?_ (by assumption); walk_at "hp") | (refine upd_other ?_ ?_; · walk_at "ne"; · walk_at "hp"))
local macro_rules | `(tactic| walk_at "hl") => `(tactic| first | assumption | exact SqL.of (by walk_at "hp"))
local macro_rules | `(tactic| walk_at "ht") => `(tactic| first | assumption | exact SqT.of (by walk_at "hp"))
local macro_rules | `(tactic| walk_at "rd1") => `(tactic| first
  | ((with_reducible apply rd_var); exact rfl)
  | ((with_reducible apply rd_eq); exact rfl) | ((with_reducible apply rd_ne); exact rfl)
  | with_reducible first
  | refine iteT ?_ | refine iteF ?_ | refine rd_nF ?_ | refine rd_nT ?_ | refine rd_yes ?_ | refine rd_c ?_ | refine rd_op ?_ | refine rd_un ?_ | refine rd_test ?_ | refine rd_B ?_ | refine rd_bl ?_ | refine rd_seq ?_ | refine rd_next ?_ | refine rd_ifs ?_ | refine rd_asg ?_ | refine rd_name ?_ | refine rd_ret ?_ | refine rd_drop ?_
  | refine rd_call ?_ | refine rd_cons ?_ | refine rd_nil ?_ | refine rd_cb ?_ | refine rd_I0 ?_ | refine rd_U ?_ | refine rd_gsub ?_ | refine rd_lst ?_ | refine rd_tup ?_ | refine rd_if ?_ | refine rd_not ?_ | refine rd_rng1 ?_ | refine rd_itup ?_ | refine rd_ilst ?_ | refine rd_bm ?_ | refine rd_bm0 ?_ | refine rd_andV ?_ | refine rd_orV ?_ | refine rd_notV ?_)
local macro_rules | `(tactic| walk_at "rd") => `(tactic| repeat walk_at "rd1")
local macro_rules | `(tactic| walk_at "ci") => `(tactic| first | assumption | (show (0 : Int) < _; first | decide | omega) | exact ⟨by decide, by decide⟩ | exact Or.inr ⟨by decide, by decide⟩ | exact Or.inl ⟨by decide, by decide⟩ | exact ⟨by decide, by decide, by decide⟩ | exact Or.inl ⟨by omega, by omega⟩ | exact Or.inr ⟨by omega, by omega⟩)
local macro_rules | `(tactic| walk_at "ix") => `(tactic| first
  | ((with_reducible apply rd_ixL); (walk_at "hl"); exact rfl)
  | ((with_reducible apply rd_ixT); (walk_at "ht"); exact rfl)
  | ((with_reducible apply rd_lenL); (walk_at "hl"))
  | ((with_reducible apply rd_lenT); (walk_at "ht"))
  | ((with_reducible apply rd_tupOf); (walk_at "hl"))
  | ((with_reducible apply rd_listOf); (walk_at "hl"))
  | (with_reducible refine rd_min2 ?_)
  | ((with_reducible apply rd_I); (walk_at "ci"))
  | ((with_reducible apply rd_setL); (walk_at "hp"); exact rfl))
local macro_rules | `(tactic| walk_at "gs") => `(tactic| repeat first | walk_at "rd1" | walk_at "ix")
local macro_rules | `(tactic| walk_at "go") => `(tactic| repeat first | walk_at "rd1" | walk_at "ix" | with_reducible refine rd_and ?_ | with_reducible refine rd_or ?_)
local macro_rules | `(tactic| walk_at "fo") => `(tactic| (with_reducible refine rd_for ?_))
local macro_rules | `(tactic| walk_at "pm") => `(tactic| repeat first
  | with_reducible first | refine rd_pcons ?_ | refine rd_pstr ?_ | refine rd_pcap ?_ | refine rd_pwild ?_ | refine rd_pnil ?_ | refine rd_por ?_ | refine rd_pno ?_
  | ((with_reducible refine rd_eq rfl ?_); refine ⟨_, rfl, ?_⟩; first | refine rd_T rfl ?_ | refine rd_F (by decide) ?_)
  | dsimp only [List.nil_append, List.singleton_append, List.cons_append, setAll])
local macro_rules | `(tactic| walk_at "pc") => `(tactic| (refine rd_case ?_); (first | (refine rd_phit (SqT.of (by assumption)) rfl ?_) | (refine rd_pmiss (SqT.of (by assumption)) (by simp) ?_)); (walk_at "pm"))

theorem setTop_gv (x : Nd) (o : Ow) : (x.setTop o).gv = x.gv := by cases x <;> rfl
theorem setTop_cnt (own : OwnL) (off : Nat) (x : Nd) (o : Ow) : cnt own off (x.setTop o) = cnt own off x := by cases x <;> rfl
theorem setTop_top {x : Nd} (hx : 1 ≤ x.len) (o : Ow) : (x.setTop o).top = o := by
  cases x with
  | mkr m g => exact absurd hx (Nat.not_succ_le_zero _)
  | _ => rfl
theorem setTop_mks (x : Nd) (o : Ow) : (x.setTop o).mks = x.mks := by cases x <;> rfl
theorem setTop_ch (x : Nd) (o : Ow) : (x.setTop o).ch = x.ch := by cases x <;> rfl
theorem setTop_dep (x : Nd) (o : Ow) : (x.setTop o).dep = x.dep := by cases x <;> rfl
theorem setTop_le {B : Nat} (x : Nd) (o : Ow) : (x.setTop o).le B = x.le B := by cases x <;> rfl
theorem setTop_alive {x : Nd} {o : Ow} (h : o.al ≤ x.top.al) : (x.setTop o).alive ≤ x.alive := by
  cases x with
  | mkr m g => exact Nat.le_refl _
  | st k o' c => have h : o.al ≤ o'.al := h; show o.al + c.alive ≤ o'.al + c.alive; omega
  | both o' c d => have h : o.al ≤ o'.al := h; show o.al + c.alive + d.alive ≤ o'.al + c.alive + d.alive; omega
  | thn o' c d => have h : o.al ≤ o'.al := h; show o.al + c.alive + d.alive ≤ o'.al + c.alive + d.alive; omega
section
variable {d : Nat} {A : LS} {p od : Addr} {cF : Ch} {st : Bool} {bs pre post : List Int} {preM postM : List Mkr} {x0 : Nd} {H0 : Hp} {own0 : OwnL} {y : Nd} {m : Mt} {own : OwnL} {H : Hp}
theorem BAsk.mid {r : Rs} {x' : Nd} {m' : Mt} {Q : VK} {x : Nd} (G : BAsk d A p od cF st bs pre post own preM postM x m r x' m' H Q) : LMid true d A p od cF st bs pre post preM postM x H own x m own H :=
  ⟨G.sep, G.la, G.pm, G.ch, G.px, G.pl, G.ps, G.ow, G.oh, G.nd, G.ok, Nat.le_refl _, G.sz, fun _ => G.inv, G.dep, G.bk, fun _ => G.al, G.le, G.nm, Kept.refl, fun b hb => .inl hb, Fr.refl _ _, rfl, rfl, rfl⟩
/-- the own dict is written -/
theorem LMid.setTop {fl fl' : Bool} (M : LMid fl d A p od cF st bs pre post preM postM x0 H0 own0 y m own H) {H' : Hp} {o : Ow} (f : Fr [od] H H') (e : H' od = some (.dK o.kvs)) (hf : fl' = true → fl = true) (hi : fl' = true → (y.setTop o).inv) (ho : o.al ≤ y.top.al) : LMid fl' d A p od cF st bs pre post preM postM x0 H0 own0 (y.setTop o) m own H' := by
  have one := M.la.own_ne M.ow M.oh
  have kp4 : Kept (fun k' => k' = key pre.length y.len) H own H' own := fun k' nk => ⟨rfl, fun od' o e z => f.at z fun h => nk (M.ok.inj k' _ od ((List.mem_singleton.mp h) ▸ e) M.ow)⟩
  have hs := (LNd.split M.ps).mp M.nd
  have al := setTop_alive ho
  have ln := setTop_len y o
  have la' := M.la.fr f fun b hb h => by
    rw [List.mem_singleton] at h
    subst h
    simp only [List.mem_cons, List.not_mem_nil, or_false] at hb
    obtain ⟨o1', o2', o3', o4', o5', o6'⟩ := one
    rcases hb with z | z | z | z | z | z
    · exact o1' z
    · exact o5' z
    · exact o2' z
    · exact o3' z
    · exact o4' z
    · exact o6' z
  refine ⟨M.sep, by rw [setTop_gv, setTop_mks]; exact la', M.pm, M.ch.fr f, by rw [setTop_ch, ln]; exact M.px, by rw [ln]; exact M.pl, by rw [ln]; exact M.ps, by rw [ln]; exact M.ow, by rw [setTop_top M.ps]; exact e, ?_, ⟨fun k' v' e' => ?_, M.ok.inj, M.ok.nd⟩, by rw [setTop_cnt]; exact M.sz, M.s0, hi, by rw [setTop_dep]; exact M.dep, M.bk, fun z => Nat.le_trans (Nat.add_le_add_left al _) (M.al (hf z)), by rw [setTop_le]; exact M.le, by rw [setTop_gv]; exact M.nm,
    M.kp.trans (kp4.mono fun k z => ⟨_, _, z, .inl ⟨rfl, by rw [M.l0]; exact Nat.le_refl _⟩⟩), M.ods, M.fr.trans f fun b hb => ?_, by rw [ln]; exact M.l0, by rw [setTop_gv]; exact M.g0, by rw [setTop_mks]; exact M.m0⟩
  · exact (LNd.split (by rw [ln]; exact M.ps)).mpr ⟨.inl ⟨od, by rw [ln]; exact M.ow, by rw [setTop_top M.ps]; exact e⟩, by rw [setTop_in]; exact LIn.kept kp4 (fun k _ n z => n z) hs.2⟩
  · obtain ⟨od', o', e1, e2⟩ := M.ok.dict k' v' e'
    by_cases z : od' = od
    · exact ⟨od', _, e1, by rw [z]; exact e⟩
    · exact ⟨od', o', e1, f.at e2 (by simpa using z)⟩
  · rw [List.mem_singleton] at hb
    subst hb
    rcases M.ods _ (ods_val M.ow) with z | z
    · exact .inl (by simp [z])
    · exact .inr z
theorem LMid.fresh {fl : Bool} (M : LMid fl d A p od cF st bs pre post preM postM x0 H0 own0 y m own H) {q : Addr} {o : HO} (h : H q = none) : LMid fl d A p od cF st bs pre post preM postM x0 H0 own0 y m own (upd H q o) := by
  have f : Fr [] H (upd H q o) := Fr.new h
  have kp4 : Kept (fun _ => False) H own (upd H q o) own := fun k' _ => ⟨rfl, fun od' o e z => f.at z (by simp)⟩
  exact ⟨M.sep, M.la.fresh h, M.pm, M.ch.fr f, M.px, M.pl, M.ps, M.ow, f.at M.oh (by simp), M.nd.kept kp4 (fun _ _ z => z), M.ok.fr f (fun _ _ => by simp), M.sz, M.s0, M.inv, M.dep, M.bk, M.al, M.le, M.nm, M.kp.trans (kp4.mono fun _ z => z.elim), M.ods, M.fr.newN h, M.l0, M.g0, M.m0⟩
theorem LMid.setLost {fl : Bool} (M : LMid fl d A p od cF st bs pre post preM postM x0 H0 own0 y m own H) {H' : Hp} {L : List Int} (la : LAt H' A st { m with lost := L } bs (pre ++ y.gv ++ post) own (preM ++ y.mks ++ postM)) (f : Fr [A.ll] H H') :
    LMid false d A p od cF st bs pre post preM postM x0 H0 own0 y { m with lost := L } own H' := by
  have kp4 : Kept (fun _ => False) H own H' own := fun k' _ => ⟨rfl, fun od' o e z => f.at z (by have := (M.la.own_ne e z).2.2.1; simpa using this)⟩
  exact ⟨M.sep, la, M.pm, M.ch.fr f, M.px, M.pl, M.ps, M.ow, (kp4 _ (fun z => z)).2 od _ M.ow M.oh, M.nd.kept kp4 (fun _ _ z => z), M.ok.fr f (fun e z => by have := (M.la.own_ne e z).2.2.1; simpa using this), M.sz, M.s0, (fun z => by cases z), M.dep, M.bk, (fun z => by cases z), M.le, M.nm, M.kp.trans (kp4.mono fun _ z => z.elim), M.ods,
    M.fr.tr (f.mono fun b hb => by rw [List.mem_singleton] at hb; simp [hb]), M.l0, M.g0, M.m0⟩
theorem LMid.fr0 {fl : Bool} (M : LMid fl d A p od cF st bs pre post preM postM x0 H0 own0 y m own H) {H' : Hp} (f : Fr [] H H') : LMid fl d A p od cF st bs pre post preM postM x0 H0 own0 y m own H' := by
  have kp4 : Kept (fun _ => False) H own H' own := fun k' _ => ⟨rfl, fun od' o e z => f.at z (by simp)⟩
  exact ⟨M.sep, M.la.fr f (by simp), M.pm, M.ch.fr f, M.px, M.pl, M.ps, M.ow, f.at M.oh (by simp), M.nd.kept kp4 (fun _ _ z => z), M.ok.fr f (fun _ _ => by simp), M.sz, M.s0, M.inv, M.dep, M.bk, M.al, M.le, M.nm, M.kp.trans (kp4.mono fun _ z => z.elim), M.ods, M.fr.tr (f.mono fun b hb => by cases hb), M.l0, M.g0, M.m0⟩
theorem LMid.ask_both {g : Nat} {o : Ow} {c e e' : Nd} {r2 : Rs} {m2 : Mt} {pi : Addr} {H1 : Hp} {Q : VK} (M0 : LMid true (d + 1) A p od cF st bs pre post preM postM x0 H0 own0 (.both o c e) m own H) (hd : draw g e m = some (r2, e', m2)) (f01 : Fr [] H H1) (hp : ChAt H1 pi e.ch)
    (go : ∀ H' v own', r2.an H' v → (∀ q, v = .ref q → q ≠ A.lg ∧ q ≠ A.ll) → LMid true (d + 1) A p od cF st bs pre post preM postM x0 H0 own0 (.both o c e') m2 own' H' → Fr (A.ld :: A.lg :: A.ll :: A.lo :: Dc.ods own) H1 H' → Q v H') : LAsk d A pi e.ch st bs (pre ++ c.gv) post own (preM ++ c.mks) postM e m r2 e' m2 H1 Q := by
  have M := M0.fr0 f01
  have F := draw_facts _ _ _ _ _ _ hd (M.inv rfl).2 M.bk
  have L := draw_lost _ _ _ _ _ _ hd
  have S := draw_shp _ _ _ _ _ _ hd
  have hdep : max c.dep e.dep + 1 ≤ d + 1 := M.dep
  have hal : m.lost.length + (o.al + c.alive + e.alive) ≤ 1000 := M.al rfl
  have hnm : (c.gv ++ e.gv).length ≤ 4 := M.nm
  rw [List.length_append] at hnm
  have hsz : own.length + (isN (valV own (key pre.length (c.len + 1))) + cnt own pre.length c + cnt own (pre.length + c.gv.length) e) ≤ own0.length + cnt own0 pre.length x0 := M.sz
  have s0 := M.s0
  have cm : c.mks.length = c.gv.length := by rw [Nd.mks_ch, Ch.mks_len, Nd.gv_ch]
  have lp : (pre ++ c.gv).length = pre.length + c.gv.length := List.length_append
  have hnd : OwAt H1 own (key pre.length (c.len + 1)) o ∧ LNd H1 own pre.length c ∧ LNd H1 own (pre.length + c.gv.length) e := M.nd
  refine ⟨M.sep, by have := M.la; rw [show (Nd.both o c e).gv = c.gv ++ e.gv from rfl, show (Nd.both o c e).mks = c.mks ++ e.mks from rfl] at this; simpa using this, by rw [List.length_append, lp, M.pm, cm], hp, by rw [Nd.len_ch, ← Ch.of_sgs_len, List.take_length, Ch.of_sgs], by rw [Nd.len_ch, Ch.of_sgs_len]; exact Nat.le_refl _, by rw [lp]; exact hnd.2.2, M.ok, by rw [lp]; omega, (M.inv rfl).2, by omega, M.bk, by omega, M.le.2, by omega, fun H' v own' an nl la' nd' ok' sz' kp' od' fr' => ?_⟩
  rw [lp] at nd' sz' kp'
  have ntop : ¬ InD (pre.length + c.gv.length) e (key pre.length (c.len + 1)) := fun ⟨i, a, q, z⟩ => by
    obtain ⟨rfl, rfl⟩ := key_inj q
    have := c.gv_pos
    omega
  have nc : ∀ k, InD pre.length c k → ¬ InD (pre.length + c.gv.length) e k := fun k ⟨i, a, q, z⟩ ⟨i', a', q', z'⟩ => by
    obtain ⟨rfl, rfl⟩ := key_inj (q.symm.trans q')
    have := c.gv_pos
    omega
  have ine : ∀ k, InD (pre.length + c.gv.length) e k → InD pre.length (Nd.both o c e) k := fun k ⟨i, a, q, z⟩ => ⟨i, a, q, .inr (by
    have h1 := c.gv_pos
    have h2 := e.gv_pos
    show pre.length < i ∧ i < pre.length + (c.gv ++ e.gv).length
    rw [List.length_append]
    rcases z with ⟨z1, z2⟩ | ⟨z1, z2⟩ <;> omega)⟩
  obtain ⟨kv, kh⟩ := kp' _ ntop
  have ow : valV own (key pre.length (c.len + 1)) = some (.ref od) := M.ow
  have gl' : (c.gv ++ e'.gv).length = (c.gv ++ e.gv).length := by rw [List.length_append, List.length_append, F.gl]
  refine go H' v own' an nl ⟨M.sep, by rw [show (Nd.both o c e').gv = c.gv ++ e'.gv from rfl, show (Nd.both o c e').mks = c.mks ++ e.mks from by show c.mks ++ e'.mks = _; rw [S.mks]]; simpa using la', M.pm, M.ch.fr fr', by have := M.px; rw [show (Nd.both o c e').ch = (Nd.both o c e).ch from by show Ch.both c.ch e'.ch = Ch.both c.ch e.ch; rw [S.ch]]; exact this, M.pl, M.ps, kv.trans ow, kh od _ ow M.oh, ⟨hnd.1.kept kp' ntop, hnd.2.1.kept kp' nc, nd'⟩, ok', ?_, s0, fun _ => ⟨(M.inv rfl).1, F.inv⟩, by show max c.dep e'.dep + 1 ≤ d + 1; rw [L.2]; exact hdep, F.b2, fun _ => ?_, ⟨Nd.le.mono (by have := F.b1; omega) M.le.1, Nd.le.mono (by have := F.b1; omega) (F.le _ M.le.2)⟩, by show (c.gv ++ e'.gv).length ≤ 4; rw [gl', List.length_append]; exact hnm, M.kp.trans (kp'.mono fun k h => ind_eq M.l0 M.g0 (ine k h)), M.ods_up od', M.fr_up fr', M.l0, by have := M.g0; show (c.gv ++ e'.gv).length = _; rw [gl']; exact this, by have := M.m0; show c.mks ++ e'.mks = _; rw [S.mks]; exact this⟩ fr'
  · show own'.length + (isN (valV own' (key pre.length (c.len + 1))) + cnt own' pre.length c + cnt own' (pre.length + c.gv.length) e') ≤ _
    rw [kv, cnt.kept kp' (off := pre.length) (x := c) nc]
    omega
  · show m2.lost.length + (o.al + c.alive + e'.alive) ≤ 1000
    have := L.1
    omega
theorem LMid.ask_thn {g : Nat} {o : Ow} {c e e' : Nd} {r2 : Rs} {m2 : Mt} {pi : Addr} {H1 : Hp} {Q : VK} (M0 : LMid true (d + 1) A p od cF st bs pre post preM postM x0 H0 own0 (.thn o c e) m own H) (hd : draw g e m = some (r2, e', m2)) (f01 : Fr [] H H1) (hp : ChAt H1 pi e.ch)
    (go : ∀ H' v own', r2.an H' v → (∀ q, v = .ref q → q ≠ A.lg ∧ q ≠ A.ll) → LMid true (d + 1) A p od cF st bs pre post preM postM x0 H0 own0 (.thn o c e') m2 own' H' → Fr (A.ld :: A.lg :: A.ll :: A.lo :: Dc.ods own) H1 H' → Q v H') : LAsk d A pi e.ch st bs (pre ++ c.gv) post own (preM ++ c.mks) postM e m r2 e' m2 H1 Q := by
  have M := M0.fr0 f01
  have F := draw_facts _ _ _ _ _ _ hd (M.inv rfl).2.2 M.bk
  have L := draw_lost _ _ _ _ _ _ hd
  have S := draw_shp _ _ _ _ _ _ hd
  have hdep : max c.dep e.dep + 1 ≤ d + 1 := M.dep
  have hal : m.lost.length + (o.al + c.alive + e.alive) ≤ 1000 := M.al rfl
  have hnm : (c.gv ++ e.gv).length ≤ 4 := M.nm
  rw [List.length_append] at hnm
  have hsz : own.length + (isN (valV own (key pre.length (c.len + 1))) + cnt own pre.length c + cnt own (pre.length + c.gv.length) e) ≤ own0.length + cnt own0 pre.length x0 := M.sz
  have s0 := M.s0
  have cm : c.mks.length = c.gv.length := by rw [Nd.mks_ch, Ch.mks_len, Nd.gv_ch]
  have lp : (pre ++ c.gv).length = pre.length + c.gv.length := List.length_append
  have hnd : OwAt H1 own (key pre.length (c.len + 1)) o ∧ LNd H1 own pre.length c ∧ LNd H1 own (pre.length + c.gv.length) e := M.nd
  refine ⟨M.sep, by have := M.la; rw [show (Nd.thn o c e).gv = c.gv ++ e.gv from rfl, show (Nd.thn o c e).mks = c.mks ++ e.mks from rfl] at this; simpa using this, by rw [List.length_append, lp, M.pm, cm], hp, by rw [Nd.len_ch, ← Ch.of_sgs_len, List.take_length, Ch.of_sgs], by rw [Nd.len_ch, Ch.of_sgs_len]; exact Nat.le_refl _, by rw [lp]; exact hnd.2.2, M.ok, by rw [lp]; omega, (M.inv rfl).2.2, by omega, M.bk, by omega, M.le.2, by omega, fun H' v own' an nl la' nd' ok' sz' kp' od' fr' => ?_⟩
  rw [lp] at nd' sz' kp'
  have ntop : ¬ InD (pre.length + c.gv.length) e (key pre.length (c.len + 1)) := fun ⟨i, a, q, z⟩ => by
    obtain ⟨rfl, rfl⟩ := key_inj q
    have := c.gv_pos
    omega
  have nc : ∀ k, InD pre.length c k → ¬ InD (pre.length + c.gv.length) e k := fun k ⟨i, a, q, z⟩ ⟨i', a', q', z'⟩ => by
    obtain ⟨rfl, rfl⟩ := key_inj (q.symm.trans q')
    have := c.gv_pos
    omega
  have ine : ∀ k, InD (pre.length + c.gv.length) e k → InD pre.length (Nd.thn o c e) k := fun k ⟨i, a, q, z⟩ => ⟨i, a, q, .inr (by
    have h1 := c.gv_pos
    have h2 := e.gv_pos
    show pre.length < i ∧ i < pre.length + (c.gv ++ e.gv).length
    rw [List.length_append]
    rcases z with ⟨z1, z2⟩ | ⟨z1, z2⟩ <;> omega)⟩
  obtain ⟨kv, kh⟩ := kp' _ ntop
  have ow : valV own (key pre.length (c.len + 1)) = some (.ref od) := M.ow
  have gl' : (c.gv ++ e'.gv).length = (c.gv ++ e.gv).length := by rw [List.length_append, List.length_append, F.gl]
  refine go H' v own' an nl ⟨M.sep, by rw [show (Nd.thn o c e').gv = c.gv ++ e'.gv from rfl, show (Nd.thn o c e').mks = c.mks ++ e.mks from by show c.mks ++ e'.mks = _; rw [S.mks]]; simpa using la', M.pm, M.ch.fr fr', by have := M.px; rw [show (Nd.thn o c e').ch = (Nd.thn o c e).ch from by show Ch.thn c.ch e'.ch = Ch.thn c.ch e.ch; rw [S.ch]]; exact this, M.pl, M.ps, kv.trans ow, kh od _ ow M.oh, ⟨hnd.1.kept kp' ntop, hnd.2.1.kept kp' nc, nd'⟩, ok', ?_, s0, fun _ => ⟨(M.inv rfl).1, (M.inv rfl).2.1, F.inv⟩, by show max c.dep e'.dep + 1 ≤ d + 1; rw [L.2]; exact hdep, F.b2, fun _ => ?_, ⟨Nd.le.mono (by have := F.b1; omega) M.le.1, Nd.le.mono (by have := F.b1; omega) (F.le _ M.le.2)⟩, by show (c.gv ++ e'.gv).length ≤ 4; rw [gl', List.length_append]; exact hnm, M.kp.trans (kp'.mono fun k h => ind_eq M.l0 M.g0 (ine k h)), M.ods_up od', M.fr_up fr', M.l0, by have := M.g0; show (c.gv ++ e'.gv).length = _; rw [gl']; exact this, by have := M.m0; show c.mks ++ e'.mks = _; rw [S.mks]; exact this⟩ fr'
  · show own'.length + (isN (valV own' (key pre.length (c.len + 1))) + cnt own' pre.length c + cnt own' (pre.length + c.gv.length) e') ≤ _
    rw [kv, cnt.kept kp' (off := pre.length) (x := c) nc]
    omega
  · show m2.lost.length + (o.al + c.alive + e'.alive) ≤ 1000
    have := L.1
    omega
/-- it is done -/
theorem BAsk.done {fl : Bool} {r : Rs} {x' : Nd} {m' : Mt} {Q : VK} {x : Nd} {own' : OwnL} {H' : Hp} {o1 : Ow} {v : V} (G : BAsk d A p od cF st bs pre post own preM postM x m r x' m' H Q) (M : LMid fl d A p od cF st bs pre post preM postM x H own (x'.setTop o1) m' own' H') (an : r.an H' v) (nl : ∀ q, v = .ref q → q ≠ A.lg ∧ q ≠ A.ll) (ht : x'.top = o1.fin r) : Q v H' := by
  have hx : 1 ≤ x'.len := by have := M.ps; rw [setTop_len] at this; exact this
  refine G.go H' v own' o1 an nl ht (by have := M.la; rw [setTop_gv, M.m0] at this; exact this) M.nd M.ok (by have := M.sz; rw [setTop_cnt] at this; exact this) (by have := M.ow; rw [M.l0] at this; exact this) (by have := M.oh; rw [setTop_top hx] at this; exact this) M.kp M.ods M.fr
/-- what comes behind the last draw of a simple stage -/
def PostR (k : Kd) (r : Rs) (x' : Nd) (m' : Mt) (o : Ow) (c' : Nd) (m1 : Mt) : Rs → Prop
  | .num n => (∀ v o1, toldS k o n = some (v, o1) → r = .num v ∧ x' = .st k (o1.fin (.num v)) c' ∧ m' = m1) ∧ (toldS k o n = none → r = .fin ∧ x' = .st k (o.fin .fin) c' ∧ m' = { m1 with lost := m1.lost ++ [n] })
  | .fin => r = .fin ∧ x' = .st k (o.fin .fin) c' ∧ m' = m1
  | .long => r = .long ∧ x' = .st k o c' ∧ m' = m1
end
theorem lets_ahead {k : Kd} (h : k.lets = true) (o : Ow) : ahead k o = none := by
  cases k with
  | drop j => rfl
  | keep a b => rfl
  | unlike => rfl
  | _ => cases h
theorem lets_inv {k : Kd} {o o' : Ow} {n : Int} (h : k.lets = true) (hi : k.inv o) (q : pass k o n = .again o' ∨ pass k o n = .tell n o') : k.inv o' := by
  cases k with
  | drop j =>
    have hi : 0 ≤ o.left := hi
    simp only [pass] at q
    split at q
    · rcases q with q | q
      · cases q; show 0 ≤ o.left + 1; omega
      · cases q
    · rcases q with q | q
      · cases q
      · cases q; show 0 ≤ o.left + 1; omega
  | keep a b => trivial
  | unlike =>
    simp only [pass] at q
    split at q
    · rcases q with q | q
      · cases q; exact hi
      · cases q
    · rcases q with q | q
      · cases q
      · cases q; exact hi
  | _ => cases h
theorem lets_told {k : Kd} (h : k.lets = true) (o : Ow) (n : Int) : toldS k o n = some (n, o) := by
  cases k with
  | drop j => rfl
  | keep a b => rfl
  | unlike => rfl
  | _ => cases h
theorem told_step {f0 : Nat} {k : Kd} {o : Ow} {r : Rs} {x' : Nd} {m' : Mt} {c' : Nd} {m1 : Mt} {n : Int} (h : k.lets = false) (s : Step f0 k o r x' m' c' m1 (.num n)) : PostR k r x' m' o c' m1 (.num n) := by
  refine ⟨fun v o1 e => ?_, fun e => ?_⟩
  · cases k with
    | add a => cases e; exact step_tell s rfl
    | times a => cases e; exact step_tell s rfl
    | take a => cases e; exact step_tell s rfl
    | each a => cases e; exact step_tell s rfl
    | «until» a =>
      by_cases c : a ≤ n
      · rw [show toldS (.until a) o n = none from if_pos c] at e; cases e
      · rw [show toldS (.until a) o n = some (n, o) from if_neg c] at e; cases e; exact step_tell s (if_neg c)
    | _ => cases h
  · cases k with
    | «until» a =>
      by_cases c : a ≤ n
      · exact step_stop s (if_pos c)
      · rw [show toldS (.until a) o n = some (n, o) from if_neg c] at e; cases e
    | _ => cases e
theorem told_al {k : Kd} {o o1 : Ow} {n v : Int} (e : toldS k o n = some (v, o1)) : o1.over = o.over := by
  cases k with
  | «until» a =>
    simp only [toldS] at e
    split at e
    · cases e
    · cases e; rfl
  | _ => cases e; rfl
theorem in_lets (k : Kd) : inV (.str k.name) [.str "drop", .str "keep", .str "unlike"] = k.lets := by
  cases k <;> (simp only [Kd.name, Kd.lets]; decide +kernel)
theorem thn_one {f : Nat} {o : Ow} {c e : Nd} {m m' : Mt} {r : Rs} {x' : Nd} (ho : o.over = false) (hl : o.left = 1) (h : draw f (.thn o c e) m = some (r, x', m')) : ∃ f0 e', f = f0 + 1 ∧ draw f0 e m = some (r, e', m') ∧ x' = .thn (o.fin r) c e' := by
  cases f with
  | zero => simp only [draw] at h; cases h
  | succ f =>
    rw [draw_thn, if_neg (by rw [ho]; decide), if_pos hl] at h
    cases hd : draw f e m with
    | none => rw [hd] at h; cases h
    | some q =>
      obtain ⟨r2, e', m2⟩ := q
      rw [hd] at h
      cases h
      exact ⟨f, e', rfl, hd, rfl⟩
def StepT2 (f0 : Nat) (o : Ow) (r : Rs) (x' : Nd) (m' : Mt) (e : Nd) (c' : Nd) (m1 : Mt) : Rs → Prop
  | .num n => r = .num n ∧ x' = .thn (o.fin (.num n)) c' e ∧ m' = m1
  | .fin => ∃ e', draw f0 e m1 = some (r, e', m') ∧ x' = .thn (Ow.fin { o with left := 1 } r) c' e'
  | .long => r = .long ∧ x' = .thn o c' e ∧ m' = m1
theorem thn_two {f : Nat} {o : Ow} {c e : Nd} {m m' : Mt} {r : Rs} {x' : Nd} (ho : o.over = false) (hl : o.left ≠ 1) (h : draw f (.thn o c e) m = some (r, x', m')) : ∃ f0 rc c' m1, f = f0 + 1 ∧ draw f0 c m = some (rc, c', m1) ∧ StepT2 f0 o r x' m' e c' m1 rc := by
  cases f with
  | zero => simp only [draw] at h; cases h
  | succ f =>
    rw [draw_thn, if_neg (by rw [ho]; decide), if_neg hl] at h
    cases hd : draw f c m with
    | none => rw [hd] at h; cases h
    | some q =>
      obtain ⟨rc, c', m1⟩ := q
      refine ⟨f, rc, c', m1, rfl, hd.symm ▸ rfl, ?_⟩
      rw [hd] at h
      cases rc with
      | num n => cases h; exact ⟨rfl, rfl, rfl⟩
      | fin =>
        dsimp only at h
        cases he : draw f e m1 with
        | none => rw [he] at h; cases h
        | some q2 =>
          obtain ⟨r2, e', m2⟩ := q2
          rw [he] at h
          cases h
          exact ⟨e', he, rfl⟩
      | long => cases h; exact ⟨rfl, rfl, rfl⟩
section
variable {P : Program} {w : World} {K : PySem.W.Frag} {mg : Str → Option Value} {base : Heap} {J : Cls'} {f f2 : Addr} {fd fd2 : FuncData}
theorem sc__law_by : FnScope ["_law_d", "_law_chain", "_law_at", "_law_name", "_law_own", "_law_stage", "_law_word", "_law_found"] ["_law_d", "_law_chain", "_law_at", "_law_name", "_law_own"] (defScope s__law_by) := ⟨rfl, rfl, rfl, by decide +kernel, rfl, by decide +kernel, by decide +kernel⟩
theorem ok_law_by {d : Nat} (T : Txt K mg) (F : FnP K "_law_by" "_law_by" s__law_by f fd) (G__law_draw : Cal P w K mg base CX0 (4 * d + 6) "_law_draw" ["_law_d", "_law_chain", "_law_at", "_law_name"] (spLDraw d)) (G__law_beside : Cal P w K mg base CX0 (4 * d + 7) "_law_beside" ["_law_d", "_law_chain", "_law_at", "_law_name"] (spBeside d))
    (G__law_lets_go : Cal P w K mg base CX0 1 "_law_lets_go" ["_law_stage", "_law_own", "_law_number"] spLets) (G__law_told : Cal P w K mg base CX0 (4 * d + 8) "_law_told" ["_law_d", "_law_chain", "_law_at", "_law_name", "_law_own", "_law_found"] (spTold d)) : FnOk P w K mg base CX0 (4 * d + 9) f fd ["_law_d", "_law_chain", "_law_at", "_law_name", "_law_own"] (spLBy (d + 1)) := by
  refine ok0 F sc__law_by (fun vs H Q E h => ?_) (fun cdv A outer s H vs Q E hr h => ?_)
  · obtain ⟨A, p, od, cF, st, bs, pre, post, own, preM, postM, x, m, f, r, x', m', rfl, _⟩ := h
    rfl
  · obtain ⟨A, p, od, cF, st, bs, pre, post, own, preM, postM, x, m, f, r, x', m', rfl, hd, G⟩ := h
    have hu := room1 hr
    have hu64 := hr.units
    refine ⟨_, (pss_cons (ps_set (i := 5) sc__law_by.nd rfl (Or.inl rfl) (pe_ix (ix_tupK K) (pe_ix (ix_tupK K) (pv 1) pe_int (fun _ _ => rfl)) (pe_op op_sub (pv 2) pe_int) (fun _ _ => rfl)))
  (pss_cons (ps_set (i := 6) sc__law_by.nd rfl (Or.inl rfl) (pe_ix (ix_tupK K) (pv 5) pe_int (fun _ _ => rfl)))
  (Evl.pss_cut (ps_if (PW.pt (pw_and (pt_cmpR op_eq (pv 6) pe_str (nomark _)) (pw_and1 (pt_cmpR op_eq (pe_dget hu (pv 4) pe_str (fun _ _ => rfl)) (pe_ix (ix_tupK K) (pv 5) pe_int (fun _ _ => rfl)) (nomark _)))))
    (pss_one (ps_ret pe_str)) pss_nil)
  (Evl.pss_cut (ps_if (PW.pt (pw_and (pt_cmpR op_eq (pv 6) pe_str (nomark _)) (pw_and1 (pt_cmpR op_gt (pe_dget hu (pv 4) pe_str (fun _ _ => rfl)) pe_int (nomark _)))))
    (pss_cons (ps_dput hu (pv 4) pe_str (pe_op op_sub (pe_dget hu (pv 4) pe_str (fun _ _ => rfl)) pe_int) rfl)
    (pss_one (ps_ret (pe_lst (pa_cons (pe_dget hu (pv 4) pe_str (fun _ _ => rfl)) pa_nil))))) pss_nil)
  (pss_cons (ps_if (PW.pt (pw_and (pt_cmpR op_eq (pv 6) pe_str (nomark _)) (pw_and1 (pt_cmpR op_eq (pe_dget hu (pv 4) pe_str (fun _ _ => rfl)) pe_int (nomark _)))))
    (pss_one (ps_ret (pe_cal G__law_beside (hr.mono (by omega)) pass0 (pa_cons (pv 0) (pa_cons (pv 1) (pa_cons (pv 2) (pa_cons (pv 3) pa_nil))))))) pss_nil)
  (pss_cons (ps_set (i := 7) sc__law_by.nd rfl (Or.inl rfl) (pe_cal G__law_draw (hr.mono (by omega)) pass0 (pa_cons (pv 0) (pa_cons (pv 1) (pa_cons (pe_op op_sub (pv 2) pe_int) (pa_cons (pv 3) pa_nil))))))
  (Evl.pss_cut (ps_while PassesOwn.never (PW.pt (pw_and (pt_val (pe_callB (call_isiK1 K) (by rfl) T.free_isinstance (by decide +kernel) (pa_cons (pv 7) (pa_cons (pe_bltn (v := .ty "list") (u := .type "list") (by rfl) T.free_list (by decide +kernel) rfl) pa_nil)))) (pw_and (pt_cmpR (op_in_seqK K) (pv 6) (pe_tup (pa_cons pe_str (pa_cons pe_str (pa_cons pe_str pa_nil)))) (by rfl)) (pw_and1 (pt_val (pe_cal G__law_lets_go (hr.mono (by omega)) pass0 (pa_cons (pv 5) (pa_cons (pv 4) (pa_cons (pe_ix (ix_listK K) (pv 7) pe_int (fun _ _ => rfl)) pa_nil)))))))))
    (pss_one (ps_set (i := 7) sc__law_by.nd rfl (Or.inl rfl) (pe_cal G__law_draw (hr.mono (by omega)) pass0 (pa_cons (pv 0) (pa_cons (pv 1) (pa_cons (pe_op op_sub (pv 2) pe_int) (pa_cons (pv 3) pa_nil))))))))
  (pss_cons (ps_if (PW.pt (pw_and (pt_cmpR op_eq (pv 6) pe_str (nomark _)) (pw_and1 (pt_cmpR (op_eqDK K hu64) (pv 7) pe_str (nomark _)))))
    (pss_cons (ps_dput hu (pv 4) pe_str pe_int rfl)
    (pss_one (ps_ret (pe_cal G__law_beside (hr.mono (by omega)) pass0 (pa_cons (pv 0) (pa_cons (pv 1) (pa_cons (pv 2) (pa_cons (pv 3) pa_nil)))))))) pss_nil)
  (pss_one (ps_ret (pe_ifExp (pt_val (pe_callB (call_isiK1 K) (by rfl) T.free_isinstance (by decide +kernel) (pa_cons (pv 7) (pa_cons (pe_bltn (v := .ty "list") (u := .type "list") (by rfl) T.free_list (by decide +kernel) rfl) pa_nil)))) (pe_cal G__law_told (hr.mono (by omega)) pass0 (pa_cons (pv 0) (pa_cons (pv 1) (pa_cons (pv 2) (pa_cons (pv 3) (pa_cons (pv 4) (pa_cons (pv 7) pa_nil))))))) (pv 7)))))))))))), ?_⟩
    try dsimp only [cxOf, Cx.nox, Cx.wish]
    refine rd_at (σ' := [some (.ref A.ld), some (.ref p), some (.int (x.len : Nat)), some (.int (pre.length : Nat)), some (.ref od)] ++ List.replicate (["_law_d", "_law_chain", "_law_at", "_law_name", "_law_own", "_law_stage", "_law_word", "_law_found"].length - 5) none) rfl ?_
    have M0 := G.mid
    have hy := M0.ps
    have kl := kid_len hy
    have px := kid_px hy M0.px M0.pl
    obtain ⟨mk, ss, as, ep, ess, hst⟩ := id M0.ch
    have hget := hst.get
    obtain ⟨sx, hsx⟩ : ∃ sx, as[x.kid.len]? = some sx := ⟨_, List.getElem?_eq_getElem (by rw [hget.1]; exact (List.getElem?_eq_some_iff.mp px.2).1)⟩
    obtain ⟨g', hgi, es⟩ := hget.2 _ sx hsx
    rw [px.2] at hgi
    obtain rfl : x.sg = g' := Option.some.inj hgi
    have ev : (as.map V.ref)[x.kid.len]? = some (.ref sx) := by rw [List.getElem?_map, hsx]; rfl
    have e0 : ((x.len : Nat) : Int) - 1 = ((x.kid.len : Nat) : Int) := by rw [kl]; omega
    walk_at "go"
    rw [e0]
    refine rd_ixT (SqT.of ess) (atI_nat ev) ?_
    walk_at "go"
    cases x with
    | mkr k g => exact absurd hy (Nat.not_succ_le_zero _)
    | st k o c =>
      have es : H sx = some (.tup k.vals) := es
      have oh : H od = some (.dK o.kvs) := M0.oh
      have ov : o.over = false := G.ov
      refine rd_ixT (SqT.of es) k.at0 ?_
      walk_at "go"
      refine ⟨fun σ' H' => σ' = [some (.ref A.ld), some (.ref p), some (.int ((Nd.st k o c).len : Nat)), some (.int (pre.length : Nat)), some (.ref od), some (.ref sx), some (.str k.name), none] ∧ H' = H ∧ ∀ j, k = .take j → ¬ (o.told : Int) = j, ?_, ?_⟩
      · walk_at "go"
        refine rd_dec (fun cn => ?_) (fun cn => ?_)
        · obtain ⟨j, rfl⟩ : ∃ j, k = .take j := by
            cases k with
            | take j => exact ⟨j, rfl⟩
            | _ => simp only [Kd.name] at cn; exact absurd cn (by decide)
          simp only [Kd.vals] at es
          walk_at "go"
          refine rd_gk rfl oh rfl ?_
          walk_at "go"
          refine rd_dec (fun ct => ?_) (fun ct => ?_)
          · have ha : ahead (.take j) o = some (.fin, o) := if_pos (V.int.inj ct)
            obtain ⟨rfl, rfl, rfl⟩ := st_ahead ov ha hd
            walk_at "go"
            exact G.done (o1 := o) M0 rfl (fun q z => by cases z) rfl
          · walk_at "go"
            exact ⟨rfl, rfl, fun j' e q => ct (by cases e; rw [q])⟩
        · walk_at "go"
          exact ⟨rfl, rfl, fun j e q => cn (by rw [e]; rfl)⟩
      · rintro σ' H' ⟨rfl, rfl, htk⟩
        refine ⟨fun σ' H'' => σ' = [some (.ref A.ld), some (.ref p), some (.int ((Nd.st k o c).len : Nat)), some (.int (pre.length : Nat)), some (.ref od), some (.ref sx), some (.str k.name), none] ∧ H'' = H' ∧ ahead k o = none, ?_, ?_⟩
        · walk_at "go"
          refine rd_dec (fun cn => ?_) (fun cn => ?_)
          · obtain ⟨j, rfl⟩ : ∃ j, k = .each j := by
              cases k with
              | each j => exact ⟨j, rfl⟩
              | _ => simp only [Kd.name] at cn; exact absurd cn (by decide)
            obtain ⟨i1, i2, i3⟩ := G.inv.2.1
            walk_at "go"
            refine rd_gk rfl oh rfl ?_
            walk_at "go"
            refine rd_dec (fun ct => ?_) (fun ct => ?_)
            · have ha : ahead (.each j) o = some (.num (o.last.getD 0), { o with left := o.left - 1 }) := if_pos ct
              obtain ⟨rfl, rfl, rfl⟩ := st_ahead ov ha hd
              walk_at "go"
              refine rd_dp ?_
              walk_at "go"
              refine rd_gk rfl oh rfl ?_
              walk_at "go"
              refine rd_dpk oh (by show 4 < sizeLine; decide) ?_
              have e3 : putK o.kvs (.inr "left" : L2.Key) (.int (o.left - 1)) = Ow.kvs { o with left := o.left - 1 } := rfl
              rw [e3]
              have M1 := M0.setTop (fl' := true) (o := { o with left := o.left - 1 }) (Fr.put (S := [od]) (by simp) (nt oh)) upd_same (fun _ => rfl) (fun _ => ⟨G.inv.1, ⟨by show 0 ≤ o.left - 1; omega, by show o.left - 1 < j; omega, fun _ => i3 ct⟩, G.inv.2.2⟩) (Nat.le_refl _)
              have oh1 := M1.oh
              dsimp only
              generalize upd H' od (.dK (Ow.kvs { o with left := o.left - 1 })) = H1 at *
              have hl := i3 ct
              cases hlast : o.last with
              | none => rw [hlast] at hl; cases hl
              | some n =>
                walk_at "go"
                refine rd_gk (v := .int n) rfl oh1 (by show some (optV o.last) = _; rw [hlast]; rfl) ?_
                walk_at "go"
                refine ⟨by show 1 ≤ sizeLine; decide, fun q hq => ?_⟩
                have M2 := M1.fresh (o := .lst [.int n]) hq
                refine G.done (o1 := { o with left := o.left - 1 }) M2 ?_ (fun q' z => by cases z; exact ⟨(ne_of_none M1.la.lg hq).symm, (ne_of_none M1.la.ll hq).symm⟩) rfl
                rw [hlast]
                exact ⟨q, rfl, upd_same⟩
            · walk_at "go"
              exact ⟨rfl, rfl, if_neg ct⟩
          · walk_at "go"
            refine ⟨rfl, rfl, ?_⟩
            cases k with
            | take j => exact if_neg (htk j rfl)
            | each j => exact absurd rfl cn
            | _ => rfl
        · rintro σ' H'' ⟨rfl, rfl, ha⟩
          walk_at "go"
          refine rd_F (by cases k <;> (simp only [Kd.name]; decide)) ?_
          walk_at "go"
          obtain ⟨f0, rc, c', m1, rfl, hc, st1⟩ := st_step ov ha hd
          refine ⟨A, p, cF, st, bs, pre, (Nd.st k o c).sgv ++ post, own, preM, (Nd.st k o c).smk ++ postM, (Nd.st k o c).kid, m, f0, rc, c', m1, by rw [e0]; rfl, hc, M0.ask hc (fun z => ⟨G.inv.1, G.inv.2.1, z⟩) (fun H1 v own1 an nl M1 => ?_)⟩
          replace M1 : LMid true (d + 1) A p od cF st bs pre post preM postM (.st k o c) H'' own (.st k o c') m1 own1 H1 := M1
          walk_at "go"
          refine ⟨fun σ' H' => ∃ v o2 c2 m2 own2 rc2, σ' = [some (.ref A.ld), some (.ref p), some (.int ((Nd.st k o c).len : Nat)), some (.int (pre.length : Nat)), some (.ref od), some (.ref sx), some (.str k.name), some v] ∧ Rs.an rc2 H' v ∧ (∀ q, v = .ref q → q ≠ A.lg ∧ q ≠ A.ll) ∧
            LMid true (d + 1) A p od cF st bs pre post preM postM (.st k o c) H'' own (.st k o2 c2) m2 own2 H' ∧ o2.over = false ∧ PostR k r x' m' o2 c2 m2 rc2, ?_, ?_⟩
          · refine ⟨fun fu σ' H' => ∃ v o2 c2 m2 own2 rc2, σ' = [some (.ref A.ld), some (.ref p), some (.int ((Nd.st k o c).len : Nat)), some (.int (pre.length : Nat)), some (.ref od), some (.ref sx), some (.str k.name), some v] ∧ Rs.an rc2 H' v ∧ (∀ q, v = .ref q → q ≠ A.lg ∧ q ≠ A.ll) ∧
              LMid true (d + 1) A p od cF st bs pre post preM postM (.st k o c) H'' own (.st k o2 c2) m2 own2 H' ∧ o2.over = false ∧ Step fu k o2 r x' m' c2 m2 rc2, ⟨f0, v, o, c', m1, own1, rc, rfl, an, nl, M1, ov, st1⟩, ?_⟩
            clear M1 an st1 hc
            rintro fu σ' H' ⟨v, o2, c2, m2, own2, rc2, rfl, an, nl, M2, ov2, st2⟩
            walk_at "go"
            refine an_isList an ?_
            walk_at "go"
            cases rc2 with
            | fin =>
              refine iteF ?_
              walk_at "go"
              exact ⟨v, o2, c2, m2, own2, .fin, rfl, an, nl, M2, ov2, st2⟩
            | long =>
              refine iteF ?_
              walk_at "go"
              exact ⟨v, o2, c2, m2, own2, .long, rfl, an, nl, M2, ov2, st2⟩
            | num n =>
              obtain ⟨fq, rfl, efq⟩ := an
              refine iteT ?_
              walk_at "go"
              refine ⟨by show 3 ≤ sizeLine; decide, fun tp htp => ?_⟩
              refine ⟨tp, _, rfl, .inr (SqT.of upd_same), rfl, rfl, ?_⟩
              rw [if_neg (by decide), in_lets]
              replace M2 := M2.fresh (o := .tup [.str "drop", .str "keep", .str "unlike"]) htp
              replace efq := upd_keep (u := .tup [.str "drop", .str "keep", .str "unlike"]) efq htp
              show ∃ k, _
              generalize upd H' tp (.tup [.str "drop", .str "keep", .str "unlike"]) = H2 at *
              have es2 := M2.fr.tp es
              have oh2 : H2 od = some (.dK o2.kvs) := M2.oh
              have nq : fq ≠ od := ne_of efq oh2 (by intro z; cases z)
              walk_at "go"
              refine rd_b (fun hl => ?_) (fun hl => ?_)
              · walk_at "go"
                refine ⟨sx, od, k, o2, n, rfl, es2, oh2, G.inv.1, hl, (M2.inv rfl).2.1, fun H3 b o3 e3 f3 hp => ?_⟩
                walk_at "go"
                rcases hp with ⟨rfl, hp⟩ | ⟨rfl, hp⟩
                · have ov3 : o3.over = false := (pass_over.1 _ hp).trans ov2
                  have ag := step_again st2 hp
                  obtain ⟨f3', rc3, c3, m3, rfl, hc3, st3⟩ := st_step ov3 (lets_ahead hl o3) ag
                  have M3 := M2.setTop (fl' := true) (o := o3) f3 e3 (fun _ => rfl) (fun _ => ⟨G.inv.1, lets_inv hl (M2.inv rfl).2.1 (.inl hp), (M2.inv rfl).2.2⟩) (Nat.le_of_eq (al_same (pass_over.1 _ hp)))
                  replace M3 : LMid true (d + 1) A p od cF st bs pre post preM postM (.st k o c) H'' own (.st k o3 c2) m2 own2 H3 := M3
                  refine iteT ?_
                  refine ⟨_, fun σ' H' z => ⟨f3', Nat.lt_succ_self _, z⟩, ?_⟩
                  walk_at "go"
                  have l2 : (Nd.st k o c).len - 1 = c2.len := by have := M2.l0; have e : (Nd.st k o2 c2).len = c2.len + 1 := rfl; omega
                  have l3 : (((Nd.st k o c).len : Nat) : Int) - 1 = ((c2.len : Nat) : Int) := by have := M2.l0; have e : (Nd.st k o2 c2).len = c2.len + 1 := rfl; omega
                  refine ⟨A, p, cF, st, bs, pre, (Nd.st k o3 c2).sgv ++ post, own2, preM, (Nd.st k o3 c2).smk ++ postM, (Nd.st k o3 c2).kid, m2, f3', rc3, c3, m3, by rw [l3]; rfl, hc3, M3.ask hc3 (fun z => ⟨G.inv.1, (M3.inv rfl).2.1, z⟩) (fun H4 v4 own4 an4 nl4 M4 => ?_)⟩
                  walk_at "go"
                  exact ⟨v4, o3, c3, m3, own4, rc3, rfl, an4, nl4, M4, ov3, st3⟩
                · have ov3 : o3.over = false := (pass_over.2 _ _ hp).trans ov2
                  have M3 := M2.setTop (fl' := true) (o := o3) f3 e3 (fun _ => rfl) (fun _ => ⟨G.inv.1, lets_inv hl (M2.inv rfl).2.1 (.inr hp), (M2.inv rfl).2.2⟩) (Nat.le_of_eq (al_same (pass_over.2 _ _ hp)))
                  refine iteF ?_
                  refine ⟨.ref fq, o3, c2, m2, own2, .num n, rfl, ⟨fq, rfl, f3.at efq (by simpa using nq)⟩, nl, M3, ov3, ⟨fun v o1 e => ?_, fun e => ?_⟩⟩
                  · rw [lets_told hl] at e
                    cases e
                    exact step_tell st2 hp
                  · rw [lets_told hl] at e
                    cases e
              · walk_at "go"
                exact ⟨.ref fq, o2, c2, m2, own2, .num n, rfl, ⟨fq, rfl, efq⟩, nl, M2, ov2, told_step hl st2⟩
          · rintro σ' H3 ⟨v, o2, c2, m2, own2, rc2, rfl, an, nl, M2, ov2, pr⟩
            walk_at "go"
            refine rd_F (by cases k <;> (simp only [Kd.name]; decide)) ?_
            walk_at "go"
            refine an_isList an ?_
            walk_at "go"
            cases rc2 with
            | fin =>
              obtain ⟨rfl, rfl, rfl⟩ := pr
              refine iteF ?_
              walk_at "go"
              exact G.done (o1 := o2) M2 an nl rfl
            | long =>
              obtain ⟨rfl, rfl, rfl⟩ := pr
              refine iteF ?_
              walk_at "go"
              exact G.done (o1 := o2) M2 an nl rfl
            | num n =>
              obtain ⟨fq, rfl, efq⟩ := an
              refine iteT ?_
              walk_at "go"
              refine ⟨A, p, od, fq, c.len, _, n, rfl, .inl ⟨st, m2, bs, _, own2, _, cF, ⟨M2.la, M2.sep, M2.ch, efq, by have := M2.al rfl; omega, .inl ⟨k, o2, px.2, G.inv.1, M2.oh, fun v1 o1 e H4 q eq4 nq4 e4 f4 => ?_, fun e H4 la4 f4 => ?_⟩⟩⟩⟩
              · obtain ⟨rfl, rfl, rfl⟩ := pr.1 v1 o1 e
                have M4 := M2.setTop (fl' := false) (o := o1) f4 e4 (fun z => by cases z) (fun z => by cases z) (Nat.le_of_eq (al_same (told_al e)))
                exact G.done (o1 := o1) M4 ⟨q, rfl, eq4⟩ (fun q' z => by cases z; exact nq4) rfl
              · obtain ⟨rfl, rfl, rfl⟩ := pr.2 e
                exact G.done (o1 := o2) (M2.setLost la4 f4) rfl (fun q z => by cases z) rfl
    | both o c e =>
      obtain ⟨pi, es, hpi⟩ := es
      have oh : H od = some (.dK o.kvs) := M0.oh
      have ov : o.over = false := G.ov
      refine rd_ixT (SqT.of es) rfl ?_
      walk_at "go"
      refine ⟨fun σ' H' => σ' = [some (.ref A.ld), some (.ref p), some (.int ((Nd.both o c e).len : Nat)), some (.int (pre.length : Nat)), some (.ref od), some (.ref sx), some (.str "both"), none] ∧ H' = H, ?_, ?_⟩
      · walk_at "go"
        refine rd_F (by decide) ?_
        walk_at "go"
        exact ⟨rfl, rfl⟩
      · rintro σ' H' ⟨rfl, rfl⟩
        refine ⟨fun σ' H'' => σ' = [some (.ref A.ld), some (.ref p), some (.int ((Nd.both o c e).len : Nat)), some (.int (pre.length : Nat)), some (.ref od), some (.ref sx), some (.str "both"), none] ∧ H'' = H', ?_, ?_⟩
        · walk_at "go"
          refine rd_F (by decide) ?_
          walk_at "go"
          exact ⟨rfl, rfl⟩
        · rintro σ' H'' ⟨rfl, rfl⟩
          walk_at "go"
          refine rd_F (by decide) ?_
          walk_at "go"
          obtain ⟨f0, rc, c', m1, rfl, hc, st1⟩ := both_step ov hd
          refine ⟨A, p, cF, st, bs, pre, (Nd.both o c e).sgv ++ post, own, preM, (Nd.both o c e).smk ++ postM, (Nd.both o c e).kid, m, f0, rc, c', m1, by rw [e0]; rfl, hc, M0.ask hc (fun z => ⟨z, G.inv.2⟩) (fun H1 v own1 an nl M1 => ?_)⟩
          replace M1 : LMid true (d + 1) A p od cF st bs pre post preM postM (.both o c e) H'' own (.both o c' e) m1 own1 H1 := M1
          walk_at "go"
          refine ⟨fun σ' H' => ∃ v, σ' = [some (.ref A.ld), some (.ref p), some (.int ((Nd.both o c e).len : Nat)), some (.int (pre.length : Nat)), some (.ref od), some (.ref sx), some (.str "both"), some v] ∧ Rs.an rc H' v ∧ (∀ q, v = .ref q → q ≠ A.lg ∧ q ≠ A.ll) ∧
            LMid true (d + 1) A p od cF st bs pre post preM postM (.both o c e) H'' own (.both o c' e) m1 own1 H', ?_, ?_⟩
          · refine ⟨fun _ σ' H' => ∃ v, σ' = [some (.ref A.ld), some (.ref p), some (.int ((Nd.both o c e).len : Nat)), some (.int (pre.length : Nat)), some (.ref od), some (.ref sx), some (.str "both"), some v] ∧ Rs.an rc H' v ∧ (∀ q, v = .ref q → q ≠ A.lg ∧ q ≠ A.ll) ∧
              LMid true (d + 1) A p od cF st bs pre post preM postM (.both o c e) H'' own (.both o c' e) m1 own1 H', ⟨0, v, rfl, an, nl, M1⟩, ?_⟩
            clear M1 an nl v
            rintro fu σ' H' ⟨v, rfl, an, nl, M2⟩
            walk_at "go"
            refine an_isList an ?_
            walk_at "go"
            refine rd_b (fun _ => ?_) (fun _ => ?_)
            · walk_at "go"
              refine ⟨by show 3 ≤ sizeLine; decide, fun tp htp => ?_⟩
              refine ⟨tp, _, rfl, .inr (SqT.of upd_same), rfl, rfl, ?_⟩
              rw [if_neg (by decide), show inV (.str "both") [.str "drop", .str "keep", .str "unlike"] = false by decide +kernel]
              replace M2 := M2.fresh (o := .tup [.str "drop", .str "keep", .str "unlike"]) htp
              have an2 : rc.an (upd H' tp (.tup [.str "drop", .str "keep", .str "unlike"])) v := by
                cases rc with
                | num n => obtain ⟨q, e1, e2⟩ := an; exact ⟨q, e1, upd_keep e2 htp⟩
                | fin => exact an
                | long => exact an
              show ∃ k, _
              generalize upd H' tp (.tup [.str "drop", .str "keep", .str "unlike"]) = H2 at *
              walk_at "go"
              exact ⟨v, rfl, an2, nl, M2⟩
            · walk_at "go"
              exact ⟨v, rfl, an, nl, M2⟩
          · rintro σ' H3 ⟨v, rfl, an, nl, M2⟩
            walk_at "go"
            refine rd_F (by decide) ?_
            walk_at "go"
            refine an_isList an ?_
            walk_at "go"
            cases rc with
            | fin =>
              obtain ⟨rfl, rfl, rfl⟩ := st1
              refine iteF ?_
              walk_at "go"
              exact G.done (o1 := o) M2 an nl rfl
            | long =>
              obtain ⟨rfl, rfl, rfl⟩ := st1
              refine iteF ?_
              walk_at "go"
              exact G.done (o1 := o) M2 an nl rfl
            | num n =>
              obtain ⟨r2, e', m2, he, st2⟩ := st1
              obtain ⟨fq, rfl, efq⟩ := an
              refine iteT ?_
              walk_at "go"
              have px2 := kid_px M2.ps M2.px M2.pl
              have lc : c.len = c'.len := by have := M2.l0; have e1 : (Nd.both o c' e).len = c'.len + 1 := rfl; have e2 : (Nd.both o c e).len = c.len + 1 := rfl; omega
              refine ⟨A, p, od, fq, c.len, _, n, rfl, .inr ⟨st, m1, bs, _, own1, _, cF, e.ch, M2.la, M2.sep, M2.ch, efq, px.2, fun H4 f4 => ?_⟩⟩
              have nm2 : (c'.gv ++ e.gv).length ≤ 4 := M2.nm
              rw [List.length_append] at nm2
              refine ⟨A, p, cF, st, bs, pre, post, own1, preM, postM, c', e, .both e.ch, m1, f0, r2, e', m2, by rw [lc], he, M2.ch.fr f4, px2.1, px2.2, .inl rfl, by omega, fun H5 pi5 f5 hp5 => M2.ask_both he (f4.tr f5) hp5 (fun H6 v6 own6 an6 nl6 M6 f6 => ?_)⟩
              have nfq := nl fq rfl
              have efq6 : H6 fq = some (.lst [.int n]) := f6.at ((f4.tr f5).at efq (by simp)) (by
                simp only [List.mem_cons, not_or]
                refine ⟨ne_of efq M2.la.ob (by intro z; cases z), nfq.1, nfq.2, ne_of efq M2.la.lo (by intro z; cases z), fun z => ?_⟩
                obtain ⟨o', q⟩ := M2.ok.ods z
                rw [efq] at q
                cases q)
              refine ⟨r2, an6, efq6, fun b hb H7 q eq7 nq f7 => ?_, fun hb => ?_, fun hb => ?_⟩
              · subst hb
                obtain ⟨rfl, rfl, rfl⟩ := st2
                exact G.done (o1 := o) (M6.fr0 f7) ⟨q, rfl, eq7⟩ (fun q' z => by cases z; exact ⟨nq _ (by rw [M6.la.lg]; intro z; cases z), nq _ (by rw [M6.la.ll]; intro z; cases z)⟩) rfl
              · subst hb
                obtain ⟨rfl, rfl, rfl⟩ := st2
                have emk : (Nd.both o c' e').mks = (Nd.both o c' e).mks := by show c'.mks ++ e'.mks = _; rw [(draw_shp _ _ _ _ _ _ he).mks]; rfl
                have la6 := M6.la
                rw [emk] at la6
                refine ⟨m2, _, own6, la6, by have := M6.al rfl; omega, fun H7 la7 f7 => ?_⟩
                rw [← emk] at la7
                exact G.done (o1 := o) (M6.setLost la7 f7) rfl (fun q z => by cases z) rfl
              · subst hb
                obtain ⟨rfl, rfl, rfl⟩ := st2
                exact G.done (o1 := o) M6 rfl (fun q z => by cases z) rfl
    | thn o c e =>
      obtain ⟨pi, es, hpi⟩ := es
      have oh : H od = some (.dK o.kvs) := M0.oh
      have ov : o.over = false := G.ov
      refine rd_ixT (SqT.of es) rfl ?_
      walk_at "go"
      refine ⟨fun σ' H' => σ' = [some (.ref A.ld), some (.ref p), some (.int ((Nd.thn o c e).len : Nat)), some (.int (pre.length : Nat)), some (.ref od), some (.ref sx), some (.str "then"), none] ∧ H' = H, ?_, ?_⟩
      · walk_at "go"
        refine rd_F (by decide) ?_
        walk_at "go"
        exact ⟨rfl, rfl⟩
      · rintro σ' H' ⟨rfl, rfl⟩
        refine ⟨fun σ' H'' => σ' = [some (.ref A.ld), some (.ref p), some (.int ((Nd.thn o c e).len : Nat)), some (.int (pre.length : Nat)), some (.ref od), some (.ref sx), some (.str "then"), none] ∧ H'' = H', ?_, ?_⟩
        · walk_at "go"
          refine rd_F (by decide) ?_
          walk_at "go"
          exact ⟨rfl, rfl⟩
        · rintro σ' H'' ⟨rfl, rfl⟩
          have hnm : (c.gv ++ e.gv).length ≤ 4 := M0.nm
          rw [List.length_append] at hnm
          walk_at "go"
          refine rd_T rfl ?_
          walk_at "go"
          refine rd_gk rfl oh rfl ?_
          walk_at "go"
          refine rd_dec (fun c1 => ?_) (fun c1 => ?_)
          · obtain ⟨f0, e', rfl, he, rfl⟩ := thn_one ov (V.int.inj c1) hd
            walk_at "go"
            exact ⟨A, p, cF, st, bs, pre, post, own, preM, postM, c, e, .thn e.ch, m, f0, r, e', m', rfl, he, M0.ch, px.1, px.2, .inr rfl, by omega, fun H5 pi5 f5 hp5 => M0.ask_thn he f5 hp5 (fun H6 v6 own6 an6 nl6 M6 f6 => G.done (o1 := o) M6 an6 nl6 rfl)⟩
          · obtain ⟨f0, rc, c', m1, rfl, hc, st1⟩ := thn_two ov (fun z => c1 (by rw [z])) hd
            have l0 : o.left = 0 := by
              rcases G.inv.1 with z | ⟨z, _⟩
              · exact z
              · exact absurd (by rw [z]) c1
            have Fc := draw_facts _ _ _ _ _ _ hc G.inv.2.1 G.bk
            walk_at "go"
            refine ⟨A, p, cF, st, bs, pre, (Nd.thn o c e).sgv ++ post, own, preM, (Nd.thn o c e).smk ++ postM, (Nd.thn o c e).kid, m, f0, rc, c', m1, by rw [e0]; rfl, hc, M0.ask hc (fun z => ⟨.inl l0, z, G.inv.2.2⟩) (fun H1 v own1 an nl M1 => ?_)⟩
            replace M1 : LMid true (d + 1) A p od cF st bs pre post preM postM (.thn o c e) H'' own (.thn o c' e) m1 own1 H1 := M1
            walk_at "go"
            refine ⟨fun σ' H' => ∃ v, σ' = [some (.ref A.ld), some (.ref p), some (.int ((Nd.thn o c e).len : Nat)), some (.int (pre.length : Nat)), some (.ref od), some (.ref sx), some (.str "then"), some v] ∧ Rs.an rc H' v ∧ (∀ q, v = .ref q → q ≠ A.lg ∧ q ≠ A.ll) ∧
              LMid true (d + 1) A p od cF st bs pre post preM postM (.thn o c e) H'' own (.thn o c' e) m1 own1 H', ?_, ?_⟩
            · refine ⟨fun _ σ' H' => ∃ v, σ' = [some (.ref A.ld), some (.ref p), some (.int ((Nd.thn o c e).len : Nat)), some (.int (pre.length : Nat)), some (.ref od), some (.ref sx), some (.str "then"), some v] ∧ Rs.an rc H' v ∧ (∀ q, v = .ref q → q ≠ A.lg ∧ q ≠ A.ll) ∧
                LMid true (d + 1) A p od cF st bs pre post preM postM (.thn o c e) H'' own (.thn o c' e) m1 own1 H', ⟨0, v, rfl, an, nl, M1⟩, ?_⟩
              clear M1 an nl v
              rintro fu σ' H' ⟨v, rfl, an, nl, M2⟩
              walk_at "go"
              refine an_isList an ?_
              walk_at "go"
              refine rd_b (fun _ => ?_) (fun _ => ?_)
              · walk_at "go"
                refine ⟨by show 3 ≤ sizeLine; decide, fun tp htp => ?_⟩
                refine ⟨tp, _, rfl, .inr (SqT.of upd_same), rfl, rfl, ?_⟩
                rw [if_neg (by decide), show inV (.str "then") [.str "drop", .str "keep", .str "unlike"] = false by decide +kernel]
                replace M2 := M2.fresh (o := .tup [.str "drop", .str "keep", .str "unlike"]) htp
                have an2 : rc.an (upd H' tp (.tup [.str "drop", .str "keep", .str "unlike"])) v := by
                  cases rc with
                  | num n => obtain ⟨q, e1, e2⟩ := an; exact ⟨q, e1, upd_keep e2 htp⟩
                  | fin => exact an
                  | long => exact an
                show ∃ k, _
                generalize upd H' tp (.tup [.str "drop", .str "keep", .str "unlike"]) = H2 at *
                walk_at "go"
                exact ⟨v, rfl, an2, nl, M2⟩
              · walk_at "go"
                exact ⟨v, rfl, an, nl, M2⟩
            · rintro σ' H3 ⟨v, rfl, an, nl, M2⟩
              have oh2 : H3 od = some (.dK o.kvs) := M2.oh
              have px2 := kid_px M2.ps M2.px M2.pl
              have lc : c.len = c'.len := by have := M2.l0; have e1 : (Nd.thn o c' e).len = c'.len + 1 := rfl; have e2 : (Nd.thn o c e).len = c.len + 1 := rfl; omega
              have nm2 : (c'.gv ++ e.gv).length ≤ 4 := M2.nm
              rw [List.length_append] at nm2
              walk_at "go"
              refine rd_T rfl ?_
              walk_at "go"
              refine an_eqEnd an ?_
              walk_at "go"
              cases rc with
              | fin =>
                obtain ⟨e', he, rfl⟩ := st1
                refine iteT ?_
                walk_at "go"
                refine rd_dp ?_
                walk_at "go"
                refine rd_dpk oh2 (by show 4 < sizeLine; decide) ?_
                have e3 : putK o.kvs (.inr "left" : L2.Key) (.int 1) = Ow.kvs { o with left := 1 } := rfl
                rw [e3]
                have M3 := M2.setTop (fl' := true) (o := { o with left := 1 }) (Fr.put (S := [od]) (by simp) (nt oh2)) upd_same (fun _ => rfl) (fun _ => ⟨.inr ⟨rfl, Fc.en rfl⟩, Fc.inv, G.inv.2.2⟩) (Nat.le_refl _)
                replace M3 : LMid true (d + 1) A p od cF st bs pre post preM postM (.thn o c e) H'' own (.thn { o with left := 1 } c' e) m1 own1 (upd H3 od (.dK (Ow.kvs { o with left := 1 }))) := M3
                dsimp only
                generalize upd H3 od (.dK (Ow.kvs { o with left := 1 })) = H4 at *
                walk_at "go"
                exact ⟨A, p, cF, st, bs, pre, post, own1, preM, postM, c', e, .thn e.ch, m1, f0, r, e', m', by show [V.ref A.ld, V.ref p, V.int ((c.len + 1 : Nat) : Int), V.int (pre.length : Nat)] = _; rw [lc], he, M3.ch, px2.1, px2.2, .inr rfl, by omega, fun H5 pi5 f5 hp5 => M3.ask_thn he f5 hp5 (fun H6 v6 own6 an6 nl6 M6 f6 => G.done (o1 := { o with left := 1 }) M6 an6 nl6 rfl)⟩
              | long =>
                obtain ⟨rfl, rfl, rfl⟩ := st1
                refine iteF ?_
                walk_at "go"
                refine an_isList an ?_
                walk_at "go"
                refine iteF ?_
                walk_at "go"
                exact G.done (o1 := o) M2 an nl rfl
              | num n =>
                obtain ⟨rfl, rfl, rfl⟩ := st1
                obtain ⟨fq, rfl, efq⟩ := an
                refine iteF ?_
                walk_at "go"
                refine an_isList (r := .num n) ⟨fq, rfl, efq⟩ ?_
                walk_at "go"
                refine iteT ?_
                walk_at "go"
                refine ⟨A, p, od, fq, c.len, _, n, rfl, .inl ⟨st, _, bs, _, own1, _, cF, ⟨M2.la, M2.sep, M2.ch, efq, by have := M2.al rfl; omega, .inr ⟨e.ch, px.2, fun H4 q eq4 nq4 f4 => ?_⟩⟩⟩⟩
                exact G.done (o1 := o) (M2.fr0 f4) ⟨q, rfl, eq4⟩ (fun q' z => by cases z; exact nq4) rfl
end
end Dc

set_option Elab.async false
set_option linter.all false
set_option maxRecDepth 100000
set_option maxHeartbeats 2000000
namespace Dc
open PySem PySem.Spec PyProof.Rows L2
local macro_rules | `(tactic| walk_at "ne") => `(tactic| first | assumption | (refine Ne.symm ?_; assumption) | exact ne_of (by assumption) (by assumption) (by intro q; cases q) | exact ne_of_none (by assumption) (by assumption) | exact Ne.symm (ne_of_none (by assumption) (by assumption)))
local macro_rules | `(tactic| walk_at "hp") => `(tactic| first | assumption | exact upd_same | (refine upd_keep ?_ (by assumption); walk_at "hp") | (refine upd_other ?_ ?_; · walk_at "ne"; · walk_at "hp"))
local macro_rules | `(tactic| walk_at "hl") => `(tactic| first | assumption | exact SqL.of (by walk_at "hp"))
local macro_rules | `(tactic| walk_at "ht") => `(tactic| first | assumption | exact SqT.of (by walk_at "hp"))
local macro_rules | `(tactic| walk_at "rd1") => `(tactic| first
  | ((with_reducible apply rd_var); exact rfl)
  | ((with_reducible apply rd_eq); exact rfl) | ((with_reducible apply rd_ne); exact rfl)
  | with_reducible first
  | refine iteT ?_ | refine iteF ?_ | refine rd_nF ?_ | refine rd_nT ?_ | refine rd_yes ?_ | refine rd_c ?_ | refine rd_op ?_ | refine rd_un ?_ | refine rd_test ?_ | refine rd_B ?_ | refine rd_bl ?_ | refine rd_seq ?_ | refine rd_next ?_ | refine rd_ifs ?_ | refine rd_asg ?_ | refine rd_name ?_ | refine rd_ret ?_ | refine rd_drop ?_
  | refine rd_call ?_ | refine rd_cons ?_ | refine rd_nil ?_ | refine rd_cb ?_ | refine rd_I0 ?_ | refine rd_U ?_ | refine rd_gsub ?_ | refine rd_lst ?_ | refine rd_tup ?_ | refine rd_if ?_ | refine rd_not ?_ | refine rd_rng1 ?_ | refine rd_itup ?_ | refine rd_ilst ?_ | refine rd_bm ?_ | refine rd_bm0 ?_ | refine rd_andV ?_ | refine rd_orV ?_ | refine rd_notV ?_)
local macro_rules | `(tactic| walk_at "rd") => `(tactic| repeat walk_at "rd1")
local macro_rules | `(tactic| walk_at "ci") => `(tactic| first | assumption | (show (0 : Int) < _; first | decide | omega) | exact ⟨by decide, by decide⟩ | exact Or.inr ⟨by decide, by decide⟩ | exact Or.inl ⟨by decide, by decide⟩ | exact ⟨by decide, by decide, by decide⟩ | exact Or.inl ⟨by omega, by omega⟩ | exact Or.inr ⟨by omega, by omega⟩)
local macro_rules | `(tactic| walk_at "ix") => `(tactic| first
  | ((with_reducible apply rd_ixL); (walk_at "hl"); exact rfl)
  | ((with_reducible apply rd_ixT); (walk_at "ht"); exact rfl)
  | ((with_reducible apply rd_lenL); (walk_at "hl"))
  | ((with_reducible apply rd_lenT); (walk_at "ht"))
  | ((with_reducible apply rd_tupOf); (walk_at "hl"))
  | ((with_reducible apply rd_listOf); (walk_at "hl"))
  | (with_reducible refine rd_min2 ?_)
  | ((with_reducible apply rd_I); (walk_at "ci"))
  | ((with_reducible apply rd_setL); (walk_at "hp"); exact rfl))
local macro_rules | `(tactic| walk_at "gs") => `(tactic| repeat first | walk_at "rd1" | walk_at "ix")
local macro_rules | `(tactic| walk_at "go") => `(tactic| repeat first | walk_at "rd1" | walk_at "ix" | with_reducible refine rd_and ?_ | with_reducible refine rd_or ?_)
local macro_rules | `(tactic| walk_at "fo") => `(tactic| (with_reducible refine rd_for ?_))
local macro_rules | `(tactic| walk_at "pm") => `(tactic| repeat first
  | with_reducible first | refine rd_pcons ?_ | refine rd_pstr ?_ | refine rd_pcap ?_ | refine rd_pwild ?_ | refine rd_pnil ?_ | refine rd_por ?_ | refine rd_pno ?_
  | ((with_reducible refine rd_eq rfl ?_); refine ⟨_, rfl, ?_⟩; first | refine rd_T rfl ?_ | refine rd_F (by decide) ?_)
  | dsimp only [List.nil_append, List.singleton_append, List.cons_append, setAll])
local macro_rules | `(tactic| walk_at "pc") => `(tactic| (refine rd_case ?_); (first | (refine rd_phit (SqT.of (by assumption)) rfl ?_) | (refine rd_pmiss (SqT.of (by assumption)) (by simp) ?_)); (walk_at "pm"))

section
variable {P : Program} {w : World} {K : PySem.W.Frag} {mg : Str → Option Value} {base : Heap}
theorem nd_ch : ∀ c : Ch, c.nd.ch = c
  | .mkr _ => rfl
  | .st c k => by show Ch.st c.nd.ch k = _; rw [nd_ch c]
  | .both c o => by show Ch.both c.nd.ch o.nd.ch = _; rw [nd_ch c, nd_ch o]
  | .thn c o => by show Ch.thn c.nd.ch o.nd.ch = _; rw [nd_ch c, nd_ch o]
theorem nd_gv : ∀ c : Ch, c.nd.gv = List.replicate c.nm 0
  | .mkr _ => rfl
  | .st c k => nd_gv c
  | .both c o => by show c.nd.gv ++ o.nd.gv = List.replicate (c.nm + o.nm) 0; rw [nd_gv c, nd_gv o, List.replicate_append_replicate]
  | .thn c o => by show c.nd.gv ++ o.nd.gv = List.replicate (c.nm + o.nm) 0; rw [nd_gv c, nd_gv o, List.replicate_append_replicate]
theorem nd_new (H : Hp) : ∀ (c : Ch) (off : Nat), LNd H [] off c.nd
  | .mkr _, _ => trivial
  | .st c k, off => ⟨.inr ⟨rfl, rfl⟩, nd_new H c off⟩
  | .both c o, off => ⟨.inr ⟨rfl, rfl⟩, nd_new H c off, nd_new H o _⟩
  | .thn c o, off => ⟨.inr ⟨rfl, rfl⟩, nd_new H c off, nd_new H o _⟩
theorem cnt_new : ∀ (c : Ch) (off : Nat), cnt [] off c.nd = c.ns
  | .mkr _, _ => rfl
  | .st c k, off => by show 1 + cnt [] off c.nd = c.ns + 1; rw [cnt_new c]; omega
  | .both c o, off => by show 1 + cnt [] off c.nd + cnt [] _ o.nd = c.ns + o.ns + 1; rw [cnt_new c, cnt_new o]; omega
  | .thn c o, off => by show 1 + cnt [] off c.nd + cnt [] _ o.nd = c.ns + o.ns + 1; rw [cnt_new c, cnt_new o]; omega
theorem rd_pc {tk tv : TE} {r : List (TE × TE)} {σ : L2.St} {H : Hp} {Q : List (V × V) → Hp → Prop} (h : tk σ H fun x H1 => tv σ H1 fun y H2 => tPairs r σ H2 fun ps H3 => Q ((x, y) :: ps) H3) : tPairs ((tk, tv) :: r) σ H Q := h
theorem rd_pn {σ : L2.St} {H : Hp} {Q : List (V × V) → Hp → Prop} (h : Q [] H) : tPairs [] σ H Q := h
theorem lawdraws {fS fM fG fD fB fY fT : Addr} {dS dM dG dD dB dY dT : FuncData} (T : Txt K mg)
    (FS : FnP K "_law_source" "_law_source" s__law_source fS dS) (gS : mg "_law_source" = some (.ref fS))
    (FM : FnP K "_law_makers" "_law_makers" s__law_makers fM dM) (gM : mg "_law_makers" = some (.ref fM))
    (FG : FnP K "_law_lets_go" "_law_lets_go" s__law_lets_go fG dG) (gG : mg "_law_lets_go" = some (.ref fG))
    (FD : FnP K "_law_draw" "_law_draw" s__law_draw fD dD) (gD : mg "_law_draw" = some (.ref fD))
    (FB : FnP K "_law_beside" "_law_beside" s__law_beside fB dB) (gB : mg "_law_beside" = some (.ref fB))
    (FY : FnP K "_law_by" "_law_by" s__law_by fY dY) (gY : mg "_law_by" = some (.ref fY))
    (FT : FnP K "_law_told" "_law_told" s__law_told fT dT) (gT : mg "_law_told" = some (.ref fT)) : ∀ d, Cal P w K mg base CX0 (4 * d + 6) "_law_draw" ["_law_d", "_law_chain", "_law_at", "_law_name"] (spLDraw d) := by
  have GS : Cal P w K mg base CX0 1 "_law_source" ["_law_d", "_law_number"] spSource := cal_of FS gS (ok_law_source T FS) fun _ _ _ _ _ _ us hl => match us, hl with | [_, _], _ => rfl
  have GG : Cal P w K mg base CX0 1 "_law_lets_go" ["_law_stage", "_law_own", "_law_number"] spLets := cal_of FG gG (ok_law_lets_go T FG) fun _ _ _ _ _ _ us hl => match us, hl with | [_, _, _], _ => rfl
  have GM := lawmakers (P := P) (w := w) (base := base) T FM gM 4 (by omega)
  intro d
  induction d with
  | zero =>
    have void : ∀ {vs : List V} {H : Hp} {Q : VK} {E : XK}, spLBy 0 vs H Q E → False := by
      rintro vs H Q E ⟨A, p, od, cF, st, bs, pre, post, own, preM, postM, x, m, f, r, x', m', _, _, G⟩
      have h1 := G.ps
      have h2 := G.dep
      have := kid_dep h1
      omega
    have GY : Cal P w K mg base CX0 (4 * 0 + 5) "_law_by" ["_law_d", "_law_chain", "_law_at", "_law_name", "_law_own"] (spLBy 0) := cal_of FY gY (ok0 FY sc__law_by (fun vs H Q E h => (void h).elim) fun cdv A outer s H vs Q E hr h => (void h).elim) fun _ _ _ _ _ _ us hl => match us, hl with | [_, _, _, _, _], _ => rfl
    exact cal_of FD gD (ok_law_draw T FD GS GY) fun _ _ _ _ _ _ us hl => match us, hl with | [_, _, _, _], _ => rfl
  | succ d ih =>
    have GB : Cal P w K mg base CX0 (4 * d + 7) "_law_beside" ["_law_d", "_law_chain", "_law_at", "_law_name"] (spBeside d) := cal_of FB gB (ok_law_beside (j := 4 * d + 6) (k := 4 * d + 6) T FB GM (Nat.le_refl _) (by omega) ih) fun _ _ _ _ _ _ us hl => match us, hl with | [_, _, _, _], _ => rfl
    have GT : Cal P w K mg base CX0 (4 * d + 8) "_law_told" ["_law_d", "_law_chain", "_law_at", "_law_name", "_law_own", "_law_found"] (spTold d) := cal_of FT gT (ok_law_told T FT GB) fun _ _ _ _ _ _ us hl => match us, hl with | [_, _, _, _, _, _], _ => rfl
    have GY : Cal P w K mg base CX0 (4 * (d + 1) + 5) "_law_by" ["_law_d", "_law_chain", "_law_at", "_law_name", "_law_own"] (spLBy (d + 1)) := cal_of FY gY (ok_law_by T FY ih GB GG GT) fun _ _ _ _ _ _ us hl => match us, hl with | [_, _, _, _, _], _ => rfl
    exact cal_of FD gD (ok_law_draw T FD GS GY) fun _ _ _ _ _ _ us hl => match us, hl with | [_, _, _, _], _ => rfl
/-! ### the law's drawer, new -/
structure LDr (J : List Addr) (H : Hp) (A : LS) (c : Ch) (x : Nd) (m : Mt) (st : Bool) (bs : List Int) (own : OwnL) : Prop where
  sep : LSep A
  la : LAt H A st m bs x.gv own x.mks
  ch : ChAt H A.p c
  xc : x.ch = c
  nd : LNd H own 0 x
  ok : OwnOk H own
  sz : own.length + cnt own 0 x ≤ 1000
/-- what of the law's drawer may change -/
def LS.ads (A : LS) (own : OwnL) : List Addr := A.ld :: A.lg :: A.ll :: A.lo :: A.lb :: ods own
def spDrawerL : Sp := fun vs H Q _ => ∃ (p : Addr) (c : Ch), vs = [.ref p] ∧ ChAt H p c ∧ c.nm ≤ 4 ∧ c.ns ≤ 12 ∧
  ∀ H' A, A.p = p → LDr [] H' A c c.nd ⟨0, []⟩ false [] [] → (∀ b, b ∈ [A.ld, A.la, A.lg, A.ll, A.lb, A.lo] → H b = none) → Fr [] H H' → Q (.ref A.ld) H'
theorem sc__law_drawer : FnScope ["_law_chain", "_law_found", "_law_maker"] ["_law_chain"] (defScope s__law_drawer) := ⟨rfl, rfl, rfl, by decide +kernel, rfl, by decide +kernel, by decide +kernel⟩
theorem ok_law_drawer (T : Txt K mg) {f : Addr} {fd : FuncData} (F : FnP K "_law_drawer" "_law_drawer" s__law_drawer f fd) (G__law_makers : Cal P w K mg base CX0 5 "_law_makers" ["_law_chain"] (spMakers 4)) : FnOk P w K mg base CX0 6 f fd ["_law_chain"] spDrawerL := by
  refine ok0 F sc__law_drawer (fun vs H Q E h => ?_) (fun cdv A outer s H vs Q E hr h => ?_)
  · obtain ⟨p, c, rfl, _⟩ := h
    rfl
  · obtain ⟨p, c, rfl, hc, hn, hs, k⟩ := h
    have hu := room1 hr
    refine ⟨_, (pss_cons (ps_set (i := 1) sc__law_drawer.nd rfl (Or.inl rfl) (pe_disp (pps_cons pe_str (pv 0) (pps_cons pe_str (pe_cal G__law_makers (hr.mono (by omega)) pass0 (pa_cons (pv 0) pa_nil)) (pps_cons pe_str (pe_lst pa_nil) (pps_cons pe_str (pe_lst pa_nil) (pps_cons pe_str pe_bl (pps_cons pe_str pe_int pps_nil)))))) rfl rfl (by intro q; cases q) (by decide)))
  (pss_cons (ps_dput hu (pv 1) pe_str (pe_lc (own := [("_law_maker", 2)]) (g := gName 2) rfl sc__law_drawer.nd (pi_list (pe_dget hu (pv 1) pe_str (fun _ _ => rfl))) (blkOk_by (N := ["_law_chain", "_law_found", "_law_maker"]) (sc := defScope s__law_drawer) (by decide +kernel)) (fun _ _ _ _ _ => pg_name (i := 2) sc__law_drawer.nd rfl (Or.inl rfl)) (fun _ _ _ _ _ => pts_nil) (fun _ _ _ _ _ => pe_int)) rfl)
  (pss_cons (ps_dput hu (pv 1) pe_str pe_dnewT rfl)
  (pss_one (ps_ret (pv 1)))))), ?_⟩
    try dsimp only [cxOf, Cx.nox, Cx.wish]
    refine rd_at (σ' := [some (.ref p), none, none]) rfl ?_
    walk_at "go"
    intro ld hld
    have f0 : Fr [] H (upd H ld (.dK [])) := Fr.new hld
    refine rd_pc ?_
    walk_at "go"
    refine rd_pc ?_
    walk_at "go"
    refine ⟨p, c, rfl, hc.fr f0, hn, fun H1 la ms ela hms hla f1 => ?_⟩
    have eld1 := f1.at (upd_same (H := H) (a := ld) (o := .dK [])) (by simp)
    have f01 := f0.tr f1
    walk_at "go"
    refine rd_pc ?_
    walk_at "go"
    refine ⟨Nat.zero_le _, fun ll hll => ?_⟩
    have f2 := f01.newN (o := .lst []) hll
    have eld2 := upd_keep (u := .lst []) eld1 hll
    have ela2 := upd_keep (u := .lst []) ela hll
    have hms2 := hms.fr (Fr.new (S := []) (o := .lst []) hll)
    have ell2 : upd H1 ll (.lst []) ll = some (.lst []) := upd_same
    have hll0 : H ll = none := f01.free (by simp) hll
    have nll : ll ≠ la := (ne_of_none ela hll).symm
    generalize upd H1 ll (.lst []) = H2 at *
    walk_at "go"
    refine rd_pc ?_
    walk_at "go"
    refine ⟨Nat.zero_le _, fun lb hlb => ?_⟩
    have f3 := f2.newN (o := .lst []) hlb
    have eld3 := upd_keep (u := .lst []) eld2 hlb
    have ela3 := upd_keep (u := .lst []) ela2 hlb
    have ell3 := upd_keep (u := .lst []) ell2 hlb
    have hms3 := hms2.fr (Fr.new (S := []) (o := .lst []) hlb)
    have elb3 : upd H2 lb (.lst []) lb = some (.lst []) := upd_same
    have hlb0 : H lb = none := f2.free (by simp) hlb
    have nlb : lb ≠ la ∧ lb ≠ ll := ⟨(ne_of_none ela2 hlb).symm, (ne_of_none ell2 hlb).symm⟩
    generalize upd H2 lb (.lst []) = H3 at *
    walk_at "go"
    refine rd_pc ?_
    walk_at "go"
    refine rd_pc ?_
    walk_at "go"
    refine rd_pn ?_
    refine ⟨eld3, [(.inr "chain", .ref p), (.inr "makers", .ref la), (.inr "lost", .ref ll), (.inr "back", .ref lb), (.inr "stuck", .bl false), (.inr "book", .int 0)], rfl, by show 6 ≤ 15; decide, ?_⟩
    have f4 := f3.putN (o := .dK [(.inr "chain", .ref p), (.inr "makers", .ref la), (.inr "lost", .ref ll), (.inr "back", .ref lb), (.inr "stuck", .bl false), (.inr "book", .int 0)]) (.inr hld) (nt eld3)
    show gName 1 (.ref ld) _ (upd H3 ld (.dK [(.inr "chain", .ref p), (.inr "makers", .ref la), (.inr "lost", .ref ll), (.inr "back", .ref lb), (.inr "stuck", .bl false), (.inr "book", .int 0)])) _
    have e4 : upd H3 ld (.dK [(.inr "chain", .ref p), (.inr "makers", .ref la), (.inr "lost", .ref ll), (.inr "back", .ref lb), (.inr "stuck", .bl false), (.inr "book", .int 0)]) ld = some (.dK [(.inr "chain", .ref p), (.inr "makers", .ref la), (.inr "lost", .ref ll), (.inr "back", .ref lb), (.inr "stuck", .bl false), (.inr "book", .int 0)]) := upd_same
    have f34 : Fr [ld] H3 (upd H3 ld (.dK [(.inr "chain", .ref p), (.inr "makers", .ref la), (.inr "lost", .ref ll), (.inr "back", .ref lb), (.inr "stuck", .bl false), (.inr "book", .int 0)])) := Fr.put (by simp) (nt eld3)
    have ela4 := f34.at ela3 (by simpa using ne_of ela3 eld3 (by intro z; cases z))
    have ell4 := f34.at ell3 (by simpa using ne_of ell3 eld3 (by intro z; cases z))
    have elb4 := f34.at elb3 (by simpa using ne_of elb3 eld3 (by intro z; cases z))
    have hms4 := hms3.fr f34
    generalize upd H3 ld (.dK [(.inr "chain", .ref p), (.inr "makers", .ref la), (.inr "lost", .ref ll), (.inr "back", .ref lb), (.inr "stuck", .bl false), (.inr "book", .int 0)]) = H4 at *
    walk_at "go"
    refine rd_dp ?_
    refine rd_gk (Q := _) rfl e4 rfl ?_
    refine ⟨la, rfl, ⟨_, SqL.of ela4⟩, fun D hD => ?_⟩
    refine lc_list (K := K) (a := la) (xs := ms.map V.ref) (fun i H5 => H5 D = some (.lst ((List.replicate i (0 : Int)).map V.int)) ∧ Fr [] H4 H5) ⟨upd_same, Fr.new hD⟩ (fun i H5 _ ⟨_, fr⟩ => SqL.of (fr.at ela4 (by simp))) ?_ ?_
    · rintro i y H5 hi ⟨e5, f5⟩
      have il : i < ms.length := by have := (List.getElem?_eq_some_iff.mp hi).1; rwa [List.length_map] at this
      have ml : ms.length = c.nm := by rw [hms.1, Ch.mks_len]
      walk_at "go"
      refine ⟨rfl, ?_⟩
      walk_at "go"
      refine ⟨_, e5, by rw [List.length_map, List.length_replicate]; exact Nat.lt_of_lt_of_le il (Nat.le_trans (show ms.length ≤ 4 by omega) (by decide)), ?_, f5.trans (Fr.put (S := [D]) (by simp) (nt e5)) fun b hb => by rw [List.mem_singleton] at hb; rw [hb]; exact .inr hD⟩
      rw [upd_same, List.replicate_succ', List.map_append]
      rfl
    · rintro H5 ⟨eD5, f45⟩
      have hD0 : H D = none := f4.free (by simp) hD
      have e5 := f45.at e4 (by simp)
      have ela5 := f45.at ela4 (by simp)
      have ell5 := f45.at ell4 (by simp)
      have elb5 := f45.at elb4 (by simp)
      have hms5 := hms4.fr f45
      have nD : D ≠ la ∧ D ≠ ll ∧ D ≠ lb := ⟨(ne_of_none ela4 hD).symm, (ne_of_none ell4 hD).symm, (ne_of_none elb4 hD).symm⟩
      walk_at "go"
      refine rd_dpk e5 (by show 6 < sizeLine; decide) ?_
      dsimp only
      show tSeq _ _ _ _ (upd H5 ld (.dK [(.inr "chain", .ref p), (.inr "makers", .ref la), (.inr "lost", .ref ll), (.inr "back", .ref lb), (.inr "stuck", .bl false), (.inr "book", .int 0), (.inr "given", .ref D)]))
      have e6 : upd H5 ld (.dK [(.inr "chain", .ref p), (.inr "makers", .ref la), (.inr "lost", .ref ll), (.inr "back", .ref lb), (.inr "stuck", .bl false), (.inr "book", .int 0), (.inr "given", .ref D)]) ld = some (.dK [(.inr "chain", .ref p), (.inr "makers", .ref la), (.inr "lost", .ref ll), (.inr "back", .ref lb), (.inr "stuck", .bl false), (.inr "book", .int 0), (.inr "given", .ref D)]) := upd_same
      have f56 : Fr [ld] H5 (upd H5 ld (.dK [(.inr "chain", .ref p), (.inr "makers", .ref la), (.inr "lost", .ref ll), (.inr "back", .ref lb), (.inr "stuck", .bl false), (.inr "book", .int 0), (.inr "given", .ref D)])) := Fr.put (by simp) (nt e5)
      have ela6 := f56.at ela5 (by simpa using ne_of ela5 e5 (by intro z; cases z))
      have ell6 := f56.at ell5 (by simpa using ne_of ell5 e5 (by intro z; cases z))
      have elb6 := f56.at elb5 (by simpa using ne_of elb5 e5 (by intro z; cases z))
      have eD6 := f56.at eD5 (by simpa using ne_of eD5 e5 (by intro z; cases z))
      have hms6 := hms5.fr f56
      have f06 : Fr [] H (upd H5 ld (.dK [(.inr "chain", .ref p), (.inr "makers", .ref la), (.inr "lost", .ref ll), (.inr "back", .ref lb), (.inr "stuck", .bl false), (.inr "book", .int 0), (.inr "given", .ref D)])) := (f4.tr f45).putN (.inr hld) (nt e5)
      generalize upd H5 ld (.dK [(.inr "chain", .ref p), (.inr "makers", .ref la), (.inr "lost", .ref ll), (.inr "back", .ref lb), (.inr "stuck", .bl false), (.inr "book", .int 0), (.inr "given", .ref D)]) = H6 at *
      walk_at "go"
      refine rd_dp ?_
      intro lo hlo
      walk_at "go"
      refine rd_dpk (upd_keep e6 hlo) (by show 7 < sizeLine; decide) ?_
      have hlo0 : H lo = none := f06.free (by simp) hlo
      have nlo : lo ≠ ld := (ne_of_none e6 hlo).symm
      have eld7 := upd_keep (u := .dT []) e6 hlo
      have f7 := (f06.newN (o := .dT []) hlo).putN (o := .dK (LS.kvs ⟨ld, p, la, ll, lb, D, lo, ms⟩ false 0)) (.inr hld) (nt eld7)
      have fS : Fr [ld] (upd H6 lo (.dT [])) (upd (upd H6 lo (.dT [])) ld (.dK (LS.kvs ⟨ld, p, la, ll, lb, D, lo, ms⟩ false 0))) := Fr.put (by simp) (nt eld7)
      dsimp only
      show tRet _ _ _ (upd (upd H6 lo (.dT [])) ld (.dK (LS.kvs ⟨ld, p, la, ll, lb, D, lo, ms⟩ false 0)))
      walk_at "go"
      have ml : ms.length = c.nm := by rw [hms.1, Ch.mks_len]
      have nn : ∀ {x : Addr} {v : List V}, H6 x = some (.lst v) → x ∉ [ld] := fun {x v} e => by simpa using ne_of e e6 (by intro z; cases z)
      refine k _ ⟨ld, p, la, ll, lb, D, lo, ms⟩ rfl ⟨⟨nD.2.1, nD.2.2, nD.1, nlb.2.symm, nll, nlb.1⟩, ⟨upd_same, fS.at (upd_keep ela6 hlo) (nn ela6), ?_, ?_, fS.at (upd_keep ell6 hlo) (nn ell6), fS.at (upd_keep elb6 hlo) (nn elb6), fS.at upd_same (by simpa using nlo)⟩, hc.fr f7, nd_ch c, nd_new _ c 0, ⟨fun k v e => (by cases e), fun k1 k2 od e1 => (by cases e1), List.nodup_nil⟩, ?_⟩ (fun b hb => ?_) f7
      · rw [Nd.mks_ch, nd_ch]
        exact (hms6.fr (Fr.new (S := []) hlo)).fr fS
      · have e8 := fS.at (upd_keep (u := .dT []) eD6 hlo) (nn eD6)
        rw [List.length_map, ml, ← nd_gv] at e8
        exact e8
      · show 0 + cnt [] 0 c.nd ≤ 1000
        rw [cnt_new]
        omega
      · simp only [List.mem_cons, List.not_mem_nil, or_false] at hb
        rcases hb with rfl | rfl | rfl | rfl | rfl | rfl
        · exact hld
        · exact f0.free (by simp) hla
        · exact hD0
        · exact hll0
        · exact hlb0
        · exact hlo0
end
end Dc

set_option Elab.async false
set_option linter.all false
set_option maxRecDepth 100000
set_option maxHeartbeats 2000000
namespace Dc
open PySem PySem.Spec PyProof.Rows L2
local macro_rules | `(tactic| walk_at "ne") => `(tactic| first | assumption | (refine Ne.symm ?_; assumption) | exact ne_of (by assumption) (by assumption) (by intro q; cases q) | exact ne_of_none (by assumption) (by assumption) | exact Ne.symm (ne_of_none (by assumption) (by assumption)))
local macro_rules | `(tactic| walk_at "hp") => `(tactic| first | assumption | exact upd_same | (refine upd_keep ?_ (by assumption); walk_at "hp") | (refine upd_other ?_ ?_; · walk_at "ne"; · walk_at "hp"))
local macro_rules | `(tactic| walk_at "hl") => `(tactic| first | assumption | exact SqL.of (by walk_at "hp"))
local macro_rules | `(tactic| walk_at "ht") => `(tactic| first | assumption | exact SqT.of (by walk_at "hp"))
local macro_rules | `(tactic| walk_at "rd1") => `(tactic| first
  | ((with_reducible apply rd_var); exact rfl)
  | ((with_reducible apply rd_eq); exact rfl) | ((with_reducible apply rd_ne); exact rfl)
  | with_reducible first
  | refine iteT ?_ | refine iteF ?_ | refine rd_nF ?_ | refine rd_nT ?_ | refine rd_yes ?_ | refine rd_c ?_ | refine rd_op ?_ | refine rd_un ?_ | refine rd_test ?_ | refine rd_B ?_ | refine rd_bl ?_ | refine rd_seq ?_ | refine rd_next ?_ | refine rd_ifs ?_ | refine rd_asg ?_ | refine rd_name ?_ | refine rd_ret ?_ | refine rd_drop ?_
  | refine rd_call ?_ | refine rd_cons ?_ | refine rd_nil ?_ | refine rd_cb ?_ | refine rd_I0 ?_ | refine rd_U ?_ | refine rd_gsub ?_ | refine rd_lst ?_ | refine rd_tup ?_ | refine rd_if ?_ | refine rd_not ?_ | refine rd_rng1 ?_ | refine rd_itup ?_ | refine rd_ilst ?_ | refine rd_bm ?_ | refine rd_bm0 ?_ | refine rd_andV ?_ | refine rd_orV ?_ | refine rd_notV ?_)
local macro_rules | `(tactic| walk_at "rd") => `(tactic| repeat walk_at "rd1")
local macro_rules | `(tactic| walk_at "ci") => `(tactic| first | assumption | (show (0 : Int) < _; first | decide | omega) | exact ⟨by decide, by decide⟩ | exact Or.inr ⟨by decide, by decide⟩ | exact Or.inl ⟨by decide, by decide⟩ | exact ⟨by decide, by decide, by decide⟩ | exact Or.inl ⟨by omega, by omega⟩ | exact Or.inr ⟨by omega, by omega⟩)
local macro_rules | `(tactic| walk_at "ix") => `(tactic| first
  | ((with_reducible apply rd_ixL); (walk_at "hl"); exact rfl)
  | ((with_reducible apply rd_ixT); (walk_at "ht"); exact rfl)
  | ((with_reducible apply rd_lenL); (walk_at "hl"))
  | ((with_reducible apply rd_lenT); (walk_at "ht"))
  | ((with_reducible apply rd_tupOf); (walk_at "hl"))
  | ((with_reducible apply rd_listOf); (walk_at "hl"))
  | (with_reducible refine rd_min2 ?_)
  | ((with_reducible apply rd_I); (walk_at "ci"))
  | ((with_reducible apply rd_setL); (walk_at "hp"); exact rfl))
local macro_rules | `(tactic| walk_at "gs") => `(tactic| repeat first | walk_at "rd1" | walk_at "ix")
local macro_rules | `(tactic| walk_at "go") => `(tactic| repeat first | walk_at "rd1" | walk_at "ix" | with_reducible refine rd_and ?_ | with_reducible refine rd_or ?_)
local macro_rules | `(tactic| walk_at "fo") => `(tactic| (with_reducible refine rd_for ?_))
local macro_rules | `(tactic| walk_at "pm") => `(tactic| repeat first
  | with_reducible first | refine rd_pcons ?_ | refine rd_pstr ?_ | refine rd_pcap ?_ | refine rd_pwild ?_ | refine rd_pnil ?_ | refine rd_por ?_ | refine rd_pno ?_
  | ((with_reducible refine rd_eq rfl ?_); refine ⟨_, rfl, ?_⟩; first | refine rd_T rfl ?_ | refine rd_F (by decide) ?_)
  | dsimp only [List.nil_append, List.singleton_append, List.cons_append, setAll])
local macro_rules | `(tactic| walk_at "pc") => `(tactic| (refine rd_case ?_); (first | (refine rd_phit (SqT.of (by assumption)) rfl ?_) | (refine rd_pmiss (SqT.of (by assumption)) (by simp) ?_)); (walk_at "pm"))

theorem ints_lay : ∀ bs : List Int, PyData.canLayAll0 (bs.map PyData.int) = true
  | [] => rfl
  | b :: bs => by show (PyData.canLay0 (.int b) && PyData.canLayAll0 (bs.map PyData.int)) = true; rw [ints_lay bs]; rfl
theorem ints_depth : ∀ bs : List Int, PyData.depthAll (bs.map PyData.int) ≤ 1
  | [] => by decide
  | b :: bs => by
    have := ints_depth bs
    simp only [List.map_cons, PyData.depthAll, PyData.depth]
    omega
theorem ints_shaped (bs : List Int) : SeqAt.shaped (.list (bs.map PyData.int)) = true := by
  unfold SeqAt.shaped
  rw [Bool.and_eq_true]
  refine ⟨ints_lay bs, decide_eq_true ?_⟩
  have := ints_depth bs
  simp only [PyData.depth]
  omega
theorem dp_ints {K : PySem.W.Frag} {H : Hp} : ∀ bs : List Int, DpAll K H (bs.map V.int) (bs.map PyData.int)
  | [] => .nil
  | b :: bs => .cons (.int b) (dp_ints bs)
theorem eqv_nil (bs : List Int) : PyData.eqv (.list (bs.map PyData.int)) (.list []) = bs.isEmpty := by cases bs <;> rfl
theorem an_eqLong {K : PySem.W.Frag} {r : Rs} {H : Hp} {v : V} {Q : VK} (h : r.an H v) (q : Q (.bl r.isLong) H) : rEqD K v (.str "long") H Q := by
  cases r with
  | num n => obtain ⟨p, rfl, e⟩ := h; exact ⟨.list [.int n], .str "long", .lst (SqL.of e) (.cons (.int n) .nil), .str _, rfl, by decide +kernel, q⟩
  | fin => obtain rfl := h; exact ⟨.str "end", .str "long", .str _, .str _, by decide +kernel, by decide +kernel, q⟩
  | long => obtain rfl := h; exact ⟨.str "long", .str "long", .str _, .str _, by decide +kernel, by decide +kernel, q⟩
/-- the law's next, by the same step as the drawer's -/
def spNextL (d : Nat) : Sp := fun vs H Q _ => ∃ (A : LS) (c : Ch) (x : Nd) (m : Mt) (st : Bool) (bs : List Int) (own : OwnL) (r : Rs) (x' : Nd) (m' : Mt) (st' : Bool) (bs' : List Int), vs = [.ref A.ld] ∧ LDr [] H A c x m st bs own ∧ x.inv ∧ x.dep ≤ d ∧ m.lost.length + x.alive ≤ 1000 ∧ x.le (2 ^ 63) ∧ x.gv.length ≤ 4 ∧
  NextR x m st bs r x' m' st' bs' ∧ ∀ H' q own', H' q = some (.tup r.vals) → LDr [] H' A c x' m' st' bs' own' → (∀ b, b ∈ ods own' → b ∈ ods own ∨ (st = false ∧ H b = none)) → Fr (A.ads own) H H' → Q (.ref q) H'
section
variable {P : Program} {w : World} {K : PySem.W.Frag} {mg : Str → Option Value} {base : Heap}
theorem LDr.fresh {H : Hp} {A : LS} {c : Ch} {x : Nd} {m : Mt} {st : Bool} {bs : List Int} {own : OwnL} {p : Addr} {o : HO} (G : LDr [] H A c x m st bs own) (h : H p = none) : LDr [] (upd H p o) A c x m st bs own :=
  ⟨G.sep, G.la.fresh h, G.ch.fr (Fr.new (S := []) h), G.xc, G.nd.kept (K := fun _ => False) (fun k _ => ⟨rfl, fun od o e z => (Fr.new (S := []) h).at z (by simp)⟩) (fun _ _ z => z), G.ok.fr (Fr.new (S := []) h) (fun _ _ => by simp), G.sz⟩
theorem LDr.back {H : Hp} {A : LS} {c : Ch} {x : Nd} {m : Mt} {st : Bool} {bs bs' : List Int} {own : OwnL} (G : LDr [] H A c x m st bs own) : LDr [] (upd H A.lb (.lst (bs'.map V.int))) A c x m st bs' own := by
  have f : Fr [A.lb] H (upd H A.lb (.lst (bs'.map V.int))) := Fr.put (by simp) (nt G.la.lb)
  exact ⟨G.sep, ⟨upd_other (ne_of G.la.ob G.la.lb (by intro z; cases z)) G.la.ob, upd_other G.sep.a6.symm G.la.mkl, G.la.mks.fr f, upd_other G.sep.a2 G.la.lg, upd_other G.sep.a4 G.la.ll, upd_same, upd_other (ne_of G.la.lo G.la.lb (by intro z; cases z)) G.la.lo⟩, G.ch.fr f, G.xc,
    G.nd.kept (K := fun _ => False) (fun k _ => ⟨rfl, fun od o e z => f.at z (by have := (G.la.own_ne e z).2.2.2.1; simpa using this)⟩) (fun _ _ z => z), G.ok.fr f (fun e z => by have := (G.la.own_ne e z).2.2.2.1; simpa using this), G.sz⟩
theorem LDr.setOb {H : Hp} {A : LS} {c : Ch} {x : Nd} {m : Mt} {st : Bool} {bs : List Int} {own : OwnL} (G : LDr [] H A c x m st bs own) (st' : Bool) (b : Nat) : LDr [] (upd H A.ld (.dK (A.kvs st' b))) A c x { m with book := b } st' bs own := by
  have f : Fr [A.ld] H (upd H A.ld (.dK (A.kvs st' b))) := Fr.put (by simp) (nt G.la.ob)
  exact ⟨G.sep, ⟨upd_same, upd_other (ne_of G.la.mkl G.la.ob (by intro z; cases z)) G.la.mkl, G.la.mks.fr f, upd_other (ne_of G.la.lg G.la.ob (by intro z; cases z)) G.la.lg, upd_other (ne_of G.la.ll G.la.ob (by intro z; cases z)) G.la.ll, upd_other (ne_of G.la.lb G.la.ob (by intro z; cases z)) G.la.lb, upd_other (ne_of G.la.lo G.la.ob (by intro z; cases z)) G.la.lo⟩, G.ch.fr f, G.xc,
    G.nd.kept (K := fun _ => False) (fun k _ => ⟨rfl, fun od o e z => f.at z (by have := (G.la.own_ne e z).1; simpa using this)⟩) (fun _ _ z => z), G.ok.fr f (fun e z => by have := (G.la.own_ne e z).1; simpa using this), G.sz⟩
theorem sc__law_next : FnScope ["_law_d", "_law_found"] ["_law_d"] (defScope s__law_next) := ⟨rfl, rfl, rfl, by decide +kernel, rfl, by decide +kernel, by decide +kernel⟩
theorem ok_law_next {d : Nat} (T : Txt K mg) {f : Addr} {fd : FuncData} (F : FnP K "_law_next" "_law_next" s__law_next f fd) (G__law_draw : Cal P w K mg base CX0 (4 * d + 6) "_law_draw" ["_law_d", "_law_chain", "_law_at", "_law_name"] (spLDraw d)) : FnOk P w K mg base CX0 (4 * d + 7) f fd ["_law_d"] (spNextL d) := by
  refine ok0 F sc__law_next (fun vs H Q E h => ?_) (fun cdv A outer s H vs Q E hr h => ?_)
  · obtain ⟨A, c, x, m, st, bs, own, r, x', m', st', bs', rfl, _⟩ := h
    rfl
  · obtain ⟨A, c, x, m, st, bs, own, r, x', m', st', bs', rfl, G, hinv, hdep, hal, hle, hnm, hN, k⟩ := h
    have hu := room1 hr
    have hu64 := hr.units
    refine ⟨_, (pss_cons (ps_if (pt_cmpR (op_neDK K hu64) (pe_dget hu (pv 0) pe_str (fun _ _ => rfl)) (pe_lst pa_nil) (nomark _))
    (pss_one (ps_ret (pe_tup (pa_cons pe_str (pa_cons (pe_bm0 PySem.F.plainAttrs_list PySem.F.slot_list_pop PySem.F.type_list_pop mt_pop (pe_dget hu (pv 0) pe_str (fun _ _ => rfl))) pa_nil))))) pss_nil)
  (pss_cons (ps_if (pt_truth (pe_dget hu (pv 0) pe_str (fun _ _ => rfl)) (by intro _; rfl))
    (pss_one (ps_ret (pe_tup (pa_cons pe_str pa_nil)))) pss_nil)
  (pss_cons (ps_dput hu (pv 0) pe_str pe_int rfl)
  (pss_cons (ps_set (i := 1) sc__law_next.nd rfl (Or.inl rfl) (pe_cal G__law_draw (hr.mono (by omega)) pass0 (pa_cons (pv 0) (pa_cons (pe_dget hu (pv 0) pe_str (fun _ _ => rfl)) (pa_cons (pe_callB (call_len1K K) (by rfl) T.free_len (by decide +kernel) (pa_cons (pe_ix (ix_tupK K) (pe_dget hu (pv 0) pe_str (fun _ _ => rfl)) pe_int (fun _ _ => rfl)) pa_nil)) (pa_cons pe_int pa_nil))))))
  (pss_cons (ps_dput hu (pv 0) pe_str (pe_cmpR (op_eqDK K hu64) (pv 1) pe_str (nomark _)) rfl)
  (pss_one (ps_ret (pe_ifExp (pt_val (pe_callB (call_isiK1 K) (by rfl) T.free_isinstance (by decide +kernel) (pa_cons (pv 1) (pa_cons (pe_bltn (v := .ty "list") (u := .type "list") (by rfl) T.free_list (by decide +kernel) rfl) pa_nil)))) (pe_tup (pa_cons pe_str (pa_cons (pe_ix (ix_listK K) (pv 1) pe_int (fun _ _ => rfl)) pa_nil))) (pe_tup (pa_cons (pv 1) pa_nil)))))))))), ?_⟩
    try dsimp only [cxOf, Cx.nox, Cx.wish]
    refine rd_at (σ' := [some (.ref A.ld), none]) rfl ?_
    walk_at "go"
    refine rd_gk rfl G.la.ob rfl ?_
    walk_at "go"
    refine ⟨Nat.zero_le _, fun p hp => ?_⟩
    refine ⟨.list (bs.map PyData.int), .list [], .lst (SqL.of (upd_keep G.la.lb hp)) (dp_ints bs), .lst (SqL.of upd_same) .nil, ints_shaped bs, by decide +kernel, ?_⟩
    rw [eqv_nil]
    have G1 := G.fresh (o := .lst []) hp
    have f1 : Fr [] H (upd H p (.lst [])) := Fr.new hp
    have fup : ∀ {H'}, Fr (A.ads own) (upd H p (.lst [])) H' → Fr (A.ads own) H H' := fun {H'} f' => (f1.mono fun b hb => by cases hb).tr f'
    have back : ∀ b, upd H p (.lst []) b = none → H b = none := fun b z => f1.free (by simp) z
    generalize upd H p (.lst []) = H1 at *
    walk_at "go"
    rcases hN with ⟨b, v, rfl, rfl, rfl, rfl, rfl, rfl⟩ | ⟨rfl, rfl, rfl, rfl, rfl, rfl, rfl⟩ | ⟨rfl, rfl, ⟨f, hd⟩, rfl, rfl⟩
    · rw [show (!(bs' ++ [v]).isEmpty) = true by simp]
      refine iteT ?_
      walk_at "go"
      refine rd_gk rfl G1.la.ob rfl ?_
      refine ⟨tyl G1.la.lb, A.lb, _, .int v, rfl, rfl, G1.la.lb, by simp, ?_⟩
      walk_at "go"
      refine ⟨by show 2 ≤ sizeLine; decide, fun q hq => ?_⟩
      have e1 : ((bs' ++ [v]).map V.int).dropLast = bs'.map V.int := by simp
      rw [e1] at hq ⊢
      have fb : Fr [A.lb] H1 (upd H1 A.lb (.lst (bs'.map V.int))) := Fr.put (by simp) (nt G1.la.lb)
      have G2 : LDr [] (upd H1 A.lb (.lst (bs'.map V.int))) A c x' m' st' bs' own := G1.back
      exact k _ q own upd_same (G2.fresh hq) (fun b hb => .inl hb) (fup ((fb.mono fun b hb => by rw [List.mem_singleton] at hb; simp [LS.ads, hb]).newN hq))
    · refine iteF ?_
      walk_at "go"
      refine rd_gk rfl G1.la.ob rfl ?_
      refine ⟨true, rfl, ?_⟩
      walk_at "go"
      refine ⟨by show 1 ≤ sizeLine; decide, fun q hq => ?_⟩
      exact k _ q own upd_same (G1.fresh hq) (fun b hb => .inl hb) (fup (Fr.new hq))
    · refine iteF ?_
      walk_at "go"
      refine rd_gk rfl G1.la.ob rfl ?_
      refine ⟨false, rfl, ?_⟩
      walk_at "go"
      refine rd_dp ?_
      walk_at "go"
      refine rd_dpk G1.la.ob (by show 8 < sizeLine; decide) ?_
      have e2 : putK (A.kvs false m.book) (.inr "book" : L2.Key) (.int 0) = A.kvs false 0 := rfl
      rw [e2]
      have f2 : Fr [A.ld] H1 (upd H1 A.ld (.dK (A.kvs false 0))) := Fr.put (by simp) (nt G1.la.ob)
      have G2 : LDr [] (upd H1 A.ld (.dK (A.kvs false 0))) A c x { m with book := 0 } false [] own := G1.setOb false 0
      dsimp only
      generalize upd H1 A.ld (.dK (A.kvs false 0)) = H2 at *
      obtain ⟨mk, ss, as, ep, ess, hst⟩ := id G2.ch
      have xl : x.len = c.sgs.length := by rw [Nd.len_ch, G2.xc, Ch.of_sgs_len]
      have al : ((as.map V.ref).length : Int) = ((x.len : Nat) : Int) := by rw [List.length_map, hst.get.1, xl]
      walk_at "go"
      refine rd_gk rfl G2.la.ob rfl ?_
      walk_at "go"
      refine rd_gk rfl G2.la.ob rfl ?_
      walk_at "go"
      rw [al]
      refine ⟨A, A.p, c, false, [], [], [], own, [], [], x, { m with book := 0 }, f, r, x', m', rfl, hd, ⟨G2.sep, by simpa using G2.la, rfl, G2.ch, by rw [xl, List.take_length, Ch.of_sgs]; exact G2.xc, Nat.le_of_eq xl, G2.nd, G2.ok, G2.sz, hinv, hdep, Nat.zero_le _, hal, Nd.le.mono (Nat.le_add_right _ _) hle, hnm, fun H3 v own' an nl la3 nd3 ok3 sz3 kp3 od3 f3 => ?_⟩⟩
      have shp := draw_shp _ _ _ _ _ _ hd
      have G3 : LDr [] H3 A c x' m' false [] own' := ⟨G2.sep, by have := la3; rw [← shp.mks] at this; simpa using this, G2.ch.fr f3, shp.ch.trans G2.xc, nd3, ok3, Nat.le_trans sz3 G2.sz⟩
      have G4 := G3.setOb r.isLong m'.book
      replace G4 : LDr [] (upd H3 A.ld (.dK (A.kvs r.isLong m'.book))) A c x' m' r.isLong [] own' := G4
      have f13 : Fr (A.ads own) H1 H3 := (f2.mono fun b hb => by rw [List.mem_singleton] at hb; simp [LS.ads, hb]).tr (f3.mono fun b hb => by
        simp only [List.mem_cons] at hb
        rcases hb with z | z | z | z | z <;> simp [LS.ads, z])
      have f14 := f13.putN (o := .dK (A.kvs r.isLong m'.book)) (.inl (by simp [LS.ads])) (nt G3.la.ob)
      have od4 : ∀ b, b ∈ ods own' → b ∈ ods own ∨ (false = false ∧ H b = none) := fun b hb => by
        rcases od3 b hb with z | z
        · exact .inl z
        · refine .inr ⟨rfl, back b (f2.free (fun h => ?_) z)⟩
          rw [List.mem_singleton] at h
          exact nocon z (h ▸ G2.la.ob)
      have an4 : r.an (upd H3 A.ld (.dK (A.kvs r.isLong m'.book))) v := by
        cases r with
        | num n => obtain ⟨q, e1, e3⟩ := an; exact ⟨q, e1, upd_other (ne_of e3 G3.la.ob (by intro z; cases z)) e3⟩
        | fin => exact an
        | long => exact an
      have e5 : putK (A.kvs false m'.book) (.inr "stuck" : L2.Key) (.bl r.isLong) = A.kvs r.isLong m'.book := rfl
      walk_at "go"
      refine rd_dp ?_
      walk_at "go"
      refine an_eqLong an ?_
      walk_at "go"
      refine rd_dpk G3.la.ob (by show 8 < sizeLine; decide) ?_
      rw [e5]
      dsimp only
      generalize upd H3 A.ld (.dK (A.kvs r.isLong m'.book)) = H4 at *
      walk_at "go"
      refine an_isList an4 ?_
      walk_at "go"
      cases r with
      | num n =>
        obtain ⟨fq, rfl, efq⟩ := an4
        refine iteT ?_
        walk_at "go"
        refine ⟨by show 2 ≤ sizeLine; decide, fun q hq => ?_⟩
        exact k _ q own' upd_same (G4.fresh hq) od4 (fup (f14.newN hq))
      | fin =>
        obtain rfl := an4
        refine iteF ?_
        walk_at "go"
        refine ⟨by show 1 ≤ sizeLine; decide, fun q hq => ?_⟩
        exact k _ q own' upd_same (G4.fresh hq) od4 (fup (f14.newN hq))
      | long =>
        obtain rfl := an4
        refine iteF ?_
        walk_at "go"
        refine ⟨by show 1 ≤ sizeLine; decide, fun q hq => ?_⟩
        exact k _ q own' upd_same (G4.fresh hq) od4 (fup (f14.newN hq))
end
end Dc

set_option Elab.async false
set_option linter.all false
set_option maxRecDepth 100000
set_option maxHeartbeats 2000000
namespace Dc
open PySem PySem.Spec PyProof.Rows L2
local macro_rules | `(tactic| walk_at "ne") => `(tactic| first | assumption | (refine Ne.symm ?_; assumption) | exact ne_of (by assumption) (by assumption) (by intro q; cases q) | exact ne_of_none (by assumption) (by assumption) | exact Ne.symm (ne_of_none (by assumption) (by assumption)))
local macro_rules | `(tactic| walk_at "hp") => `(tactic| first | assumption | exact upd_same | (refine upd_keep ?_ (by assumption); walk_at "hp") | (refine upd_other ?_ ?_; · walk_at "ne"; · walk_at "hp"))
local macro_rules | `(tactic| walk_at "hl") => `(tactic| first | assumption | exact SqL.of (by walk_at "hp"))
local macro_rules | `(tactic| walk_at "ht") => `(tactic| first | assumption | exact SqT.of (by walk_at "hp"))
local macro_rules | `(tactic| walk_at "rd1") => `(tactic| first
  | ((with_reducible apply rd_var); exact rfl)
  | ((with_reducible apply rd_eq); exact rfl) | ((with_reducible apply rd_ne); exact rfl)
  | with_reducible first
  | refine iteT ?_ | refine iteF ?_ | refine rd_nF ?_ | refine rd_nT ?_ | refine rd_yes ?_ | refine rd_c ?_ | refine rd_op ?_ | refine rd_un ?_ | refine rd_test ?_ | refine rd_B ?_ | refine rd_bl ?_ | refine rd_seq ?_ | refine rd_next ?_ | refine rd_ifs ?_ | refine rd_asg ?_ | refine rd_name ?_ | refine rd_ret ?_ | refine rd_drop ?_
  | refine rd_call ?_ | refine rd_cons ?_ | refine rd_nil ?_ | refine rd_cb ?_ | refine rd_I0 ?_ | refine rd_U ?_ | refine rd_gsub ?_ | refine rd_lst ?_ | refine rd_tup ?_ | refine rd_if ?_ | refine rd_not ?_ | refine rd_rng1 ?_ | refine rd_itup ?_ | refine rd_ilst ?_ | refine rd_bm ?_ | refine rd_bm0 ?_ | refine rd_andV ?_ | refine rd_orV ?_ | refine rd_notV ?_)
local macro_rules | `(tactic| walk_at "rd") => `(tactic| repeat walk_at "rd1")
local macro_rules | `(tactic| walk_at "ci") => `(tactic| first | assumption | (show (0 : Int) < _; first | decide | omega) | exact ⟨by decide, by decide⟩ | exact Or.inr ⟨by decide, by decide⟩ | exact Or.inl ⟨by decide, by decide⟩ | exact ⟨by decide, by decide, by decide⟩ | exact Or.inl ⟨by omega, by omega⟩ | exact Or.inr ⟨by omega, by omega⟩)
local macro_rules | `(tactic| walk_at "ix") => `(tactic| first
  | ((with_reducible apply rd_ixL); (walk_at "hl"); exact rfl)
  | ((with_reducible apply rd_ixT); (walk_at "ht"); exact rfl)
  | ((with_reducible apply rd_lenL); (walk_at "hl"))
  | ((with_reducible apply rd_lenT); (walk_at "ht"))
  | ((with_reducible apply rd_tupOf); (walk_at "hl"))
  | ((with_reducible apply rd_listOf); (walk_at "hl"))
  | (with_reducible refine rd_min2 ?_)
  | ((with_reducible apply rd_I); (walk_at "ci"))
  | ((with_reducible apply rd_setL); (walk_at "hp"); exact rfl))
local macro_rules | `(tactic| walk_at "gs") => `(tactic| repeat first | walk_at "rd1" | walk_at "ix")
local macro_rules | `(tactic| walk_at "go") => `(tactic| repeat first | walk_at "rd1" | walk_at "ix" | with_reducible refine rd_and ?_ | with_reducible refine rd_or ?_)
local macro_rules | `(tactic| walk_at "fo") => `(tactic| (with_reducible refine rd_for ?_))
local macro_rules | `(tactic| walk_at "pm") => `(tactic| repeat first
  | with_reducible first | refine rd_pcons ?_ | refine rd_pstr ?_ | refine rd_pcap ?_ | refine rd_pwild ?_ | refine rd_pnil ?_ | refine rd_por ?_ | refine rd_pno ?_
  | ((with_reducible refine rd_eq rfl ?_); refine ⟨_, rfl, ?_⟩; first | refine rd_T rfl ?_ | refine rd_F (by decide) ?_)
  | dsimp only [List.nil_append, List.singleton_append, List.cons_append, setAll])
local macro_rules | `(tactic| walk_at "pc") => `(tactic| (refine rd_case ?_); (first | (refine rd_phit (SqT.of (by assumption)) rfl ?_) | (refine rd_pmiss (SqT.of (by assumption)) (by simp) ?_)); (walk_at "pm"))

/-- two values that look the same, at most n deep -/
def Sm0 (v w : V) : Prop := (∃ i : Int, v = .int i ∧ w = .int i) ∨ (∃ s : Str, v = .str s ∧ w = .str s)
def Sm : Nat → Hp → V → V → Prop
  | 0, _, v, w => Sm0 v w
  | n + 1, H, v, w => Sm0 v w ∨ ∃ (a b : Addr) (xs ys : List V), v = .ref a ∧ w = .ref b ∧ ((H a = some (.lst xs) ∧ H b = some (.lst ys)) ∨ (H a = some (.tup xs) ∧ H b = some (.tup ys))) ∧ xs.length = ys.length ∧ (xs.length : Int) < 2 ^ 62 ∧
      ∀ (i : Nat) (x y : V), xs[i]? = some x → ys[i]? = some y → Sm n H x y
theorem Sm.fr {H H' : Hp} (f : Fr [] H H') : ∀ {n : Nat} {v w : V}, Sm n H v w → Sm n H' v w
  | 0, _, _, h => h
  | n + 1, _, _, .inl h => .inl h
  | n + 1, _, _, .inr ⟨a, b, xs, ys, e1, e2, e3, e4, e5, e6⟩ => .inr ⟨a, b, xs, ys, e1, e2, e3.imp (fun z => ⟨f.at z.1 (by simp), f.at z.2 (by simp)⟩) (fun z => ⟨f.at z.1 (by simp), f.at z.2 (by simp)⟩), e4, e5, fun i x y h1 h2 => (e6 i x y h1 h2).fr f⟩
def spSame (n : Nat) : Sp := fun vs H Q _ => ∃ v w, vs = [v, w] ∧ Sm n H v w ∧ ∀ H', Fr [] H H' → Q (.bl true) H'
theorem rd_nF' {c A B : Prop} [Decidable c] (h : c) (h2 : B) : if (!decide c) = true then A else B := by rw [if_neg (by rw [decide_eq_true h]; decide)]; exact h2
theorem isi_int_tuple : kitB "int" "tuple" = some false := by decide +kernel
theorem isi_int_list : kitB "int" "list" = some false := by decide +kernel
theorem isi_int_str : kitB "int" "str" = some false := by decide +kernel
theorem isi_str_tuple : kitB "str" "tuple" = some false := by decide +kernel
theorem isi_str_bool : kitB "str" "bool" = some false := by decide +kernel
theorem isi_str_int : kitB "str" "int" = some false := by decide +kernel
theorem isi_str_str : kitB "str" "str" = some true := by decide +kernel
theorem isi_tup_list : kitB "tuple" "list" = some false := by decide +kernel
theorem isi_list_tuple : kitB "list" "tuple" = some false := by decide +kernel
theorem isi_tup_tup : kitB "tuple" "tuple" = some true := by decide +kernel
theorem sm0_at {xs : List V} (h : ∀ x ∈ xs, Sm0 x x) {n : Nat} {H : Hp} (i : Nat) (x y : V) (e1 : xs[i]? = some x) (e2 : xs[i]? = some y) : Sm n H x y := by
  rw [e1] at e2
  cases e2
  have := h x (List.mem_of_getElem? e1)
  cases n with
  | zero => exact this
  | succ n => exact .inl this
theorem sm_vals {H : Hp} {a b : Addr} {r : Rs} {n : Nat} (h1 : H a = some (.tup r.vals)) (h2 : H b = some (.tup r.vals)) : Sm (n + 1) H (.ref a) (.ref b) :=
  .inr ⟨a, b, r.vals, r.vals, rfl, rfl, .inr ⟨h1, h2⟩, rfl, by cases r <;> (simp only [Rs.vals, List.length_cons, List.length_nil]; omega), sm0_at (by
    cases r with
    | num n => intro x hx; simp only [Rs.vals, List.mem_cons, List.not_mem_nil, or_false] at hx; exact hx.elim (fun z => .inr ⟨_, z, z⟩) (fun z => .inl ⟨_, z, z⟩)
    | fin => intro x hx; simp only [Rs.vals, List.mem_cons, List.not_mem_nil, or_false] at hx; rw [hx]; exact .inr ⟨_, rfl, rfl⟩
    | long => intro x hx; simp only [Rs.vals, List.mem_cons, List.not_mem_nil, or_false] at hx; rw [hx]; exact .inr ⟨_, rfl, rfl⟩)⟩
theorem sm_ints {H : Hp} {a b : Addr} {xs : List Int} {n : Nat} (h1 : H a = some (.lst (xs.map V.int))) (h2 : H b = some (.lst (xs.map V.int))) (hl : xs.length ≤ 10000) : Sm (n + 1) H (.ref a) (.ref b) :=
  .inr ⟨a, b, _, _, rfl, rfl, .inl ⟨h1, h2⟩, rfl, by rw [List.length_map]; omega, sm0_at (by
    intro x hx
    obtain ⟨i, _, rfl⟩ := List.mem_map.mp hx
    exact .inl ⟨_, rfl, rfl⟩)⟩
theorem sm_pair {H : Hp} {a b : Addr} {x1 x2 y1 y2 : V} {n : Nat} (h1 : H a = some (.lst [x1, x2])) (h2 : H b = some (.lst [y1, y2])) (s1 : Sm n H x1 y1) (s2 : Sm n H x2 y2) : Sm (n + 1) H (.ref a) (.ref b) :=
  .inr ⟨a, b, _, _, rfl, rfl,   .inl ⟨h1, h2⟩, rfl, by simp only [List.length_cons, List.length_nil]; omega, fun i x y e1 e2 => by
    match i, e1, e2 with
    | 0, e1, e2 => cases e1; cases e2; exact s1
    | 1, e1, e2 => cases e1; cases e2; exact s2
    | i + 2, e1, e2 => cases e1⟩
section
variable {P : Program} {w : World} {K : PySem.W.Frag} {mg : Str → Option Value} {base : Heap}
theorem sc__law_same : FnScope ["_law_found", "_law_due", "_law_k", "_law_alike"] ["_law_found", "_law_due"] (defScope s__law_same) := ⟨rfl, rfl, rfl, by decide +kernel, rfl, by decide +kernel, by decide +kernel⟩
theorem ok_law_same {n j : Nat} (T : Txt K mg) {f : Addr} {fd : FuncData} (F : FnP K "_law_same" "_law_same" s__law_same f fd) (sp : Sp) (hsp : ∀ m, n = m + 1 → sp = spSame m) (G__law_same : Cal P w K mg base CX0 j "_law_same" ["_law_found", "_law_due"] sp) : FnOk P w K mg base CX0 (j + 1) f fd ["_law_found", "_law_due"] (spSame n) := by
  refine ok0 F sc__law_same (fun vs H Q E h => ?_) (fun cdv A outer s H vs Q E hr h => ?_)
  · obtain ⟨v, w, rfl, _⟩ := h
    rfl
  · obtain ⟨v, w, rfl, hs, k⟩ := h
    have hu := room1 hr
    have hu64 := hr.units
    refine ⟨_, (pss_cons (ps_if (pt_val (pe_callB (call_isiTK K) (by rfl) T.free_isinstance (by decide +kernel) (pa_cons (pv 1) (pa_cons (pe_tup (pa_cons (pe_bltn (v := .ty "tuple") (u := .type "tuple") (by rfl) T.free_tuple (by decide +kernel) rfl) (pa_cons (pe_bltn (v := .ty "list") (u := .type "list") (by rfl) T.free_list (by decide +kernel) rfl) pa_nil))) pa_nil))))
    (pss_cons (ps_if (PW.pt (pw_or (pt_not (pt_val (pe_callB (call_isiTK K) (by rfl) T.free_isinstance (by decide +kernel) (pa_cons (pv 0) (pa_cons (pe_tup (pa_cons (pe_bltn (v := .ty "tuple") (u := .type "tuple") (by rfl) T.free_tuple (by decide +kernel) rfl) (pa_cons (pe_bltn (v := .ty "list") (u := .type "list") (by rfl) T.free_list (by decide +kernel) rfl) pa_nil))) pa_nil))))) (pw_or1 (pt_cmpR op_ne (pe_callB (call_isiK1 K) (by rfl) T.free_isinstance (by decide +kernel) (pa_cons (pv 0) (pa_cons (pe_bltn (v := .ty "list") (u := .type "list") (by rfl) T.free_list (by decide +kernel) rfl) pa_nil))) (pe_callB (call_isiK1 K) (by rfl) T.free_isinstance (by decide +kernel) (pa_cons (pv 1) (pa_cons (pe_bltn (v := .ty "list") (u := .type "list") (by rfl) T.free_list (by decide +kernel) rfl) pa_nil))) (nomark _)))))
      (pss_one (ps_ret pe_bl)) pss_nil)
    (pss_cons (ps_if (pt_cmpR op_ne (pe_callB (call_len1K K) (by rfl) T.free_len (by decide +kernel) (pa_cons (pv 0) pa_nil)) (pe_callB (call_len1K K) (by rfl) T.free_len (by decide +kernel) (pa_cons (pv 1) pa_nil)) (nomark _))
      (pss_one (ps_ret pe_bl)) pss_nil)
    (pss_one (ps_ret (pe_cmpR (op_eqDK K hu64) (pe_lc (own := [("_law_k", 2)]) (g := gName 2) rfl sc__law_same.nd (pi_range1 (by rfl) T.free_range (pa_cons (pe_callB (call_len1K K) (by rfl) T.free_len (by decide +kernel) (pa_cons (pv 1) pa_nil)) pa_nil)) (blkOk_by (N := ["_law_found", "_law_due", "_law_k", "_law_alike"]) (sc := defScope s__law_same) (by decide +kernel)) (fun _ _ _ _ _ => pg_name (i := 2) sc__law_same.nd rfl (Or.inl rfl)) (fun _ _ _ _ _ => pts_one (pt_not (pt_val (pe_cal G__law_same (hr.mono (by omega)) pass0 (pa_cons (pe_ix (ix_seqK K) (pv 0) (pv 2) (fun _ _ => rfl)) (pa_cons (pe_ix (ix_seqK K) (pv 1) (pv 2) (fun _ _ => rfl)) pa_nil)))))) (fun _ _ _ _ _ => (pv 2))) (pe_lst pa_nil) (nomark _)))))) pss_nil)
  (pss_cons (ps_set (i := 3) sc__law_same.nd rfl (Or.inl rfl) (pe_and (pe_cmpR op_eq (pe_callB (call_isiK1 K) (by rfl) T.free_isinstance (by decide +kernel) (pa_cons (pv 0) (pa_cons (pe_bltn (v := .ty "bool") (u := .type "bool") (by rfl) T.free_bool (by decide +kernel) rfl) pa_nil))) (pe_callB (call_isiK1 K) (by rfl) T.free_isinstance (by decide +kernel) (pa_cons (pv 1) (pa_cons (pe_bltn (v := .ty "bool") (u := .type "bool") (by rfl) T.free_bool (by decide +kernel) rfl) pa_nil))) (nomark _)) (pe_one (pe_cmpR op_eq (pe_callB (call_isiK1 K) (by rfl) T.free_isinstance (by decide +kernel) (pa_cons (pv 0) (pa_cons (pe_bltn (v := .ty "int") (u := .type "int") (by rfl) T.free_int (by decide +kernel) rfl) pa_nil))) (pe_callB (call_isiK1 K) (by rfl) T.free_isinstance (by decide +kernel) (pa_cons (pv 1) (pa_cons (pe_bltn (v := .ty "int") (u := .type "int") (by rfl) T.free_int (by decide +kernel) rfl) pa_nil))) (nomark _)))))
  (pss_one (ps_ret (pe_and (pv 3) (pe_one (pe_cmpR op_eq (pv 0) (pv 1) (nomark _)))))))), ?_⟩
    try dsimp only [cxOf, Cx.nox, Cx.wish]
    refine rd_at (σ' := [some v, some w, none, none]) rfl ?_
    have base0 : Sm0 v w ∨ ∃ m, n = m + 1 ∧ ∃ (a b : Addr) (xs ys : List V), v = .ref a ∧ w = .ref b ∧ ((H a = some (.lst xs) ∧ H b = some (.lst ys)) ∨ (H a = some (.tup xs) ∧ H b = some (.tup ys))) ∧ xs.length = ys.length ∧ (xs.length : Int) < 2 ^ 62 ∧
      ∀ (i : Nat) (x y : V), xs[i]? = some x → ys[i]? = some y → Sm m H x y := by
      cases n with
      | zero => exact .inl hs
      | succ m => exact hs.imp id fun z => ⟨m, rfl, z⟩
    rcases base0 with (⟨i, rfl, rfl⟩ | ⟨x, rfl, rfl⟩) | ⟨m, hm, a, b, xs, ys, rfl, rfl, hab, hl, hsz, he⟩
    · walk_at "go"
      refine ⟨by show 2 ≤ sizeLine; decide, fun p hp => ?_⟩
      walk_at "go"
      refine rd_isiT2 upd_same tyx_int isi_int_tuple isi_int_list ?_
      walk_at "go"
      refine iteF ?_
      walk_at "go"
      refine rd_isi tyx_int isi_int_bool ?_
      walk_at "go"
      refine rd_isi tyx_int isi_int_bool ?_
      walk_at "go"
      refine rd_T rfl ?_
      walk_at "go"
      refine rd_isi tyx_int isi_int_int ?_
      walk_at "go"
      refine rd_isi tyx_int isi_int_int ?_
      walk_at "go"
      refine rd_T rfl ?_
      walk_at "go"
      have kk := k _ (Fr.new (o := .tup [.ty "tuple", .ty "list"]) hp)
      simpa using kk
    · walk_at "go"
      refine ⟨by show 2 ≤ sizeLine; decide, fun p hp => ?_⟩
      walk_at "go"
      refine rd_isiT2 upd_same (.base (.str _)) isi_str_tuple isi_str_list ?_
      walk_at "go"
      refine iteF ?_
      walk_at "go"
      refine rd_isi (.base (.str _)) isi_str_bool ?_
      walk_at "go"
      refine rd_isi (.base (.str _)) isi_str_bool ?_
      walk_at "go"
      refine rd_T rfl ?_
      walk_at "go"
      refine rd_isi (.base (.str _)) isi_str_int ?_
      walk_at "go"
      refine rd_isi (.base (.str _)) isi_str_int ?_
      walk_at "go"
      refine rd_T rfl ?_
      walk_at "go"
      have kk := k _ (Fr.new (o := .tup [.ty "tuple", .ty "list"]) hp)
      simpa using kk
    · obtain ⟨Ty, b1, b2, tya, tyb, k1, k2, k3⟩ : ∃ (Ty : String) (b1 b2 : Bool), (∀ H', Fr [] H H' → TyX K H' (.ref a) (.type Ty)) ∧ (∀ H', Fr [] H H' → TyX K H' (.ref b) (.type Ty)) ∧ kitB Ty "tuple" = some b1 ∧ kitB Ty "list" = some b2 ∧ (b1 || b2) = true := by
        rcases hab with ⟨ha, hb⟩ | ⟨ha, hb⟩
        · exact ⟨"list", false, true, fun H' f => .base (.lst (f.at ha (by simp))), fun H' f => .base (.lst (f.at hb (by simp))), isi_list_tuple, isi_list_list, rfl⟩
        · exact ⟨"tuple", true, false, fun H' f => .base (.tup (f.at ha (by simp))), fun H' f => .base (.tup (f.at hb (by simp))), isi_tup_tup, isi_tup_list, rfl⟩
      have hlen : ∀ {H'} {Q' : VK} {c : Addr} {zs : List V}, Fr [] H H' → ((H c = some (.lst zs)) ∨ (H c = some (.tup zs))) → Q' (.int zs.length) H' → rLen1 K [.ref c] H' Q' := fun f h q => by
        rcases h with h | h
        · exact rd_lenL (SqL.of (f.at h (by simp))) q
        · exact rd_lenT (SqT.of (f.at h (by simp))) q
      have hix : ∀ {H'} {Q' : VK} {c : Addr} {zs : List V} {i : Nat} {v : V}, Fr [] H H' → ((H c = some (.lst zs)) ∨ (H c = some (.tup zs))) → zs[i]? = some v → Q' v H' → rIx K (.ref c) (.int (0 + (i : Int))) H' Q' := fun f h e q => by
        rcases h with h | h
        · exact .inl ⟨_, _, _, _, rfl, rfl, SqL.of (f.at h (by simp)), at_of (by omega) e, q⟩
        · exact .inr (.inl ⟨_, _, _, _, rfl, rfl, SqT.of (f.at h (by simp)), at_of (by omega) e, q⟩)
      have ha : (H a = some (.lst xs)) ∨ (H a = some (.tup xs)) := hab.imp (·.1) (·.1)
      have hb : (H b = some (.lst ys)) ∨ (H b = some (.tup ys)) := hab.imp (·.2) (·.2)
      obtain rfl := hsp m hm
      walk_at "go"
      refine ⟨by show 2 ≤ sizeLine; decide, fun p hp => ?_⟩
      walk_at "go"
      refine rd_isiT2 upd_same (tyb _ (Fr.new hp)) k1 k2 ?_
      walk_at "go"
      rw [k3]
      refine iteT ?_
      walk_at "go"
      refine ⟨by show 2 ≤ sizeLine; decide, fun p2 hp2 => ?_⟩
      have f2 : Fr [] H (upd (upd H p (.tup [.ty "tuple", .ty "list"])) p2 (.tup [.ty "tuple", .ty "list"])) := (Fr.new hp).newN hp2
      walk_at "go"
      refine rd_isiT2 upd_same (tya _ f2) k1 k2 ?_
      walk_at "go"
      rw [k3]
      refine rd_nT ?_
      generalize upd (upd H p (.tup [.ty "tuple", .ty "list"])) p2 (.tup [.ty "tuple", .ty "list"]) = H2 at *
      walk_at "go"
      refine rd_isi (tya _ f2) k2 ?_
      walk_at "go"
      refine rd_isi (tyb _ f2) k2 ?_
      walk_at "go"
      refine rd_nF' rfl ?_
      walk_at "go"
      refine hlen f2 ha ?_
      walk_at "go"
      refine hlen f2 hb ?_
      walk_at "go"
      refine rd_nF' (by rw [hl]) ?_
      walk_at "go"
      show iRng1 (tCons (tCB (rLen1 K) (tCons (tVar 1) tNil)) tNil) _ _ _
      walk_at "go"
      refine hlen f2 hb ?_
      walk_at "go"
      refine ⟨_, rfl, by omega, by omega, fun D hD => ?_⟩
      rw [Int.toNat_natCast]
      refine lc_range (lo := 0) (n := ys.length) (fun i H3 => H3 D = some (.lst []) ∧ Fr [] H H3) ⟨upd_same, f2.newN hD⟩ ?_ ?_
      · rintro i H3 hi ⟨e3, f3⟩
        walk_at "go"
        refine ⟨rfl, ?_⟩
        walk_at "go"
        refine hix f3 ha (List.getElem?_eq_getElem (hl ▸ hi)) ?_
        walk_at "go"
        refine hix f3 hb (List.getElem?_eq_getElem hi) ?_
        walk_at "go"
        refine ⟨_, _, rfl, (he i _ _ (List.getElem?_eq_getElem (hl ▸ hi)) (List.getElem?_eq_getElem hi)).fr f3, fun H4 f4 => ?_⟩
        walk_at "go"
        exact ⟨f4.at e3 (by simp), f3.tr f4⟩
      · rintro H3 ⟨e3, f3⟩
        walk_at "go"
        refine ⟨Nat.zero_le _, fun q hq => ?_⟩
        refine ⟨.list [], .list [], .lst (SqL.of (upd_keep e3 hq)) .nil, .lst (SqL.of upd_same) .nil, by decide +kernel, by decide +kernel, ?_⟩
        exact k _ (f3.newN hq)
theorem sames (T : Txt K mg) {f : Addr} {fd : FuncData} (F : FnP K "_law_same" "_law_same" s__law_same f fd) (g : mg "_law_same" = some (.ref f)) : ∀ n, Cal P w K mg base CX0 (n + 2) "_law_same" ["_law_found", "_law_due"] (spSame n) := by
  intro n
  induction n with
  | zero =>
    have G0 : Cal P w K mg base CX0 1 "_law_same" ["_law_found", "_law_due"] (fun _ _ _ _ => False) := cal_of F g (ok0 F sc__law_same (fun vs H Q E h => h.elim) fun cdv A outer s H vs Q E hr h => h.elim) fun _ _ _ _ _ _ us hl => match us, hl with | [_, _], _ => rfl
    exact cal_of F g (ok_law_same T F _ (fun m e => by cases e) G0) fun _ _ _ _ _ _ us hl => match us, hl with | [_, _], _ => rfl
  | succ n ih => exact cal_of F g (ok_law_same T F _ (fun m e => by cases e; rfl) ih) fun _ _ _ _ _ _ us hl => match us, hl with | [_, _], _ => rfl
end
end Dc

set_option Elab.async false
set_option linter.all false
set_option maxRecDepth 100000
set_option maxHeartbeats 2000000
namespace Dc
open PySem PySem.Spec PyProof.Rows L2
local macro_rules | `(tactic| walk_at "ne") => `(tactic| first | assumption | (refine Ne.symm ?_; assumption) | exact ne_of (by assumption) (by assumption) (by intro q; cases q) | exact ne_of_none (by assumption) (by assumption) | exact Ne.symm (ne_of_none (by assumption) (by assumption)))
local macro_rules | `(tactic| walk_at "hp") => `(tactic| first | assumption | exact upd_same | (refine upd_keep ?_ (by assumption); walk_at "hp") | (refine upd_other ?_ ?_; · walk_at "ne"; · walk_at "hp"))
local macro_rules | `(tactic| walk_at "hl") => `(tactic| first | assumption | exact SqL.of (by walk_at "hp"))
local macro_rules | `(tactic| walk_at "ht") => `(tactic| first | assumption | exact SqT.of (by walk_at "hp"))
local macro_rules | `(tactic| walk_at "rd1") => `(tactic| first
  | ((with_reducible apply rd_var); exact rfl)
  | ((with_reducible apply rd_eq); exact rfl) | ((with_reducible apply rd_ne); exact rfl)
  | with_reducible first
  | refine iteT ?_ | refine iteF ?_ | refine rd_nF ?_ | refine rd_nT ?_ | refine rd_yes ?_ | refine rd_c ?_ | refine rd_op ?_ | refine rd_un ?_ | refine rd_test ?_ | refine rd_B ?_ | refine rd_bl ?_ | refine rd_seq ?_ | refine rd_next ?_ | refine rd_ifs ?_ | refine rd_asg ?_ | refine rd_name ?_ | refine rd_ret ?_ | refine rd_drop ?_
  | refine rd_call ?_ | refine rd_cons ?_ | refine rd_nil ?_ | refine rd_cb ?_ | refine rd_I0 ?_ | refine rd_U ?_ | refine rd_gsub ?_ | refine rd_lst ?_ | refine rd_tup ?_ | refine rd_if ?_ | refine rd_not ?_ | refine rd_rng1 ?_ | refine rd_itup ?_ | refine rd_ilst ?_ | refine rd_bm ?_ | refine rd_bm0 ?_ | refine rd_andV ?_ | refine rd_orV ?_ | refine rd_notV ?_)
local macro_rules | `(tactic| walk_at "rd") => `(tactic| repeat walk_at "rd1")
local macro_rules | `(tactic| walk_at "ci") => `(tactic| first | assumption | (show (0 : Int) < _; first | decide | omega) | exact ⟨by decide, by decide⟩ | exact Or.inr ⟨by decide, by decide⟩ | exact Or.inl ⟨by decide, by decide⟩ | exact ⟨by decide, by decide, by decide⟩ | exact Or.inl ⟨by omega, by omega⟩ | exact Or.inr ⟨by omega, by omega⟩)
local macro_rules | `(tactic| walk_at "ix") => `(tactic| first
  | ((with_reducible apply rd_ixL); (walk_at "hl"); exact rfl)
  | ((with_reducible apply rd_ixT); (walk_at "ht"); exact rfl)
  | ((with_reducible apply rd_lenL); (walk_at "hl"))
  | ((with_reducible apply rd_lenT); (walk_at "ht"))
  | ((with_reducible apply rd_tupOf); (walk_at "hl"))
  | ((with_reducible apply rd_listOf); (walk_at "hl"))
  | (with_reducible refine rd_min2 ?_)
  | ((with_reducible apply rd_I); (walk_at "ci"))
  | ((with_reducible apply rd_setL); (walk_at "hp"); exact rfl))
local macro_rules | `(tactic| walk_at "gs") => `(tactic| repeat first | walk_at "rd1" | walk_at "ix")
local macro_rules | `(tactic| walk_at "go") => `(tactic| repeat first | walk_at "rd1" | walk_at "ix" | with_reducible refine rd_and ?_ | with_reducible refine rd_or ?_)
local macro_rules | `(tactic| walk_at "fo") => `(tactic| (with_reducible refine rd_for ?_))
local macro_rules | `(tactic| walk_at "pm") => `(tactic| repeat first
  | with_reducible first | refine rd_pcons ?_ | refine rd_pstr ?_ | refine rd_pcap ?_ | refine rd_pwild ?_ | refine rd_pnil ?_ | refine rd_por ?_ | refine rd_pno ?_
  | ((with_reducible refine rd_eq rfl ?_); refine ⟨_, rfl, ?_⟩; first | refine rd_T rfl ?_ | refine rd_F (by decide) ?_)
  | dsimp only [List.nil_append, List.singleton_append, List.cons_append, setAll])
local macro_rules | `(tactic| walk_at "pc") => `(tactic| (refine rd_case ?_); (first | (refine rd_phit (SqT.of (by assumption)) rfl ?_) | (refine rd_pmiss (SqT.of (by assumption)) (by simp) ?_)); (walk_at "pm"))

theorem nd_alive : ∀ c : Ch, c.nd.alive ≤ c.ns
  | .mkr _ => Nat.le_refl _
  | .st c k => by have := nd_alive c; show ow0.al + c.nd.alive ≤ c.ns + 1; have : ow0.al = 1 := rfl; omega
  | .both c o => by have := nd_alive c; have := nd_alive o; show ow0.al + c.nd.alive + o.nd.alive ≤ c.ns + o.ns + 1; have : ow0.al = 1 := rfl; omega
  | .thn c o => by have := nd_alive c; have := nd_alive o; show ow0.al + c.nd.alive + o.nd.alive ≤ c.ns + o.ns + 1; have : ow0.al = 1 := rfl; omega
theorem nd_dep : ∀ c : Ch, c.nd.dep ≤ c.ns
  | .mkr _ => Nat.le_refl _
  | .st c k => by have := nd_dep c; show c.nd.dep + 1 ≤ c.ns + 1; omega
  | .both c o => by have := nd_dep c; have := nd_dep o; show max c.nd.dep o.nd.dep + 1 ≤ c.ns + o.ns + 1; omega
  | .thn c o => by have := nd_dep c; have := nd_dep o; show max c.nd.dep o.nd.dep + 1 ≤ c.ns + o.ns + 1; omega
theorem nd_le : ∀ c : Ch, c.nd.le 0
  | .mkr _ => Nat.le_refl _
  | .st c k => nd_le c
  | .both c o => ⟨nd_le c, nd_le o⟩
  | .thn c o => ⟨nd_le c, nd_le o⟩
/-- both tell the same next -/
theorem next_both {x : Nd} {lost : List Int} {b1 b2 B : Nat} {s : Bool} {bs : List Int} (hi : x.inv) (hd : x.dep ≤ 12) (ha : lost.length + x.alive ≤ 1000) (hl : x.le B) :
    ∃ (r : Rs) (x' : Nd) (lost' : List Int) (s' : Bool) (bs' : List Int) (b1' b2' : Nat), NextR x ⟨b1, lost⟩ s bs r x' ⟨b1', lost'⟩ s' bs' ∧ NextR x ⟨b2, lost⟩ s bs r x' ⟨b2', lost'⟩ s' bs' ∧
      x'.inv ∧ x'.dep ≤ 12 ∧ lost'.length + x'.alive ≤ 1000 ∧ x'.le (B + 200) ∧ x'.gv.length = x.gv.length ∧ bs'.length ≤ bs.length ∧ (s = true → s' = true) := by
  rcases List.eq_nil_or_concat bs with rfl | ⟨b, v, eb⟩
  · cases s with
    | true => exact ⟨.long, x, lost, true, [], b1, b2, .inr (.inl ⟨rfl, rfl, rfl, rfl, rfl, rfl, rfl⟩), .inr (.inl ⟨rfl, rfl, rfl, rfl, rfl, rfl, rfl⟩), hi, hd, ha, Nd.le.mono (Nat.le_add_right _ _) hl, rfl, Nat.le_refl _, id⟩
    | false =>
      obtain ⟨f, ⟨r, x', ⟨b', l'⟩⟩, h⟩ := draw_total (m := ⟨0, lost⟩) hi (Nat.zero_le _)
      have F := draw_facts _ _ _ _ _ _ h hi (Nat.zero_le _)
      have L := draw_lost _ _ _ _ _ _ h
      refine ⟨r, x', l', r.isLong, [], b', b', .inr (.inr ⟨rfl, rfl, ⟨f, h⟩, rfl, rfl⟩), .inr (.inr ⟨rfl, rfl, ⟨f, h⟩, rfl, rfl⟩), F.inv, by rw [L.2]; exact hd, Nat.le_trans L.1 ha, Nd.le.mono ?_ (F.le B hl), F.gl, Nat.le_refl _, fun z => (by cases z)⟩
      have := F.b2
      show B + (b' - 0) ≤ B + 200
      have : b' ≤ 200 := this
      omega
  · rw [List.concat_eq_append] at eb
    subst eb
    exact ⟨.num v, x, lost, s, b, b1, b2, .inl ⟨b, v, rfl, rfl, rfl, rfl, rfl, rfl⟩, .inl ⟨b, v, rfl, rfl, rfl, rfl, rfl, rfl⟩, hi, hd, ha, Nd.le.mono (Nat.le_add_right _ _) hl, rfl, by simp, id⟩
section
variable {P : Program} {w : World} {K : PySem.W.Frag} {mg : Str → Option Value} {base : Heap} {J : Cls'} {S : List Addr} {H H' : Hp} {A : LS} {D : DrS} {c : Ch} {x : Nd} {m : Mt} {s : Bool} {bs : List Int} {own : OwnL}
theorem LDr.fr (G : LDr [] H A c x m s bs own) (f : Fr S H H') (n : ∀ b, b ∈ A.la :: A.ads own → b ∉ S) : LDr [] H' A c x m s bs own := by
  have no : ∀ {k : List L2.Key} {od : Addr}, valV own k = some (.ref od) → od ∉ S := fun {k od} e => n od (by simp [LS.ads, ods_val e])
  exact ⟨G.sep, G.la.fr f (fun b hb => n b (by simp only [List.mem_cons, List.not_mem_nil, or_false, LS.ads] at hb ⊢; rcases hb with z | z | z | z | z | z <;> simp [z])), G.ch.fr f, G.xc,
    G.nd.kept (K := fun _ => False) (fun k _ => ⟨rfl, fun od o e z => f.at z (no e)⟩) (fun _ _ z => z), G.ok.fr f (fun e z => no e), G.sz⟩
theorem DrAt.fr (G : DrAt J H D x m s bs) (f : Fr S H H') (n : ∀ b, b ∈ D.lads s → b ∉ S) : DrAt J H' D x m s bs := by
  obtain ⟨⟨dx, e⟩, h1, h2, h3, h4, h5, h6⟩ := G
  refine ⟨⟨dx, f.at e (n _ (by simp [DrS.lads]))⟩, f.at h1 (n _ (by simp [DrS.lads])), h2.fr f (fun b hb => n b ?_), fun z => (h3 z).fr f (fun b hb => n b ?_), h4, h5, h6⟩
  · simp only [List.mem_cons, List.not_mem_nil, or_false] at hb
    cases s <;> rcases hb with z | z | z <;> simp [DrS.lads, z]
  · subst z
    simp [DrS.lads, hb]
theorem DrAt.dom (G : DrAt J H D x m s bs) : ∀ b, b ∈ D.lads s → H b ≠ none := by
  obtain ⟨⟨dx, e⟩, h1, ⟨⟨dm, e1⟩, e2, e3⟩, h3, h4, h5, h6⟩ := G
  intro b hb
  have hb2 : (s = false ∧ b ∈ D.t.ads) ∨ b = D.me ∨ b = D.cs ∨ b = D.lo ∨ b = D.da ∨ b = D.bk := by
    cases s with
    | true =>
      simp only [DrS.lads, if_true, List.mem_append, List.mem_cons, List.not_mem_nil, or_false] at hb
      rcases hb with (z | z | z) | z | z <;> simp [z]
    | false =>
      have hb : b ∈ (D.t.ads ++ [D.me, D.cs, D.lo]) ++ [D.da, D.bk] := hb
      simp only [List.mem_append, List.mem_cons, List.not_mem_nil, or_false] at hb
      rcases hb with (z | z | z | z) | z | z <;> simp [z]
  clear hb
  rcases hb2 with ⟨rfl, hb3⟩ | rfl | rfl | rfl | rfl | rfl
  · obtain ⟨C, d, fs, q⟩ := (h3 rfl).ins b hb3
    rw [q]; intro z; cases z
  · rw [e1]; intro z; cases z
  · rw [e2]; intro z; cases z
  · rw [e3]; intro z; cases z
  · rw [e]; intro z; cases z
  · rw [h1]; intro z; cases z
theorem LDr.dom (G : LDr [] H A c x m s bs own) : ∀ b, b ∈ A.la :: A.ads own → H b ≠ none := by
  intro b hb
  simp only [LS.ads, List.mem_cons] at hb
  rcases hb with z | z | z | z | z | z | z
  · rw [z, G.la.mkl]; intro z; cases z
  · rw [z, G.la.ob]; intro z; cases z
  · rw [z, G.la.lg]; intro z; cases z
  · rw [z, G.la.ll]; intro z; cases z
  · rw [z, G.la.lo]; intro z; cases z
  · rw [z, G.la.lb]; intro z; cases z
  · obtain ⟨o, q⟩ := G.ok.ods z
    rw [q]; intro z; cases z
theorem DrS.lads_sub {s s' : Bool} (h : s = true → s' = true) {b : Addr} (hb : b ∈ D.lads s') : b ∈ D.lads s := by
  cases s with
  | true => rw [h rfl] at hb; exact hb
  | false =>
    cases s' with
    | false => exact hb
    | true =>
      show b ∈ (D.t.ads ++ [D.me, D.cs, D.lo]) ++ [D.da, D.bk]
      simp only [DrS.lads, if_true, List.mem_append, List.mem_cons, List.not_mem_nil, or_false] at hb ⊢
      rcases hb with (z | z | z) | z | z <;> simp [z]
theorem DrS.bk_lads : D.bk ∈ D.lads s := by cases s <;> simp [DrS.lads]
/-- the program's drawer and the law's, side by side -/
structure Both (J : Cls') (K : PySem.W.Frag) (ns : List Int) (H : Hp) (sa sc : Addr) (c : Ch) (D : DrS) (A : LS) (x : Nd) (lost : List Int) (b1 b2 : Nat) (s : Bool) (bs : List Int) (own : OwnL) (B n : Nat) : Prop where
  sta : StAt K ns H sa sc
  dr : DrAt J H D x ⟨b1, lost⟩ s bs
  ld : LDr [] H A c x ⟨b2, lost⟩ s bs own
  a1 : ∀ b, b ∈ A.la :: A.ads own → b ∉ D.lads s
  a2 : sa ∉ D.lads s
  a3 : sa ∉ A.la :: A.ads own
  inv : x.inv
  dep : x.dep ≤ 12
  al : lost.length + x.alive ≤ 1000
  le : x.le B
  nm : x.gv.length ≤ 4
  bl : bs.length ≤ n
variable {ns : List Int} {sa sc : Addr} {lost : List Int} {b1 b2 B n : Nat}
/-- all that it may change -/
def alls (D : DrS) (A : LS) (s : Bool) (own : OwnL) : List Addr := D.lads s ++ (A.la :: A.ads own)
theorem Both.domA (G : Both J K ns H sa sc c D A x lost b1 b2 s bs own B n) : ∀ b, b ∈ alls D A s own → H b ≠ none := fun b hb =>
  (List.mem_append.mp hb).elim (G.dr.dom b) (G.ld.dom b)
theorem Both.frA (G : Both J K ns H sa sc c D A x lost b1 b2 s bs own B n) (f : Fr S H H') (S' : StAt K ns H' sa sc) (nn : ∀ b, b ∈ alls D A s own → b ∉ S) : Both J K ns H' sa sc c D A x lost b1 b2 s bs own B n :=
  ⟨S', G.dr.fr f (fun b hb => nn b (List.mem_append_left _ hb)), G.ld.fr f (fun b hb => nn b (List.mem_append_right _ hb)), G.a1, G.a2, G.a3, G.inv, G.dep, G.al, G.le, G.nm, G.bl⟩
theorem Both.fr (G : Both J K ns H sa sc c D A x lost b1 b2 s bs own B n) (f : Fr [sa] H H') (S' : StAt K ns H' sa sc) : Both J K ns H' sa sc c D A x lost b1 b2 s bs own B n :=
  G.frA f S' fun b hb z => (List.mem_append.mp hb).elim (fun y => G.a2 (List.mem_singleton.mp z ▸ y)) (fun y => G.a3 (List.mem_singleton.mp z ▸ y))
theorem Both.fr0 (G : Both J K ns H sa sc c D A x lost b1 b2 s bs own B n) (f : Fr [] H H') : Both J K ns H' sa sc c D A x lost b1 b2 s bs own B n :=
  G.fr (f.mono fun b hb => by cases hb) (G.sta.fr f (by simp))
/-- a number put back, of both -/
theorem Both.put {v : Int} {H1 : Hp} (G : Both J K ns H sa sc c D A x lost b1 b2 s bs own B n) (e1 : H1 = upd H A.lb (.lst ((bs ++ [v]).map V.int))) (dr : DrAt J H' D x ⟨b1, lost⟩ s (bs ++ [v])) (f : Fr [D.bk] H1 H') : Both J K ns H' sa sc c D A x lost b1 b2 s (bs ++ [v]) own B (n + 1) := by
  have f1 : Fr [A.lb] H H1 := e1 ▸ Fr.put (by simp) (nt G.ld.la.lb)
  have hb : D.bk ∈ D.lads s := DrS.bk_lads
  have l1 : LDr [] H1 A c x ⟨b2, lost⟩ s (bs ++ [v]) own := e1 ▸ G.ld.back
  have nlb : A.lb ∈ A.la :: A.ads own := by simp [LS.ads]
  have s1 := G.sta.fr f1 (fun z => G.a3 (List.mem_singleton.mp z ▸ nlb))
  have s2 := s1.fr f (fun z => G.a2 (List.mem_singleton.mp z ▸ hb))
  exact ⟨s2, dr, l1.fr f (fun b h z => G.a1 b h (List.mem_singleton.mp z ▸ hb)), G.a1, G.a2, G.a3, G.inv, G.dep, G.al, G.le, G.nm, by rw [List.length_append]; have := G.bl; simp; omega⟩
/-- the same, the program's first -/
theorem Both.put2 {v : Int} {H1 : Hp} (G : Both J K ns H sa sc c D A x lost b1 b2 s bs own B n) (dr : DrAt J H1 D x ⟨b1, lost⟩ s (bs ++ [v])) (f : Fr [D.bk] H H1) (e1 : H' = upd H1 A.lb (.lst ((bs ++ [v]).map V.int))) : Both J K ns H' sa sc c D A x lost b1 b2 s (bs ++ [v]) own B (n + 1) := by
  have hb : D.bk ∈ D.lads s := DrS.bk_lads
  have nlb : A.lb ∈ A.la :: A.ads own := by simp [LS.ads]
  have l0 : LDr [] H1 A c x ⟨b2, lost⟩ s bs own := G.ld.fr f (fun b h z => G.a1 b h (List.mem_singleton.mp z ▸ hb))
  have f1 : Fr [A.lb] H1 H' := e1 ▸ Fr.put (by simp) (nt l0.la.lb)
  have l1 : LDr [] H' A c x ⟨b2, lost⟩ s (bs ++ [v]) own := e1 ▸ l0.back
  have s1 := G.sta.fr f (fun z => G.a2 (List.mem_singleton.mp z ▸ hb))
  have s2 := s1.fr f1 (fun z => G.a3 (List.mem_singleton.mp z ▸ nlb))
  exact ⟨s2, dr.fr f1 (fun b h z => G.a1 _ nlb (List.mem_singleton.mp z ▸ h)), l1, G.a1, G.a2, G.a3, G.inv, G.dep, G.al, G.le, G.nm, by rw [List.length_append]; have := G.bl; simp; omega⟩
theorem ads_new {A : LS} {own own' : OwnL} {s : Bool} {H : Hp} (od : ∀ b, b ∈ ods own' → b ∈ ods own ∨ (s = false ∧ H b = none)) : ∀ b, b ∈ A.la :: A.ads own' → b ∈ A.la :: A.ads own ∨ H b = none := fun b hb => by
  simp only [LS.ads, List.mem_cons] at hb ⊢
  rcases hb with z | z | z | z | z | z | z
  · simp [z]
  · simp [z]
  · simp [z]
  · simp [z]
  · simp [z]
  · simp [z]
  · rcases od b z with y | y
    · exact .inl (by simp [y])
    · exact .inr y.2
/-- both have told the next -/
theorem Both.next {H1 : Hp} {x' : Nd} {lost' : List Int} {b1' b2' : Nat} {s' : Bool} {bs' : List Int} {own' : OwnL} (G : Both J K ns H sa sc c D A x lost b1 b2 s bs own B n)
    (l1 : LDr [] H1 A c x' ⟨b2', lost'⟩ s' bs' own') (od : ∀ b, b ∈ ods own' → b ∈ ods own ∨ (s = false ∧ H b = none)) (f1 : Fr (A.ads own) H H1) (dr : DrAt J H' D x' ⟨b1', lost'⟩ s' bs') (f : Fr (D.lads s) H1 H')
    (hi : x'.inv) (hd : x'.dep ≤ 12) (ha : lost'.length + x'.alive ≤ 1000) (hl : x'.le (B + 200)) (hg : x'.gv.length = x.gv.length) (hb : bs'.length ≤ bs.length) (hs : s = true → s' = true) :
    Both J K ns H' sa sc c D A x' lost' b1' b2' s' bs' own' (B + 200) n := by
  have s1 := G.sta.fr f1 (fun z => G.a3 (List.mem_cons_of_mem _ z))
  have s2 := s1.fr f G.a2
  have new := ads_new (A := A) od
  have a1' : ∀ b, b ∈ A.la :: A.ads own' → b ∉ D.lads s := fun b hb => by
    rcases new b hb with z | z
    · exact G.a1 b z
    · exact fun y => G.dr.dom b y z
  have a3' : sa ∉ A.la :: A.ads own' := fun hb => by
    rcases new _ hb with z | z
    · exact G.a3 z
    · obtain ⟨⟨_, _, _, q, _⟩, _⟩ := G.sta
      exact nocon z q
  exact ⟨s2, dr, l1.fr f a1', fun b hb y => a1' b hb (DrS.lads_sub hs y), fun y => G.a2 (DrS.lads_sub hs y), a3', hi, hd, ha, hl, hg ▸ G.nm, Nat.le_trans hb G.bl⟩
/-- the same, the program's first -/
theorem Both.next2 {H1 : Hp} {x' : Nd} {lost' : List Int} {b1' b2' : Nat} {s' : Bool} {bs' : List Int} {own' : OwnL} (G : Both J K ns H sa sc c D A x lost b1 b2 s bs own B n)
    (dr : DrAt J H1 D x' ⟨b1', lost'⟩ s' bs') (f : Fr (D.lads s) H H1) (l1 : LDr [] H' A c x' ⟨b2', lost'⟩ s' bs' own') (od : ∀ b, b ∈ ods own' → b ∈ ods own ∨ (s = false ∧ H1 b = none)) (f1 : Fr (A.ads own) H1 H')
    (hi : x'.inv) (hd : x'.dep ≤ 12) (ha : lost'.length + x'.alive ≤ 1000) (hl : x'.le (B + 200)) (hg : x'.gv.length = x.gv.length) (hb : bs'.length ≤ bs.length) (hs : s = true → s' = true) :
    Both J K ns H' sa sc c D A x' lost' b1' b2' s' bs' own' (B + 200) n := by
  have s1 := G.sta.fr f G.a2
  have s2 := s1.fr f1 (fun z => G.a3 (List.mem_cons_of_mem _ z))
  have new := ads_new (A := A) od
  have a1' : ∀ b, b ∈ A.la :: A.ads own' → b ∉ D.lads s' := fun b hb => by
    rcases new b hb with z | z
    · exact fun y => G.a1 b z (DrS.lads_sub hs y)
    · exact fun y => dr.dom b y z
  have a3' : sa ∉ A.la :: A.ads own' := fun hb => by
    rcases new _ hb with z | z
    · exact G.a3 z
    · obtain ⟨⟨_, _, _, q, _⟩, _⟩ := s1
      exact nocon z q
  exact ⟨s2, dr.fr f1 (fun b hb y => G.a1 b (List.mem_cons_of_mem _ y) (DrS.lads_sub hs hb)), l1, a1', fun y => G.a2 (DrS.lads_sub hs y), a3', hi, hd, ha, hl, hg ▸ G.nm, Nat.le_trans hb G.bl⟩
end
end Dc

set_option Elab.async false
set_option linter.all false
set_option maxRecDepth 100000
set_option maxHeartbeats 2000000
namespace Dc
open PySem PySem.Spec PyProof.Rows L2
/-- a def of the top, by its name -/
def FnM (K : PySem.W.Frag) (mg : Str → Option Value) (x : Str) (s : Stmt) : Prop := ∃ f fd, FnP K x x s f fd ∧ mg x = some (.ref f)
/-- a class made by its own __init__ -/
def IniM (K : PySem.W.Frag) (mg : Str → Option Value) (x : Str) (C : Addr) (qual : Str) (s : Stmt) : Prop := ∃ f fd, FnP K "__init__" qual s f fd ∧ Mk K C f ∧ mg x = some (.ref C)
/-- a stage, made by super().__init__ first -/
def SupM (P : Program) (K : PySem.W.Frag) (mg : Str → Option Value) (x : Str) (C f2 : Addr) (qual : Str) (s : Stmt) : Prop := ∃ f fd, SupTxt P K mg "__init__" qual (defArgs s) (defBody s) (defScope s) C f f2 fd ∧ Mk K C f ∧ mg x = some (.ref C)
structure ProgA (P : Program) (K : PySem.W.Frag) (mg : Str → Option Value) (J : Cls') : Prop where
  d : ProgD K mg J
  z : DrF K J
  xm : PySem.W.exmOne K (.ref J.long) (.ref J.long) = some true
  check_chain : FnM K mg "check_chain" s_check_chain
  is_chain : FnM K mg "is_chain" s_is_chain
  is_pair : FnM K mg "is_pair" s_is_pair
  is_maker : FnM K mg "is_maker" s_is_maker
  is_row : FnM K mg "is_row" s_is_row
  is_stage : FnM K mg "is_stage" s_is_stage
  has_chain : FnM K mg "has_chain" s_has_chain
  is_within : FnM K mg "is_within" s_is_within
  is_number : FnM K mg "is_number" s_is_number
  chain_end : FnM K mg "chain_end" s_chain_end
  maker_of : FnM K mg "maker_of" s_maker_of
  stage_behind : FnM K mg "stage_behind" s_stage_behind
  meter : IniM K mg "Meter" J.meter "Meter.__init__" s_Meter___init__
  count : IniM K mg "Count" J.count "Count.__init__" s_Count___init__
  row : IniM K mg "Row" J.row "Row.__init__" s_Row___init__
  drawer : IniM K mg "Drawer" J.drawer "Drawer.__init__" s_Drawer___init__
  next : MT K J.drawer "next" "next" "Drawer.next" s_Drawer_next
  drawn : MT K J.drawer "drawn" "drawn" "Drawer.drawn" s_Drawer_drawn
  stage : ∃ f2 fd2, FnP K "__init__" "Stage.__init__" s_Stage___init__ f2 fd2 ∧
    SupM P K mg "Reckon" J.reckon f2 "Reckon.__init__" s_Reckon___init__ ∧ SupM P K mg "Keep" J.keep f2 "Keep.__init__" s_Keep___init__ ∧ SupM P K mg "Drop" J.drop f2 "Drop.__init__" s_Drop___init__ ∧
    SupM P K mg "Take" J.take f2 "Take.__init__" s_Take___init__ ∧ SupM P K mg "Each" J.each f2 "Each.__init__" s_Each___init__ ∧ SupM P K mg "Until" J.until' f2 "Until.__init__" s_Until___init__ ∧
    SupM P K mg "Unlike" J.unlike f2 "Unlike.__init__" s_Unlike___init__ ∧ SupM P K mg "Both" J.both f2 "Both.__init__" s_Both___init__ ∧ SupM P K mg "Then" J.thn f2 "Then.__init__" s_Then___init__
section
variable {P : Program} {w : World} {K : PySem.W.Frag} {mg : Str → Option Value} {base : Heap} {J : Cls'}
theorem cali_of {k : Nat} {x : Str} {C : Addr} {qual : Str} {st : Stmt} {ps : List Str} {sp : Sp} (R : IniM K mg x C qual st) (ok : ∀ f fd, FnP K "__init__" qual st f fd → FnOk P w K mg base CX0 k f fd ps sp)
    (h : ∀ (kV doc pm : Value) (an : Option Addr) (cdv ct : Value) (us : List Value), us.length = ps.length → bindArgs (PySem.W.fnOf "__init__" qual (defArgs st) (defBody st) (defScope st) .none kV doc pm an cdv ct) ⟨us, []⟩ = pure (ps.zip us)) :
    CalI P w K mg base CX0 k x C ps sp := by
  obtain ⟨f, fd, F, M, g⟩ := R
  exact ⟨f, fd, ok f fd F, F.bindsN h, M, g⟩
theorem cals_of {k : Nat} {x : Str} {C f2 : Addr} {qual : Str} {st : Stmt} {ps : List Str} {sp : Sp} (R : SupM P K mg x C f2 qual st) (ok : ∀ f fd, SupTxt P K mg "__init__" qual (defArgs st) (defBody st) (defScope st) C f f2 fd → FnOk P w K mg base CX0 k f fd ps sp)
    (h : ∀ (kV doc pm : Value) (an : Option Addr) (cdv ct : Value) (cc : Addr) (us : List Value), us.length = ps.length → bindArgs (PySem.W.ksFn "__init__" qual (defArgs st) (defBody st) (defScope st) .none kV doc pm an cdv ct cc) ⟨us, []⟩ = pure (ps.zip us)) :
    CalI P w K mg base CX0 k x C ps sp := by
  obtain ⟨f, fd, S, M, g⟩ := R
  have S' := S
  obtain ⟨oc, od, kV, doc, pm, an, cda, cc, ct, osl, ccl, cdd, ws, ccs, file, tf, cl, cld, csl, cdD, e, _⟩ := S'.ex
  exact ⟨f, fd, ok f fd S, by rw [e]; exact .all (h kV doc pm an (.ref cda) ct cc), M, g⟩
/-- a good chain is let by -/
theorem checks (T : Txt K mg) (R : ProgA P K mg J) : Cal P w K mg base CX0 5 "check_chain" ["chain"] spCheck := by
  obtain ⟨f1, d1, F1, g1⟩ := R.is_number
  obtain ⟨f2, d2, F2, g2⟩ := R.is_within
  obtain ⟨f3, d3, F3, g3⟩ := R.is_row
  obtain ⟨f4, d4, F4, g4⟩ := R.is_maker
  obtain ⟨f5, d5, F5, g5⟩ := R.is_stage
  obtain ⟨f6, d6, F6, g6⟩ := R.has_chain
  obtain ⟨f7, d7, F7, g7⟩ := R.is_pair
  obtain ⟨f8, d8, F8, g8⟩ := R.is_chain
  obtain ⟨f9, d9, F9, g9⟩ := R.check_chain
  have G1 : Cal P w K mg base CX0 1 "is_number" ["number"] spIsNumber := cal_of F1 g1 (ok_is_number T F1) fun _ _ _ _ _ _ us hl => match us, hl with | [_], _ => rfl
  have G2 : Cal P w K mg base CX0 2 "is_within" ["number", "low", "high"] spIsWithin := cal_of F2 g2 (ok_is_within T F2 G1) fun _ _ _ _ _ _ us hl => match us, hl with | [_, _, _], _ => rfl
  have G3 : Cal P w K mg base CX0 2 "is_row" ["numbers"] spIsRow := cal_of F3 g3 (ok_is_row T F3 G1) fun _ _ _ _ _ _ us hl => match us, hl with | [_], _ => rfl
  have G4 : Cal P w K mg base CX0 3 "is_maker" ["maker"] spIsMaker := cal_of F4 g4 (ok_is_maker T F4 G1 G3) fun _ _ _ _ _ _ us hl => match us, hl with | [_], _ => rfl
  have G5 : Cal P w K mg base CX0 3 "is_stage" ["stage"] spIsStage := cal_of F5 g5 (ok_is_stage T F5 G1 G2) fun _ _ _ _ _ _ us hl => match us, hl with | [_], _ => rfl
  have G6 : Cal P w K mg base CX0 1 "has_chain" ["stage"] spHasChain := cal_of F6 g6 (ok_has_chain T F6) fun _ _ _ _ _ _ us hl => match us, hl with | [_], _ => rfl
  have G7 : Cal P w K mg base CX0 1 "is_pair" ["part"] spIsPair := cal_of F7 g7 (ok_is_pair T F7) fun _ _ _ _ _ _ us hl => match us, hl with | [_], _ => rfl
  have G8 : Cal P w K mg base CX0 4 "is_chain" ["chain"] spIsChain := cal_of F8 g8 (ok_is_chain T F8 G7 G4 G5 G6) fun _ _ _ _ _ _ us hl => match us, hl with | [_], _ => rfl
  exact cal_of F9 g9 (ok_check_chain T F9 G8) fun _ _ _ _ _ _ us hl => match us, hl with | [_], _ => rfl
/-- the drawer is made -/
theorem makes (T : Txt K mg) (R : ProgA P K mg J) : CalI P w K mg base CX0 14 "Drawer" J.drawer ["self", "chain"] (spDInit J) := by
  have N := R.d.node
  have M := R.d.met
  have Ge : CalM P w K mg base CX0 1 J.meter "enter" ["self"] (spEnter J) := calm_of R.d.enter M.c (fun f fd F => ok_Meter_enter T M F) fun _ _ _ _ _ _ us hl => match us, hl with | [_], _ => rfl
  have I_Meter : CalI P w K mg base CX0 1 "Meter" J.meter ["self"] (spMInit J) := cali_of R.meter (fun f fd F => ok_Meter___init__ T M F) fun _ _ _ _ _ _ us hl => match us, hl with | [_], _ => rfl
  have I_Count : CalI P w K mg base CX0 2 "Count" J.count ["self", "begin", "step", "meter"] (spCInit J) := cali_of R.count (fun f fd F => ok_Count___init__ T N F Ge) fun _ _ _ _ _ _ us hl => match us, hl with | [_, _, _, _], _ => rfl
  have I_Row : CalI P w K mg base CX0 2 "Row" J.row ["self", "numbers", "meter"] (spRInit J) := cali_of R.row (fun f fd F => ok_Row___init__ T N F Ge) fun _ _ _ _ _ _ us hl => match us, hl with | [_, _, _], _ => rfl
  obtain ⟨f2, fd2, F2, S1, S2, S3, S4, S5, S6, S7, S8, S9⟩ := R.stage
  have G2 : FnOk P w K mg base CX0 1 f2 fd2 ["self", "ahead"] (spSuper J) := ok_Stage___init__ T N F2
  have b2 : Binds K fd2 ["self", "ahead"] [] := F2.bindsN fun _ _ _ _ _ _ us hl => match us, hl with | [_, _], _ => rfl
  have I1 := cals_of S1 (fun f fd S => ok_Reckon___init__ (base := base) (w := w) T N S G2 b2) fun _ _ _ _ _ _ _ us hl => match us, hl with | [_, _, _, _], _ => rfl
  have I2 := cals_of S2 (fun f fd S => ok_Keep___init__ (base := base) (w := w) T N S G2 b2) fun _ _ _ _ _ _ _ us hl => match us, hl with | [_, _, _, _], _ => rfl
  have I3 := cals_of S3 (fun f fd S => ok_Drop___init__ (base := base) (w := w) T N S G2 b2) fun _ _ _ _ _ _ _ us hl => match us, hl with | [_, _, _], _ => rfl
  have I4 := cals_of S4 (fun f fd S => ok_Take___init__ (base := base) (w := w) T N S G2 b2) fun _ _ _ _ _ _ _ us hl => match us, hl with | [_, _, _], _ => rfl
  have I5 := cals_of S5 (fun f fd S => ok_Each___init__ (base := base) (w := w) T N S G2 b2) fun _ _ _ _ _ _ _ us hl => match us, hl with | [_, _, _], _ => rfl
  have I6 := cals_of S6 (fun f fd S => ok_Until___init__ (base := base) (w := w) T N S G2 b2) fun _ _ _ _ _ _ _ us hl => match us, hl with | [_, _, _, _], _ => rfl
  have I7 := cals_of S7 (fun f fd S => ok_Unlike___init__ (base := base) (w := w) T N S G2 b2) fun _ _ _ _ _ _ _ us hl => match us, hl with | [_, _], _ => rfl
  have I8 := cals_of S8 (fun f fd S => ok_Both___init__ (base := base) (w := w) T N S G2 b2) fun _ _ _ _ _ _ _ us hl => match us, hl with | [_, _, _, _], _ => rfl
  have I9 := cals_of S9 (fun f fd S => ok_Then___init__ (base := base) (w := w) T N S G2 b2) fun _ _ _ _ _ _ _ us hl => match us, hl with | [_, _, _], _ => rfl
  obtain ⟨fM, dM, FM, gM⟩ := R.maker_of
  obtain ⟨fB, dB, FB, gB⟩ := R.stage_behind
  obtain ⟨fE, dE, FE, gE⟩ := R.chain_end
  have GE := ends T FM FB FE gM gB gE I_Count I_Row I1 I2 I3 I4 I5 I6 I7 I8 I9 4
  exact cali_of R.drawer (fun f fd F => ok_Drawer___init__ T R.z F (checks T R) I_Meter GE) fun _ _ _ _ _ _ us hl => match us, hl with | [_, _], _ => rfl
theorem nexts (T : Txt K mg) (R : ProgA P K mg J) (d : Nat) : CalM P w K mg base CX0 (2 * d + 3) J.drawer "next" ["self"] (spNext J d) := by
  have Gb : CalM P w K mg base CX0 1 J.meter "begin_next" ["self"] (spBegin J) := calm_of R.d.begin_ R.d.met.c (fun f fd F => ok_Meter_begin_next T R.d.met F) fun _ _ _ _ _ _ us hl => match us, hl with | [_], _ => rfl
  exact calm_of R.next R.z.c (fun f fd F => ok_Drawer_next T R.z R.d.long R.xm F Gb (draws T R.d d)) fun _ _ _ _ _ _ us hl => match us, hl with | [_], _ => rfl
theorem drawns (T : Txt K mg) (R : ProgA P K mg J) : CalM P w K mg base CX0 1 J.drawer "drawn" ["self"] (spDrawnP J) := calm_of R.drawn R.z.c (fun f fd F => ok_Drawer_drawn T R.z R.d.met F) fun _ _ _ _ _ _ us hl => match us, hl with | [_], _ => rfl
end
end Dc

set_option Elab.async false
set_option linter.all false
set_option maxRecDepth 100000
set_option maxHeartbeats 2000000
namespace Dc
open PySem PySem.Spec PyProof.Rows L2
structure ProgU (K : PySem.W.Frag) (J : Cls') : Prop where
  undone : MT K J.drawer "undone" "undone" "Drawer.undone" s_Drawer_undone
section
variable {P : Program} {w : World} {K : PySem.W.Frag} {mg : Str → Option Value} {base : Heap} {J : Cls'}
theorem undones (T : Txt K mg) (R : ProgA P K mg J) (R' : ProgU K J) : CalM P w K mg base CX0 1 J.drawer "undone" ["self"] (spUndoneP J) := calm_of R'.undone R.z.c (fun f fd F => ok_Drawer_undone T R.z R.d.met F) fun _ _ _ _ _ _ us hl => match us, hl with | [_], _ => rfl
end
end Dc

set_option Elab.async false
set_option linter.all false
set_option maxRecDepth 100000
set_option maxHeartbeats 2000000
namespace Dc
open PySem PySem.Spec PyProof.Rows L2
local macro_rules | `(tactic| walk_at "ne") => `(tactic| first | assumption | (refine Ne.symm ?_; assumption) | exact ne_of (by assumption) (by assumption) (by intro q; cases q) | exact ne_of_none (by assumption) (by assumption) | exact Ne.symm (ne_of_none (by assumption) (by assumption)))
local macro_rules | `(tactic| walk_at "hp") => `(tactic| first | assumption | exact upd_same | (refine upd_keep ?_ (by assumption); walk_at "hp") | (refine upd_other ?_ ?_; · walk_at "ne"; · walk_at "hp"))
local macro_rules | `(tactic| walk_at "hl") => `(tactic| first | assumption | exact SqL.of (by walk_at "hp"))
local macro_rules | `(tactic| walk_at "ht") => `(tactic| first | assumption | exact SqT.of (by walk_at "hp"))
local macro_rules | `(tactic| walk_at "rd1") => `(tactic| first
  | ((with_reducible apply rd_var); exact rfl)
  | ((with_reducible apply rd_eq); exact rfl) | ((with_reducible apply rd_ne); exact rfl)
  | with_reducible first
  | refine iteT ?_ | refine iteF ?_ | refine rd_nF ?_ | refine rd_nT ?_ | refine rd_yes ?_ | refine rd_c ?_ | refine rd_op ?_ | refine rd_un ?_ | refine rd_test ?_ | refine rd_B ?_ | refine rd_bl ?_ | refine rd_seq ?_ | refine rd_next ?_ | refine rd_ifs ?_ | refine rd_asg ?_ | refine rd_name ?_ | refine rd_ret ?_ | refine rd_drop ?_
  | refine rd_call ?_ | refine rd_cons ?_ | refine rd_nil ?_ | refine rd_cb ?_ | refine rd_I0 ?_ | refine rd_U ?_ | refine rd_gsub ?_ | refine rd_lst ?_ | refine rd_tup ?_ | refine rd_if ?_ | refine rd_not ?_ | refine rd_rng1 ?_ | refine rd_itup ?_ | refine rd_ilst ?_ | refine rd_bm ?_ | refine rd_bm0 ?_ | refine rd_andV ?_ | refine rd_orV ?_ | refine rd_notV ?_)
local macro_rules | `(tactic| walk_at "rd") => `(tactic| repeat walk_at "rd1")
local macro_rules | `(tactic| walk_at "ci") => `(tactic| first | assumption | (show (0 : Int) < _; first | decide | omega) | exact ⟨by decide, by decide⟩ | exact Or.inr ⟨by decide, by decide⟩ | exact Or.inl ⟨by decide, by decide⟩ | exact ⟨by decide, by decide, by decide⟩ | exact Or.inl ⟨by omega, by omega⟩ | exact Or.inr ⟨by omega, by omega⟩)
local macro_rules | `(tactic| walk_at "ix") => `(tactic| first
  | ((with_reducible apply rd_ixL); (walk_at "hl"); exact rfl)
  | ((with_reducible apply rd_ixT); (walk_at "ht"); exact rfl)
  | ((with_reducible apply rd_lenL); (walk_at "hl"))
  | ((with_reducible apply rd_lenT); (walk_at "ht"))
  | ((with_reducible apply rd_tupOf); (walk_at "hl"))
  | ((with_reducible apply rd_listOf); (walk_at "hl"))
  | (with_reducible refine rd_min2 ?_)
  | ((with_reducible apply rd_I); (walk_at "ci"))
  | ((with_reducible apply rd_setL); (walk_at "hp"); exact rfl))
local macro_rules | `(tactic| walk_at "gs") => `(tactic| repeat first | walk_at "rd1" | walk_at "ix")
local macro_rules | `(tactic| walk_at "go") => `(tactic| repeat first | walk_at "rd1" | walk_at "ix" | with_reducible refine rd_and ?_ | with_reducible refine rd_or ?_)
local macro_rules | `(tactic| walk_at "fo") => `(tactic| (with_reducible refine rd_for ?_))
local macro_rules | `(tactic| walk_at "pm") => `(tactic| repeat first
  | with_reducible first | refine rd_pcons ?_ | refine rd_pstr ?_ | refine rd_pcap ?_ | refine rd_pwild ?_ | refine rd_pnil ?_ | refine rd_por ?_ | refine rd_pno ?_
  | ((with_reducible refine rd_eq rfl ?_); refine ⟨_, rfl, ?_⟩; first | refine rd_T rfl ?_ | refine rd_F (by decide) ?_)
  | dsimp only [List.nil_append, List.singleton_append, List.cons_append, setAll])
local macro_rules | `(tactic| walk_at "pc") => `(tactic| (refine rd_case ?_); (first | (refine rd_phit (SqT.of (by assumption)) rfl ?_) | (refine rd_pmiss (SqT.of (by assumption)) (by simp) ?_)); (walk_at "pm"))

/-- the numbers that so many next tell, one behind the other -/
structure PathN (c : Ch) (X : Nat → Nd) (L : Nat → List Int) (told : List Int) : Prop where
  x0 : X 0 = c.nd
  l0 : L 0 = []
  step : ∀ (i : Nat) (v : Int), told[i]? = some v → ∃ f b, draw f (X i) ⟨0, L i⟩ = some (.num v, X (i + 1), ⟨b, L (i + 1)⟩)
theorem rd_nT' {c A B : Prop} [Decidable c] (h : ¬ c) (h2 : A) : if (!decide c) = true then A else B := by rw [if_pos (by rw [decide_eq_false h]; decide)]; exact h2
def Rs.word : Rs → Str
  | .num _ => "number"
  | .fin => "end"
  | .long => "long"
/-- and how it ends -/
def FEnd (X : Nat → Nd) (L : Nat → List Int) (told : List Int) (many : Nat) (word : Str) (x1 : Nd) : Prop :=
  (told.length = many ∧ word = "more" ∧ x1 = X told.length) ∨
  (told.length < many ∧ ∃ f r b l1, draw f (X told.length) ⟨0, L told.length⟩ = some (r, x1, ⟨b, l1⟩) ∧ (∀ v, r ≠ .num v) ∧ word = r.word)
structure PInv (c : Ch) (x : Nd) (lost : List Int) (i : Nat) : Prop where
  inv : x.inv
  dep : x.dep ≤ 12
  al : lost.length + x.alive ≤ 1000
  le : x.le (200 * i)
  nm : x.gv.length ≤ 4
  ch : x.ch = c
theorem PInv.new {c : Ch} (ok : c.ok) (nm : c.nm ≤ 4) (ns : c.ns ≤ 12) : PInv c c.nd [] 0 := by
  have := nd_alive c
  have := nd_dep c
  exact ⟨Ch.nd_inv ok, by omega, by show 0 + c.nd.alive ≤ 1000; omega, nd_le c, by rw [nd_gv, List.length_replicate]; exact nm, nd_ch c⟩
theorem PInv.next {c : Ch} {x : Nd} {lost : List Int} {i : Nat} (P : PInv c x lost i) {f : Nat} {r : Rs} {x' : Nd} {b : Nat} {l' : List Int} (h : draw f x ⟨0, lost⟩ = some (r, x', ⟨b, l'⟩)) : PInv c x' l' (i + 1) := by
  have F := draw_facts _ _ _ _ _ _ h P.inv (Nat.zero_le _)
  have L := draw_lost _ _ _ _ _ _ h
  have S := draw_shp _ _ _ _ _ _ h
  refine ⟨F.inv, by rw [L.2]; exact P.dep, Nat.le_trans L.1 P.al, Nd.le.mono ?_ (F.le _ P.le), by rw [F.gl]; exact P.nm, S.ch.trans P.ch⟩
  have : b ≤ 200 := F.b2
  show 200 * i + (b - 0) ≤ 200 * (i + 1)
  omega
theorem PathN.at {c : Ch} {X : Nat → Nd} {L : Nat → List Int} {told : List Int} (G : PathN c X L told) (P0 : PInv c c.nd [] 0) : ∀ i, i ≤ told.length → PInv c (X i) (L i) i
  | 0, _ => by rw [G.x0, G.l0]; exact P0
  | i + 1, h => by
    obtain ⟨f, b, q⟩ := G.step i told[i] (List.getElem?_eq_getElem h)
    exact (PathN.at G P0 i (Nat.le_of_succ_le h)).next q
theorem PathN.snoc {c : Ch} {X : Nat → Nd} {L : Nat → List Int} {told : List Int} (G : PathN c X L told) {f : Nat} {v : Int} {x' : Nd} {b : Nat} {l' : List Int} (h : draw f (X told.length) ⟨0, L told.length⟩ = some (.num v, x', ⟨b, l'⟩)) :
    PathN c (fun j => if j ≤ told.length then X j else x') (fun j => if j ≤ told.length then L j else l') (told ++ [v]) := by
  refine ⟨by show (if 0 ≤ told.length then X 0 else x') = _; rw [if_pos (Nat.zero_le _)]; exact G.x0, by show (if 0 ≤ told.length then L 0 else l') = _; rw [if_pos (Nat.zero_le _)]; exact G.l0, fun i w e => ?_⟩
  rcases Nat.lt_or_ge i told.length with hi | hi
  · rw [List.getElem?_append_left hi] at e
    obtain ⟨f', b', q⟩ := G.step i w e
    refine ⟨f', b', ?_⟩
    show draw f' (if i ≤ told.length then X i else x') ⟨0, if i ≤ told.length then L i else l'⟩ = some (.num w, if i + 1 ≤ told.length then X (i + 1) else x', ⟨b', if i + 1 ≤ told.length then L (i + 1) else l'⟩)
    rw [if_pos (Nat.le_of_lt hi), if_pos (Nat.le_of_lt hi), if_pos (Nat.succ_le_of_lt hi), if_pos (Nat.succ_le_of_lt hi)]
    exact q
  · have hi2 : i = told.length := by
      have := (List.getElem?_eq_some_iff.mp e).1
      rw [List.length_append, List.length_singleton] at this
      omega
    subst hi2
    rw [List.getElem?_append_right (Nat.le_refl _), Nat.sub_self] at e
    cases e
    refine ⟨f, b, ?_⟩
    show draw f (if told.length ≤ told.length then X told.length else x') ⟨0, if told.length ≤ told.length then L told.length else l'⟩ = some (.num v, if told.length + 1 ≤ told.length then X (told.length + 1) else x', ⟨b, if told.length + 1 ≤ told.length then L (told.length + 1) else l'⟩)
    rw [if_pos (Nat.le_refl _), if_pos (Nat.le_refl _), if_neg (Nat.not_succ_le_self _), if_neg (Nat.not_succ_le_self _)]
    exact h
def spFirst : Sp := fun vs H Q _ => ∃ (p : Addr) (c : Ch) (X : Nat → Nd) (L : Nat → List Int) (told : List Int) (many : Nat) (word : Str) (x1 : Nd), vs = [.ref p, .int many] ∧ ChAt H p c ∧ c.ok ∧ c.nm ≤ 4 ∧ c.ns ≤ 12 ∧ many ≤ 1000 ∧ PathN c X L told ∧ FEnd X L told many word x1 ∧
  ∀ H' q a b, H' q = some (.tup [.ref a, .str word, .ref b]) → H' a = some (.lst (told.map V.int)) → H' b = some (.lst (x1.gv.map V.int)) → H a = none → H b = none → a ≠ b → Fr [] H H' → Q (.ref q) H'
theorem wexit {cc t B : Prop} [Decidable cc] (z : B) (ht : cc → B → t) : if decide cc = true then t else B := by
  by_cases h : cc
  · rw [if_pos (decide_eq_true h)]; exact ht h z
  · rw [if_neg (by rw [decide_eq_false h]; decide)]; exact z
theorem sm_triple {H : Hp} {a b : Addr} {x1 x2 x3 y1 y2 y3 : V} {n : Nat} (h1 : H a = some (.tup [x1, x2, x3])) (h2 : H b = some (.tup [y1, y2, y3])) (s1 : Sm n H x1 y1) (s2 : Sm n H x2 y2) (s3 : Sm n H x3 y3) : Sm (n + 1) H (.ref a) (.ref b) :=
  .inr ⟨a, b, _, _, rfl, rfl, .inr ⟨h1, h2⟩, rfl, by simp only [List.length_cons, List.length_nil]; omega, fun i x y e1 e2 => by
    match i, e1, e2 with
    | 0, e1, e2 => cases e1; cases e2; exact s1
    | 1, e1, e2 => cases e1; cases e2; exact s2
    | 2, e1, e2 => cases e1; cases e2; exact s3
    | i + 3, e1, e2 => cases e1⟩
theorem sm_str {H : Hp} {x : Str} {n : Nat} : Sm n H (.str x) (.str x) := by
  cases n with
  | zero => exact .inr ⟨x, rfl, rfl⟩
  | succ n => exact .inl (.inr ⟨x, rfl, rfl⟩)
section
variable {P : Program} {w : World} {K : PySem.W.Frag} {mg : Str → Option Value} {base : Heap} {J : Cls'}
theorem sc_first : FnScope ["chain", "many", "drawer", "told", "answer"] ["chain", "many"] (defScope s_first) := ⟨rfl, rfl, rfl, by decide +kernel, rfl, by decide +kernel, by decide +kernel⟩
theorem ok_first (T : Txt K mg) {f : Addr} {fd : FuncData} (F : FnP K "first" "first" s_first f fd) (G_is_within : Cal P w K mg base CX0 2 "is_within" ["number", "low", "high"] spIsWithin)
    (I_Drawer : CalI P w K mg base CX0 14 "Drawer" J.drawer ["self", "chain"] (spDInit J))
    (G_next : CalM P w K mg base CX0 27 J.drawer "next" ["self"] (spNext J 12))
    (G_drawn : CalM P w K mg base CX0 1 J.drawer "drawn" ["self"] (spDrawnP J)) :
    FnOk P w K mg base CX0 28 f fd ["chain", "many"] spFirst := by
  refine ok0 F sc_first (fun vs H Q E h => ?_) (fun cdv A outer s H vs Q E hr h => ?_)
  · obtain ⟨p, c, X, L, told, many, word, x1, rfl, _⟩ := h
    rfl
  · obtain ⟨p, c, X, L, told, many, word, x1, rfl, hc, cok, cnm, cns, hm, G, E1, k⟩ := h
    have P0 := PInv.new cok cnm cns
    refine ⟨_, (pss_cons (ps_set (i := 2) sc_first.nd rfl (Or.inl rfl) (pe_mk I_Drawer (hr.mono (by omega)) pass0 (pa_cons (pv 0) pa_nil)))
  (pss_cons (ps_if (pt_not (pt_val (pe_cal G_is_within (hr.mono (by omega)) pass0 (pa_cons (pv 1) (pa_cons pe_int (pa_cons (pe_cint T.c_ASKED_AT_MOST) pa_nil))))))
    (pss_one ps_dead) pss_nil)
  (pss_cons (ps_set (i := 3) sc_first.nd rfl (Or.inl rfl) (pe_lst pa_nil))
  (pss_cons (ps_while PassesOwn.never (pt_cmpR op_lt (pe_callB (call_len1K K) (by rfl) T.free_len (by decide +kernel) (pa_cons (pv 3) pa_nil)) (pv 1) (nomark _))
    (pss_cons (ps_set (i := 4) sc_first.nd rfl (Or.inl rfl) (pe_cm0 (pv 2) G_next (hr.mono (by omega)) pass0))
    (pss_cons (ps_if (pt_cmpR op_ne (pe_ix (ix_tupK K) (pv 4) pe_int (fun _ _ => rfl)) pe_str (nomark _))
      (pss_one (ps_ret (pe_tup (pa_cons (pv 3) (pa_cons (pe_ix (ix_tupK K) (pv 4) pe_int (fun _ _ => rfl)) (pa_cons (pe_cm0 (pv 2) G_drawn (hr.mono (by omega)) pass0) pa_nil)))))) pss_nil)
    (pss_one (ps_expr (pe_bm PySem.F.plainAttrs_list PySem.F.slot_list_append PySem.F.type_list_append mt_append (pv 3) (pa_cons (pe_ix (ix_tupK K) (pv 4) pe_int (fun _ _ => rfl)) pa_nil)))))))
  (pss_one (ps_ret (pe_tup (pa_cons (pv 3) (pa_cons pe_str (pa_cons (pe_cm0 (pv 2) G_drawn (hr.mono (by omega)) pass0) pa_nil)))))))))), ?_⟩
    try dsimp only [cxOf, Cx.nox, Cx.wish]
    refine rd_at (σ' := [some (.ref p), some (.int many), none, none, none]) rfl ?_
    walk_at "go"
    refine rd_make ?_
    walk_at "go"
    intro x dx hx hdx nd
    have hx' : upd H dx (.own x) x = none := by rw [upd_ne nd.symm]; exact hx
    have fm : Fr [] H (upd (upd H dx (.own x)) x (.ins J.drawer dx [])) := (Fr.new hdx).newN hx'
    refine ⟨x, dx, p, c, rfl, upd_same, hc.fr fm, cok, cnm, cns, fun H4 D hda dr dfr f4 => ⟨rfl, ?_⟩⟩
    subst hda
    have f04 : Fr [] H H4 := fm.trans f4 fun b hb => by rw [List.mem_singleton] at hb; rw [hb]; exact .inr hx
    have dn : ∀ b, b ∈ D.ads → H b = none := fun b hb => by
      rcases dfr b hb with z | z
      · rw [z]; exact hx
      · exact fm.free (by simp) z
    clear fm f4 dfr hx' hx hdx nd
    walk_at "go"
    refine ⟨many, 0, 1000, rfl, ⟨by omega, by omega⟩, by omega, by omega, ?_⟩
    walk_at "go"
    refine ⟨Nat.zero_le _, fun l hl => ?_⟩
    have f5 : Fr [] H4 (upd H4 l (.lst [])) := Fr.new hl
    have dr5 := dr.fr f5 (fun _ _ => by simp)
    have e5 : upd H4 l (.lst []) l = some (.lst []) := upd_same
    have nl : ∀ s, l ∉ D.lads s := fun s z => dr.dom l (DrS.lads_sub (fun y => by cases y) z) hl
    have hl0 : H l = none := f04.free (by simp) hl
    have dn0 : ∀ s b, b ∈ D.lads s → H b = none := fun s b hb => dn b (DrS.lads_sub (s := false) (fun y => by cases y) hb)
    have f05 := f04.tr f5
    generalize upd H4 l (.lst []) = H5 at *
    clear f04 f5 dr hl dn
    have hT : told.length ≤ many := by rcases E1 with ⟨z, _⟩ | ⟨z, _⟩ <;> omega
    have step : ∀ {H6 : Hp} {i b : Nat} {r : Rs} {f : Nat} {x' : Nd} {b' : Nat} {l' : List Int}, i ≤ told.length → DrAt J H6 D (X i) ⟨b, L i⟩ false [] → draw f (X i) ⟨0, L i⟩ = some (r, x', ⟨b', l'⟩) → ∀ (Qv : VK), (∀ H7 q, H7 q = some (.tup r.vals) → DrAt J H7 D x' ⟨b', l'⟩ r.isLong [] → Fr (D.lads false) H6 H7 → Qv (.ref q) H7) → spNext J 12 [.ref D.da] H6 Qv E0 := fun {H6 i b r f x' b' l'} hi dr h Qv q => by
      have P := G.at P0 i hi
      exact ⟨D, X i, ⟨b, L i⟩, false, [], r, x', ⟨b', l'⟩, r.isLong, [], rfl, dr, P.inv, P.dep, P.al, .inr (.inr ⟨rfl, rfl, ⟨f, h⟩, rfl, rfl⟩), q⟩
    walk_at "go"
    refine ⟨fun m σ H6 => ∃ (i b : Nat) (v4 : Option V), m = told.length - i ∧ i ≤ told.length ∧ σ = [some (.ref p), some (.int many), some (.ref D.da), some (.ref l), v4] ∧ H6 l = some (.lst ((told.take i).map V.int)) ∧ DrAt J H6 D (X i) ⟨b, L i⟩ false [] ∧ Fr [] H H6, ⟨_, 0, 200, none, rfl, Nat.zero_le _, rfl, e5, by rw [G.x0, G.l0]; exact dr5, f05⟩, ?_⟩
    clear dr5 e5 f05 H5
    rintro m σ H6 ⟨i, b, v4, rfl, hi, rfl, e6, dr6, f6⟩
    have hlen : ((told.take i).map V.int).length = i := by rw [List.length_map, List.length_take]; omega
    walk_at "go"
    rw [hlen]
    rcases Nat.lt_or_ge i told.length with hlt | hge
    · obtain ⟨f, b', h⟩ := G.step i told[i] (List.getElem?_eq_getElem hlt)
      refine rd_T (by omega) ?_
      refine ⟨fun σ' H7 => ∃ v4, σ' = [some (.ref p), some (.int many), some (.ref D.da), some (.ref l), v4] ∧ H7 l = some (.lst ((told.take (i + 1)).map V.int)) ∧ DrAt J H7 D (X (i + 1)) ⟨b', L (i + 1)⟩ false [] ∧ Fr [] H H7, fun σ' H7 ⟨v4, q1, q2, q3, q4⟩ => ⟨told.length - (i + 1), by omega, i + 1, b', v4, rfl, hlt, q1, q2, q3, q4⟩, ?_⟩
      walk_at "go"
      obtain ⟨dx, eo⟩ := dr6.ob
      refine rd_meth ?_
      walk_at "go"
      refine rd_m eo rfl ?_
      walk_at "go"
      refine step hi dr6 h _ fun H7 q eq dr7 f7 => ?_
      have e7 := f7.at e6 (nl _)
      have f07 := f6.trans f7 fun b hb => .inr (dn0 _ b hb)
      replace eq : H7 q = some (.tup [.str "number", .int told[i]]) := eq
      walk_at "go"
      refine rd_nF' rfl ?_
      walk_at "go"
      refine ⟨tyl e7, ?_⟩
      walk_at "go"
      refine rd_append e7 (by rw [hlen]; exact Nat.lt_of_le_of_lt (show i ≤ 1000 by omega) (by decide)) ?_
      walk_at "go"
      have fp : Fr [l] H7 (upd H7 l (.lst ((told.take i).map V.int ++ [.int told[i]]))) := Fr.put (by simp) (nt e7)
      refine ⟨_, rfl, ?_, dr7.fr fp (fun b hb z => nl _ (List.mem_singleton.mp z ▸ hb)), f07.trans fp fun b hb => .inr (by rw [List.mem_singleton] at hb; rw [hb]; exact hl0)⟩
      rw [upd_same, show told.take (i + 1) = told.take i ++ [told[i]] by rw [List.take_succ, List.getElem?_eq_getElem hlt]; rfl, List.map_append]
      rfl
    · have hie : i = told.length := by omega
      subst hie
      rw [List.take_length] at e6
      rcases E1 with ⟨z1, rfl, rfl⟩ | ⟨z1, f, r, b', l1, h, hr', rfl⟩
      · refine rd_F (by omega) ?_
        walk_at "go"
        obtain ⟨dx, eo⟩ := dr6.ob
        refine rd_meth ?_
        walk_at "go"
        refine rd_m eo rfl ?_
        walk_at "go"
        refine ⟨D, _, _, _, _, rfl, dr6, fun H7 q7 e7 n7 dr7 f7 => ?_⟩
        walk_at "go"
        refine ⟨by show 3 ≤ sizeLine; decide, fun q hq => ?_⟩
        have fq : Fr [] H7 (upd H7 q (.tup [.ref l, .str "more", .ref q7])) := Fr.new hq
        exact k _ q l q7 upd_same (fq.at (f7.at e6 (by simp)) (by simp)) (fq.at e7 (by simp)) hl0 (f6.free (by simp) n7) (fun z => nocon n7 (z ▸ e6)) ((f6.tr f7).tr fq)
      · refine rd_T (by omega) ?_
        refine ⟨fun _ _ => False, fun _ _ z => z.elim, ?_⟩
        walk_at "go"
        obtain ⟨dx, eo⟩ := dr6.ob
        refine rd_meth ?_
        walk_at "go"
        refine rd_m eo rfl ?_
        walk_at "go"
        refine step (Nat.le_refl _) dr6 h _ fun H7 q eq dr7 f7 => ?_
        have e7 := f7.at e6 (nl _)
        have f07 := f6.trans f7 fun b hb => .inr (dn0 _ b hb)
        have e0 : atI r.vals 0 = some (.str r.word) := by cases r <;> rfl
        have ne : ¬ (V.str r.word = V.str "number") := by
          cases r with
          | num v => exact absurd rfl (hr' v)
          | fin => decide
          | long => decide
        walk_at "go"
        refine rd_ixT (SqT.of eq) e0 ?_
        walk_at "go"
        refine rd_nT' ne ?_
        walk_at "go"
        refine rd_ixT (SqT.of eq) e0 ?_
        walk_at "go"
        obtain ⟨dx, eo⟩ := dr7.ob
        refine rd_meth ?_
        walk_at "go"
        refine rd_m eo rfl ?_
        walk_at "go"
        refine ⟨D, _, _, _, _, rfl, dr7, fun H8 q8 e8 n8 dr8 f8 => ?_⟩
        walk_at "go"
        refine ⟨by show 3 ≤ sizeLine; decide, fun q9 hq => ?_⟩
        have fq : Fr [] H8 (upd H8 q9 (.tup [.ref l, .str r.word, .ref q8])) := Fr.new hq
        exact k _ q9 l q8 upd_same (fq.at (f8.at e7 (by simp)) (by simp)) (fq.at e8 (by simp)) hl0 (f07.free (by simp) n8) (fun z => nocon n8 (z ▸ e7)) ((f07.tr f8).tr fq)
end
end Dc

set_option Elab.async false
set_option linter.all false
set_option maxRecDepth 100000
set_option maxHeartbeats 2000000
namespace Dc
open PySem PySem.Spec PyProof.Rows L2
local macro_rules | `(tactic| walk_at "ne") => `(tactic| first | assumption | (refine Ne.symm ?_; assumption) | exact ne_of (by assumption) (by assumption) (by intro q; cases q) | exact ne_of_none (by assumption) (by assumption) | exact Ne.symm (ne_of_none (by assumption) (by assumption)))
local macro_rules | `(tactic| walk_at "hp") => `(tactic| first | assumption | exact upd_same | (refine upd_keep ?_ (by assumption); walk_at "hp") | (refine upd_other ?_ ?_; · walk_at "ne"; · walk_at "hp"))
local macro_rules | `(tactic| walk_at "hl") => `(tactic| first | assumption | exact SqL.of (by walk_at "hp"))
local macro_rules | `(tactic| walk_at "ht") => `(tactic| first | assumption | exact SqT.of (by walk_at "hp"))
local macro_rules | `(tactic| walk_at "rd1") => `(tactic| first
  | ((with_reducible apply rd_var); exact rfl)
  | ((with_reducible apply rd_eq); exact rfl) | ((with_reducible apply rd_ne); exact rfl)
  | with_reducible first
  | refine iteT ?_ | refine iteF ?_ | refine rd_nF ?_ | refine rd_nT ?_ | refine rd_yes ?_ | refine rd_c ?_ | refine rd_op ?_ | refine rd_un ?_ | refine rd_test ?_ | refine rd_B ?_ | refine rd_bl ?_ | refine rd_seq ?_ | refine rd_next ?_ | refine rd_ifs ?_ | refine rd_asg ?_ | refine rd_name ?_ | refine rd_ret ?_ | refine rd_drop ?_
  | refine rd_call ?_ | refine rd_cons ?_ | refine rd_nil ?_ | refine rd_cb ?_ | refine rd_I0 ?_ | refine rd_U ?_ | refine rd_gsub ?_ | refine rd_lst ?_ | refine rd_tup ?_ | refine rd_if ?_ | refine rd_not ?_ | refine rd_rng1 ?_ | refine rd_itup ?_ | refine rd_ilst ?_ | refine rd_bm ?_ | refine rd_bm0 ?_ | refine rd_andV ?_ | refine rd_orV ?_ | refine rd_notV ?_)
local macro_rules | `(tactic| walk_at "rd") => `(tactic| repeat walk_at "rd1")
local macro_rules | `(tactic| walk_at "ci") => `(tactic| first | assumption | (show (0 : Int) < _; first | decide | omega) | exact ⟨by decide, by decide⟩ | exact Or.inr ⟨by decide, by decide⟩ | exact Or.inl ⟨by decide, by decide⟩ | exact ⟨by decide, by decide, by decide⟩ | exact Or.inl ⟨by omega, by omega⟩ | exact Or.inr ⟨by omega, by omega⟩)
local macro_rules | `(tactic| walk_at "ix") => `(tactic| first
  | ((with_reducible apply rd_ixL); (walk_at "hl"); exact rfl)
  | ((with_reducible apply rd_ixT); (walk_at "ht"); exact rfl)
  | ((with_reducible apply rd_lenL); (walk_at "hl"))
  | ((with_reducible apply rd_lenT); (walk_at "ht"))
  | ((with_reducible apply rd_tupOf); (walk_at "hl"))
  | ((with_reducible apply rd_listOf); (walk_at "hl"))
  | (with_reducible refine rd_min2 ?_)
  | ((with_reducible apply rd_I); (walk_at "ci"))
  | ((with_reducible apply rd_setL); (walk_at "hp"); exact rfl))
local macro_rules | `(tactic| walk_at "gs") => `(tactic| repeat first | walk_at "rd1" | walk_at "ix")
local macro_rules | `(tactic| walk_at "go") => `(tactic| repeat first | walk_at "rd1" | walk_at "ix" | with_reducible refine rd_and ?_ | with_reducible refine rd_or ?_)
local macro_rules | `(tactic| walk_at "fo") => `(tactic| (with_reducible refine rd_for ?_))
local macro_rules | `(tactic| walk_at "pm") => `(tactic| repeat first
  | with_reducible first | refine rd_pcons ?_ | refine rd_pstr ?_ | refine rd_pcap ?_ | refine rd_pwild ?_ | refine rd_pnil ?_ | refine rd_por ?_ | refine rd_pno ?_
  | ((with_reducible refine rd_eq rfl ?_); refine ⟨_, rfl, ?_⟩; first | refine rd_T rfl ?_ | refine rd_F (by decide) ?_)
  | dsimp only [List.nil_append, List.singleton_append, List.cons_append, setAll])
local macro_rules | `(tactic| walk_at "pc") => `(tactic| (refine rd_case ?_); (first | (refine rd_phit (SqT.of (by assumption)) rfl ?_) | (refine rd_pmiss (SqT.of (by assumption)) (by simp) ?_)); (walk_at "pm"))

theorem ixN_nat {n j : Nat} (h : j < n) : ixN n (j : Int) = some j := by
  unfold ixN
  rw [if_pos (by omega)]
  simp [h]
theorem ixN_neg1 {n : Nat} (h : 0 < n) : ixN n (-1) = some (n - 1) := by
  unfold ixN
  rw [if_neg (by omega), if_pos (by omega)]
  congr 1
  omega
theorem ifs_coreN {t : TT} {s1 s2 : TS} {D : Ends} {σ : L2.St} {H : Hp} (Pp : L2.St → Hp → Prop) (core : ∀ σ' H', Pp σ' H' → D.nx σ' H') (h : ∀ nx' : L2.St → Hp → Prop, (∀ σ' H', Pp σ' H' → nx' σ' H') → tIfS t s1 s2 { D with nx := nx' } σ H) : tIfS t s1 s2 D σ H := h D.nx core
def spNear (K : PySem.W.Frag) (ns : List Int) : Sp := fun vs H Q _ => ∃ (a sc : Addr), vs = [.ref a] ∧ StAt K ns H a sc ∧
  ∀ (p : Addr) (c : Ch) (H' : Hp), ChAt H' p c → c.ok → c.nm ≤ 4 → c.ns ≤ 12 → StAt K ns H' a sc → Fr [a] H H' → Q (.ref p) H'
theorem none_updN {H : Hp} {p b : Addr} {o : HO} (h : upd H p o b = none) : b ≠ p ∧ H b = none := by
  have n : b ≠ p := fun z => by rw [z, upd_same] at h; cases h
  rw [upd_ne n] at h
  exact ⟨n, h⟩
theorem nocon0 {H : Hp} {b : Addr} {o : HO} (h : H b = none) (h' : H b = some o) : False := by rw [h] at h'; cases h'
theorem flat_rep (n : Nat) (x : Int) : (List.replicate n [V.int x]).flatten = (List.replicate n x).map V.int := by
  induction n with
  | zero => rfl
  | succ n ih => rw [List.replicate_succ, List.flatten_cons, ih, List.replicate_succ]; rfl
def SgsAt (H : Hp) : List Addr → List Sg → Prop
  | [], [] => True
  | x :: as, g :: gs => SgAt H x g ∧ SgsAt H as gs
  | _, _ => False
theorem SgsAt.fr {S : List Addr} {H H' : Hp} (f : Fr S H H') : ∀ {as : List Addr} {gs : List Sg}, SgsAt H as gs → SgsAt H' as gs
  | [], [], _ => trivial
  | x :: as, g :: gs, h => ⟨h.1.fr f, SgsAt.fr f h.2⟩
  | [], _ :: _, h => h.elim
  | _ :: _, [], h => h.elim
theorem SgsAt.len {H : Hp} : ∀ {as : List Addr} {gs : List Sg}, SgsAt H as gs → as.length = gs.length
  | [], [], _ => rfl
  | x :: as, g :: gs, h => congrArg (· + 1) (SgsAt.len h.2)
  | [], _ :: _, h => h.elim
  | _ :: _, [], h => h.elim
theorem sts_fold {H : Hp} {a : Addr} : ∀ {as : List Addr} {gs : List Sg} {c : Ch} {as0 : List Addr}, SgsAt H as gs → StsAt H c a as0 → StsAt H (gs.foldl Ch.snoc c) a (as0 ++ as)
  | [], [], c, as0, _, h => by rw [List.append_nil]; exact h
  | x :: as, g :: gs, c, as0, q, h => by
    have := sts_fold q.2 (h.snoc q.1)
    rw [List.append_assoc] at this
    exact this
  | [], _ :: _, _, _, h, _ => h.elim
  | _ :: _, [], _, _, h, _ => h.elim
theorem fold_ok : ∀ {gs : List Sg} {c : Ch}, c.ok → (∀ g ∈ gs, g.ok) → (gs.foldl Ch.snoc c).ok
  | [], _, h, _ => h
  | g :: gs, c, h, q => fold_ok (gs := gs) (Ch.snoc_ok h (q g (by simp))) fun g' h' => q g' (by simp [h'])
theorem fold_nm : ∀ (gs : List Sg) (c : Ch), (gs.foldl Ch.snoc c).nm = c.nm + (gs.map Sg.nm).sum
  | [], _ => rfl
  | g :: gs, c => by rw [List.foldl_cons, fold_nm gs, Ch.snoc_nm, List.map_cons, List.sum_cons, Nat.add_assoc]
theorem fold_ns : ∀ (gs : List Sg) (c : Ch), (gs.foldl Ch.snoc c).ns = c.ns + (gs.map fun g => g.ns + 1).sum
  | [], _ => rfl
  | g :: gs, c => by rw [List.foldl_cons, fold_ns gs, Ch.snoc_ns, List.map_cons, List.sum_cons]; omega
theorem len_sum : ∀ gs : List Sg, gs.length ≤ (gs.map fun g => g.ns + 1).sum
  | [] => Nat.le_refl _
  | g :: gs => by have := len_sum gs; rw [List.map_cons, List.sum_cons, List.length_cons]; omega
def WayAt (H : Hp) (wy : Addr) (gs : List Sg) : Prop := ∃ as : List Addr, H wy = some (.tup (as.map V.ref)) ∧ SgsAt H as gs
theorem WayAt.fr {S : List Addr} {H H' : Hp} {wy : Addr} {gs : List Sg} (h : WayAt H wy gs) (f : Fr S H H') : WayAt H' wy gs := let ⟨as, e, q⟩ := h; ⟨as, f.tp e, q.fr f⟩
/-- a row that is made, of sevens and eights -/
def RowA (H : Hp) (R : Addr) (r : List Int) : Prop := H R = some (.lst (r.map V.int)) ∧ r.length ≤ 100 ∧ ∀ x ∈ r, x = 7 ∨ x = 8
theorem RowA.fr {S : List Addr} {H H' : Hp} {R : Addr} {r : List Int} (h : RowA H R r) (f : Fr S H H') (n : R ∉ S) : RowA H' R r := ⟨f.at h.1 n, h.2⟩
theorem RowA.ok {H : Hp} {R : Addr} {r : List Int} (h : RowA H R r) : (Mkr.row r).ok := ⟨h.2.1, fun x hx => by unfold numOk; rcases h.2.2 x hx with z | z <;> subst z <;> omega⟩
theorem RowA.set {H : Hp} {R : Addr} {r : List Int} (h : RowA H R r) (j : Nat) {v : Int} (hv : v = 7 ∨ v = 8) : RowA (upd H R (.lst ((r.map V.int).set j (.int v)))) R (r.set j v) := by
  refine ⟨by rw [upd_same, ← List.map_set], by rw [List.length_set]; exact h.2.1, fun x hx => ?_⟩
  rcases List.mem_or_eq_of_mem_set hx with z | z
  · exact h.2.2 x z
  · rw [z]; exact hv
structure Near (K : PySem.W.Frag) (ns : List Int) (H0 H : Hp) (a sc l R0 R1 R2 : Addr) (r0 r1 r2 : List Int) : Prop where
  f : Fr [a] H0 H
  st : StAt K ns H a sc
  el : H l = some (.lst [.ref R0, .ref R1, .ref R2])
  q0 : RowA H R0 r0
  q1 : RowA H R1 r1
  q2 : RowA H R2 r2
  m0 : H0 R0 = none
  m1 : H0 R1 = none
  m2 : H0 R2 = none
  a0 : R0 ≠ a
  a1 : R1 ≠ a
  a2 : R2 ≠ a
  n01 : R0 ≠ R1
  n02 : R0 ≠ R2
  n12 : R1 ≠ R2
  nl0 : l ≠ R0
  nl1 : l ≠ R1
  nl2 : l ≠ R2
  nla : l ≠ a
section
variable {K : PySem.W.Frag} {ns : List Int} {H0 H H' : Hp} {a sc l R0 R1 R2 : Addr} {r0 r1 r2 : List Int}
theorem Near.fr (N : Near K ns H0 H a sc l R0 R1 R2 r0 r1 r2) (f : Fr [a] H H') (S : StAt K ns H' a sc) : Near K ns H0 H' a sc l R0 R1 R2 r0 r1 r2 :=
  { N with f := N.f.tr f, st := S, el := f.at N.el (by simpa using N.nla), q0 := N.q0.fr f (by simpa using N.a0), q1 := N.q1.fr f (by simpa using N.a1), q2 := N.q2.fr f (by simpa using N.a2) }
theorem Near.fr0 (N : Near K ns H0 H a sc l R0 R1 R2 r0 r1 r2) (f : Fr [] H H') : Near K ns H0 H' a sc l R0 R1 R2 r0 r1 r2 :=
  N.fr (f.mono fun b hb => by cases hb) (N.st.fr f (by simp))
theorem Near.set0 (N : Near K ns H0 H a sc l R0 R1 R2 r0 r1 r2) (j : Nat) {v : Int} (hv : v = 7 ∨ v = 8) : Near K ns H0 (upd H R0 (.lst ((r0.map V.int).set j (.int v)))) a sc l R0 R1 R2 (r0.set j v) r1 r2 := by
  have f : Fr [R0] H (upd H R0 (.lst ((r0.map V.int).set j (.int v)))) := Fr.put (by simp) (nt N.q0.1)
  exact { N with f := N.f.trans f (fun b hb => .inr (by rw [List.mem_singleton] at hb; rw [hb]; exact N.m0)), st := N.st.fr f (by simpa using N.a0.symm), el := f.at N.el (by simpa using N.nl0), q0 := N.q0.set j hv, q1 := N.q1.fr f (by simpa using N.n01.symm), q2 := N.q2.fr f (by simpa using N.n02.symm) }
theorem Near.set1 (N : Near K ns H0 H a sc l R0 R1 R2 r0 r1 r2) (j : Nat) {v : Int} (hv : v = 7 ∨ v = 8) : Near K ns H0 (upd H R1 (.lst ((r1.map V.int).set j (.int v)))) a sc l R0 R1 R2 r0 (r1.set j v) r2 := by
  have f : Fr [R1] H (upd H R1 (.lst ((r1.map V.int).set j (.int v)))) := Fr.put (by simp) (nt N.q1.1)
  exact { N with f := N.f.trans f (fun b hb => .inr (by rw [List.mem_singleton] at hb; rw [hb]; exact N.m1)), st := N.st.fr f (by simpa using N.a1.symm), el := f.at N.el (by simpa using N.nl1), q0 := N.q0.fr f (by simpa using N.n01), q1 := N.q1.set j hv, q2 := N.q2.fr f (by simpa using N.n12.symm) }
theorem Near.set2 (N : Near K ns H0 H a sc l R0 R1 R2 r0 r1 r2) (j : Nat) {v : Int} (hv : v = 7 ∨ v = 8) : Near K ns H0 (upd H R2 (.lst ((r2.map V.int).set j (.int v)))) a sc l R0 R1 R2 r0 r1 (r2.set j v) := by
  have f : Fr [R2] H (upd H R2 (.lst ((r2.map V.int).set j (.int v)))) := Fr.put (by simp) (nt N.q2.1)
  exact { N with f := N.f.trans f (fun b hb => .inr (by rw [List.mem_singleton] at hb; rw [hb]; exact N.m2)), st := N.st.fr f (by simpa using N.a2.symm), el := f.at N.el (by simpa using N.nl2), q0 := N.q0.fr f (by simpa using N.n02), q1 := N.q1.fr f (by simpa using N.n12), q2 := N.q2.set j hv }
theorem eqv_nil0 (bs : List Int) : PyData.eqv (.list (bs.map PyData.int)) (.list []) = bs.isEmpty := by cases bs <;> rfl
theorem ints_lay0 : ∀ bs : List Int, PyData.canLayAll0 (bs.map PyData.int) = true
  | [] => rfl
  | b :: bs => by show (PyData.canLay0 (.int b) && PyData.canLayAll0 (bs.map PyData.int)) = true; rw [ints_lay0 bs]; rfl
theorem ints_depth0 : ∀ bs : List Int, PyData.depthAll (bs.map PyData.int) ≤ 1
  | [] => by decide
  | b :: bs => by
    have := ints_depth0 bs
    simp only [List.map_cons, PyData.depthAll, PyData.depth]
    omega
theorem ints_shaped0 (bs : List Int) : SeqAt.shaped (.list (bs.map PyData.int)) = true := by
  unfold SeqAt.shaped
  rw [Bool.and_eq_true]
  refine ⟨ints_lay0 bs, decide_eq_true ?_⟩
  have := ints_depth0 bs
  simp only [PyData.depth]
  omega
theorem dp_ints0 {H : Hp} : ∀ bs : List Int, DpAll K H (bs.map V.int) (bs.map PyData.int)
  | [] => .nil
  | b :: bs => .cons (.int b) (dp_ints0 bs)
end
section
variable {P : Program} {w : World} {K : PySem.W.Frag} {mg : Str → Option Value} {base : Heap}
theorem sc__law_near : FnScope ["_law_state", "_law_total", "_law_one", "_law_other", "_law_rows", "_law_at", "_law_last", "_law_inner", "_law_ways"] ["_law_state"] (defScope s__law_near) := ⟨rfl, rfl, rfl, by decide +kernel, rfl, by decide +kernel, by decide +kernel⟩
theorem ok_law_near {f : Addr} {fd : FuncData} {ns : List Int} (T : Txt K mg) (F : FnP K "_law_near" "_law_near" s__law_near f fd)
    (G__law_drawn : Cal P w K mg base CX0 1 "_law_drawn" ["_law_state", "_law_many"] (spDrawn K ns)) : FnOk P w K mg base CX0 2 f fd ["_law_state"] (spNear K ns) := by
  refine ok0 F sc__law_near (fun vs H Q E h => ?_) (fun cdv A outer s H vs Q E hr h => ?_)
  · obtain ⟨a, sc, rfl, _⟩ := h
    rfl
  · obtain ⟨a, sc, rfl, S, k⟩ := h
    have hu64 := hr.units
    refine ⟨_, (pss_cons (ps_set (i := 1) sc__law_near.nd rfl (Or.inl rfl) (pe_op op_add pe_int (pe_cal G__law_drawn (hr.mono (by omega)) pass0 (pa_cons (pv 0) (pa_cons pe_int pa_nil)))))
  (pss_cons (ps_set (i := 2) sc__law_near.nd rfl (Or.inl rfl) (pe_op op_add pe_int (pe_cal G__law_drawn (hr.mono (by omega)) pass0 (pa_cons (pv 0) (pa_cons pe_int pa_nil)))))
  (pss_cons (ps_set (i := 3) sc__law_near.nd rfl (Or.inl rfl) (pe_callB (call_min2n rfl) (by rfl) T.free_min (by decide +kernel) (pa_cons pe_int (pa_cons (pe_op op_sub (pv 1) (pv 2)) pa_nil))))
  (pss_cons (ps_set (i := 4) sc__law_near.nd rfl (Or.inl rfl) (pe_lst (pa_cons (pe_op op_rep (pe_lst (pa_cons pe_int pa_nil)) (pv 2)) (pa_cons (pe_op op_rep (pe_lst (pa_cons pe_int pa_nil)) (pv 3)) (pa_cons (pe_op op_rep (pe_lst (pa_cons pe_int pa_nil)) (pe_op op_sub (pe_op op_sub (pv 1) (pv 2)) (pv 3))) pa_nil)))))
  (pss_cons (ps_set (i := 5) sc__law_near.nd rfl (Or.inl rfl) (pe_ix (ix_listK K) (pe_lst (pa_cons (pe_cal G__law_drawn (hr.mono (by omega)) pass0 (pa_cons (pv 0) (pa_cons (pv 2) pa_nil))) (pa_cons (pe_op op_sub (pv 2) pe_int) pa_nil))) (pe_cal G__law_drawn (hr.mono (by omega)) pass0 (pa_cons (pv 0) (pa_cons pe_int pa_nil))) (fun _ _ => rfl)))
  (pss_cons (ps_asg (pe_ix (ix_listK K) (pe_lst (pa_cons pe_int (pa_cons pe_int (pa_cons pe_int pa_nil)))) (pe_cal G__law_drawn (hr.mono (by omega)) pass0 (pa_cons (pv 0) (pa_cons pe_int pa_nil))) (fun _ _ => rfl)) (pg_sub (pe_ix (ix_listK K) (pv 4) pe_int (fun _ _ => rfl)) (pv 5) set_list))
  (pss_cons (ps_if (PW.pt (pw_and (pt_cmpR (op_neDK K hu64) (pe_ix (ix_listK K) (pv 4) pe_int (fun _ _ => rfl)) (pe_lst pa_nil) (nomark _)) (pw_and1 (pt_cmpR op_eq (pe_cal G__law_drawn (hr.mono (by omega)) pass0 (pa_cons (pv 0) (pa_cons pe_int pa_nil))) pe_int (nomark _)))))
    (pss_one (ps_asg pe_int (pg_sub (pe_ix (ix_listK K) (pv 4) pe_int (fun _ _ => rfl)) (pe_un un_neg pe_int) set_list)))
    (pss_one (ps_if (pt_cmpR op_eq (pe_cal G__law_drawn (hr.mono (by omega)) pass0 (pa_cons (pv 0) (pa_cons pe_int pa_nil))) pe_int (nomark _))
      (pss_one (ps_asg pe_int (pg_sub (pe_ix (ix_listK K) (pv 4) pe_int (fun _ _ => rfl)) (pe_un un_neg pe_int) set_list))) pss_nil)))
  (pss_cons (ps_set (i := 6) sc__law_near.nd rfl (Or.inl rfl) (pe_tup (pa_cons (pe_tup (pa_cons pe_str (pa_cons (pe_callTy (call_tupOfK K) (by rfl) T.free_tuple (by decide +kernel) (pa_cons (pe_ix (ix_listK K) (pv 4) pe_int (fun _ _ => rfl)) pa_nil)) pa_nil))) (pa_cons (pe_tup pa_nil) pa_nil))))
  (pss_cons (ps_if (pt_cmpR op_eq (pe_cal G__law_drawn (hr.mono (by omega)) pass0 (pa_cons (pv 0) (pa_cons pe_int pa_nil))) pe_int (nomark _))
    (pss_one (ps_set (i := 6) sc__law_near.nd rfl (Or.inl rfl) (pe_tup (pa_cons (pe_tup (pa_cons pe_str (pa_cons pe_int (pa_cons (pe_ix (ix_listK K) (pe_lst (pa_cons pe_int (pa_cons pe_int (pa_cons pe_int pa_nil)))) (pe_cal G__law_drawn (hr.mono (by omega)) pass0 (pa_cons (pv 0) (pa_cons pe_int pa_nil))) (fun _ _ => rfl)) pa_nil)))) (pa_cons (pe_tup pa_nil) pa_nil))))) pss_nil)
  (pss_cons (ps_set (i := 7) sc__law_near.nd rfl (Or.inl rfl) (pe_tup (pa_cons (pe_tup (pa_cons pe_str (pa_cons (pe_callTy (call_tupOfK K) (by rfl) T.free_tuple (by decide +kernel) (pa_cons (pe_ix (ix_listK K) (pv 4) pe_int (fun _ _ => rfl)) pa_nil)) pa_nil))) (pa_cons (pe_tup (pa_cons (pe_tup (pa_cons pe_str (pa_cons (pv 6) pa_nil))) pa_nil)) pa_nil))))
  (pss_cons (ps_set (i := 8) sc__law_near.nd rfl (Or.inl rfl) (pe_lst (pa_cons (pe_tup (pa_cons (pe_tup (pa_cons pe_str (pa_cons pe_int (pa_cons pe_int pa_nil)))) pa_nil)) (pa_cons (pe_tup (pa_cons (pe_tup (pa_cons pe_str pa_nil)) pa_nil)) (pa_cons (pe_tup (pa_cons (pe_tup (pa_cons pe_str (pa_cons pe_int pa_nil))) (pa_cons (pe_tup (pa_cons pe_str (pa_cons (pe_op op_add pe_int (pe_cal G__law_drawn (hr.mono (by omega)) pass0 (pa_cons (pv 0) (pa_cons pe_int pa_nil)))) pa_nil))) pa_nil))) (pa_cons (pe_tup (pa_cons (pe_tup (pa_cons pe_str (pa_cons pe_int pa_nil))) pa_nil)) pa_nil))))))
  (pss_cons (ps_set (i := 8) sc__law_near.nd rfl (Or.inl rfl) (pe_op op_cat (pv 8) (pe_lst (pa_cons (pe_tup (pa_cons (pe_tup (pa_cons pe_str pa_nil)) (pa_cons (pe_tup (pa_cons pe_str (pa_cons pe_int (pa_cons pe_int pa_nil)))) pa_nil))) (pa_cons (pe_tup (pa_cons (pe_tup (pa_cons pe_str (pa_cons pe_int (pa_cons pe_int pa_nil)))) (pa_cons (pe_tup (pa_cons pe_str (pa_cons pe_int pa_nil))) pa_nil))) (pa_cons (pe_tup (pa_cons (pe_tup (pa_cons pe_str (pa_cons pe_int pa_nil))) (pa_cons (pe_tup (pa_cons pe_str pa_nil)) pa_nil))) pa_nil))))))
  (pss_cons (ps_expr (pe_bm PySem.F.plainAttrs_list PySem.F.slot_list_append PySem.F.type_list_append mt_append (pv 8) (pa_cons (pe_tup (pa_cons (pe_tup (pa_cons pe_str (pa_cons pe_int (pa_cons pe_int pa_nil)))) (pa_cons (pe_tup (pa_cons pe_str (pa_cons (pe_tup (pa_cons (pe_tup (pa_cons pe_str (pa_cons pe_int (pa_cons pe_int pa_nil)))) (pa_cons (pe_tup pa_nil) pa_nil))) pa_nil))) pa_nil))) pa_nil)))
  (pss_one (ps_ret (pe_tup (pa_cons (pe_tup (pa_cons pe_str (pa_cons (pe_callTy (call_tupOfK K) (by rfl) T.free_tuple (by decide +kernel) (pa_cons (pe_ix (ix_listK K) (pv 4) pe_int (fun _ _ => rfl)) pa_nil)) pa_nil))) (pa_cons (pe_op (op_catTK K) (pe_tup (pa_cons (pe_tup (pa_cons pe_str (pa_cons (pv 7) pa_nil))) pa_nil)) (pe_ix (ix_listK K) (pv 8) (pe_cal G__law_drawn (hr.mono (by omega)) pass0 (pa_cons (pv 0) (pa_cons pe_int pa_nil))) (fun _ _ => rfl))) pa_nil)))))))))))))))))), ?_⟩
    try dsimp only [cxOf, Cx.nox, Cx.wish]
    refine rd_at (σ' := [some (.ref a), none, none, none, none, none, none, none, none]) rfl ?_
    walk_at "go"
    refine ⟨a, sc, 7, rfl, S, by decide, by decide, fun rt H1 t0 t1 S1 f1 => ?_⟩
    walk_at "go"
    refine ⟨a, sc, 4, rfl, S1, by decide, by decide, fun ro H2 o0 o1 S2 f2 => ?_⟩
    have f02 : Fr [a] H H2 := f1.tr f2
    clear f1 f2 S1 S
    walk_at "go"
    obtain ⟨tot, htot, tot0, tot1⟩ : ∃ n : Nat, 197 + rt = (n : Int) ∧ 197 ≤ n ∧ n ≤ 203 := ⟨(197 + rt).toNat, by omega, by omega, by omega⟩
    obtain ⟨one, hone, one0, one1⟩ : ∃ n : Nat, 97 + ro = (n : Int) ∧ 97 ≤ n ∧ n ≤ 100 := ⟨(97 + ro).toNat, by omega, by omega, by omega⟩
    rw [htot, hone]
    obtain ⟨oth, hoth, oth0, oth1⟩ : ∃ n : Nat, (if (tot : Int) - one < 100 then (tot : Int) - one else (100 : Int)) = (n : Int) ∧ 97 ≤ n ∧ n ≤ 100 := by
      refine ⟨(if (tot : Int) - one < 100 then (tot : Int) - one else (100 : Int)).toNat, ?_, ?_, ?_⟩ <;> split <;> omega
    rw [hoth]
    obtain ⟨rst, hrst, rst1⟩ : ∃ n : Nat, (tot : Int) - one - oth = (n : Int) ∧ n ≤ 6 := by
      refine ⟨((tot : Int) - one - oth).toNat, ?_, ?_⟩ <;> split at hoth <;> omega
    clear hoth hone htot t0 t1 o0 o1
    walk_at "go"
    have rep : ∀ (n : Nat) (H3 : Hp) (Qv : VK), n ≤ 100 → (∀ R H4, Fr [] H3 H4 → H3 R = none → RowA H4 R (List.replicate n 7) → Qv (.ref R) H4) → ∀ p, H3 p = none → rRep (.ref p) (.int n) (upd H3 p (.lst [.int 7])) Qv := fun n H3 Qv hn q p hp => by
      refine ⟨p, n, _, rfl, rfl, upd_same, by omega, by omega, by rw [Int.toNat_natCast]; show 1 * n ≤ sizeLine; rw [Nat.one_mul]; exact Nat.le_trans hn (by decide), fun R hR => ?_⟩
      refine q R _ ((Fr.new hp).newN hR) (none_updN hR).2 ⟨?_, by rw [List.length_replicate]; exact hn, fun x hx => .inl (List.eq_of_mem_replicate hx)⟩
      rw [upd_same, Int.toNat_natCast, flat_rep]
    refine ⟨by show 1 ≤ sizeLine; decide, fun p0 hp0 => ?_⟩
    walk_at "go"
    refine rep one H2 _ (by omega) (fun R0 H3 f3 n0 A0 => ?_) p0 hp0
    walk_at "go"
    refine ⟨by show 1 ≤ sizeLine; decide, fun p1 hp1 => ?_⟩
    walk_at "go"
    refine rep oth H3 _ (by omega) (fun R1 H4 f4 n1 A1 => ?_) p1 hp1
    walk_at "go"
    refine ⟨by show 1 ≤ sizeLine; decide, fun p2 hp2 => ?_⟩
    walk_at "go"
    rw [hrst]
    refine rep rst H4 _ (by omega) (fun R2 H5 f5 n2 A2 => ?_) p2 hp2
    walk_at "go"
    refine ⟨by show 3 ≤ sizeLine; decide, fun l hl => ?_⟩
    have n01 : R0 ≠ R1 := ne_of_none A0.1 n1
    have n02 : R0 ≠ R2 := ne_of_none (f4.at A0.1 (by simp)) n2
    have n12 : R1 ≠ R2 := ne_of_none A1.1 n2
    have f6 : Fr [] H5 (upd H5 l (.lst [.ref R0, .ref R1, .ref R2])) := Fr.new hl
    have A0' := ((A0.fr f4 (by simp)).fr f5 (by simp)).fr f6 (by simp)
    have A1' := (A1.fr f5 (by simp)).fr f6 (by simp)
    have A2' := A2.fr f6 (by simp)
    have el : upd H5 l (.lst [.ref R0, .ref R1, .ref R2]) l = some (.lst [.ref R0, .ref R1, .ref R2]) := upd_same
    have fH : Fr [a] H (upd H5 l (.lst [.ref R0, .ref R1, .ref R2])) := f02.tr ((((f3.tr f4).tr f5).tr f6).mono fun b hb => by cases hb)
    have S6 := S2.fr (((f3.tr f4).tr f5).tr f6) (by simp)
    have m0 : H R0 = none := f02.free (by
      obtain ⟨⟨_, _, _, q, _⟩, _⟩ := id S2
      simpa using (ne_of_none q n0).symm) n0
    have m1 : H R1 = none := (f02.tr (f3.mono fun b hb => by cases hb)).free (by
      obtain ⟨⟨_, _, _, q, _⟩, _⟩ := S2.fr f3 (by simp)
      simpa using (ne_of_none q n1).symm) n1
    have m2 : H R2 = none := (f02.tr ((f3.tr f4).mono fun b hb => by cases hb)).free (by
      obtain ⟨⟨_, _, _, q, _⟩, _⟩ := S2.fr (f3.tr f4) (by simp)
      simpa using (ne_of_none q n2).symm) n2
    have na0 : R0 ≠ a := fun z => by obtain ⟨⟨_, _, _, q, _⟩, _⟩ := id S2; exact nocon0 (z ▸ n0) q
    have na1 : R1 ≠ a := fun z => by obtain ⟨⟨_, _, _, q, _⟩, _⟩ := S2.fr f3 (by simp); exact nocon0 (z ▸ n1) q
    have na2 : R2 ≠ a := fun z => by obtain ⟨⟨_, _, _, q, _⟩, _⟩ := S2.fr (f3.tr f4) (by simp); exact nocon0 (z ▸ n2) q
    have nl0 : l ≠ R0 := (ne_of_none ((A0.fr f4 (by simp)).fr f5 (by simp)).1 hl).symm
    have nl1 : l ≠ R1 := (ne_of_none (A1.fr f5 (by simp)).1 hl).symm
    have nl2 : l ≠ R2 := (ne_of_none A2.1 hl).symm
    have nla : l ≠ a := fun z => by
      obtain ⟨⟨_, _, _, q, _⟩, _⟩ := id S6
      rw [← z, el] at q
      have := congrArg List.length (HO.lst.inj (Option.some.inj q))
      cases this
    have N : Near K ns H (upd H5 l (.lst [.ref R0, .ref R1, .ref R2])) a sc l R0 R1 R2 _ _ _ := ⟨fH, S6, el, A0', A1', A2', m0, m1, m2, na0, na1, na2, n01, n02, n12, nl0, nl1, nl2, nla⟩
    have len0 : (List.replicate one (7 : Int)).length = one := List.length_replicate
    have len1 : (List.replicate oth (7 : Int)).length = oth := List.length_replicate
    have len2 : (List.replicate rst (7 : Int)).length = rst := List.length_replicate
    generalize List.replicate one (7 : Int) = r0 at *
    generalize List.replicate oth (7 : Int) = r1 at *
    generalize List.replicate rst (7 : Int) = r2 at *
    generalize upd H5 l (.lst [.ref R0, .ref R1, .ref R2]) = H6 at *
    clear A0 A1 A2 f3 f4 f5 f6 n0 n1 n2 hl hp0 hp1 hp2 S2 f02 rep fH S6 el A0' A1' A2' m0 m1 m2 na0 na1 na2 n01 n02 n12 nl0 nl1 nl2 nla
    walk_at "go"
    refine ⟨a, sc, one, rfl, N.st, by omega, Nat.lt_of_le_of_lt (show (one : Int).natAbs ≤ 100 by omega) (by decide), fun ra H7 a0 a1 S7 f7 => ?_⟩
    replace N := N.fr f7 S7
    clear f7 S7
    walk_at "go"
    refine ⟨by show 2 ≤ sizeLine; decide, fun q hq => ?_⟩
    have nq : q ∉ [a] := fun z => by
      obtain ⟨⟨_, _, _, q5, _⟩, _⟩ := N.st
      rw [List.mem_singleton] at z
      exact nocon0 (z ▸ hq) q5
    have fq : Fr [] H7 (upd H7 q (.lst [.int ra, .int ((one : Int) - 1)])) := Fr.new hq
    replace N := N.fr0 fq
    walk_at "go"
    refine ⟨a, sc, 2, rfl, N.st, by decide, by decide, fun r H8 r0' r1' S8 f8 => ?_⟩
    replace N := N.fr f8 S8
    walk_at "go"
    obtain ⟨v, hv, ev⟩ := at_in (xs := [V.int ra, .int ((one : Int) - 1)]) (i := r) r0' r1'
    refine rd_ixL (SqL.of (f8.at upd_same nq)) ev ?_
    obtain ⟨at0, rfl, hat⟩ : ∃ j : Nat, v = .int (j : Int) ∧ j < one := by
      simp only [List.mem_cons, List.not_mem_nil, or_false] at hv
      rcases hv with rfl | rfl
      · exact ⟨ra.toNat, by rw [Int.toNat_of_nonneg a0], by omega⟩
      · exact ⟨one - 1, by rw [Int.ofNat_sub (by omega)]; rfl, by omega⟩
    clear hv ev S8 f8 fq nq hq a0 a1 r0' r1' r q
    walk_at "go"
    refine ⟨by show 3 ≤ sizeLine; decide, fun q hq => ?_⟩
    have nq : q ∉ [a] := fun z => by
      obtain ⟨⟨_, _, _, q5, _⟩, _⟩ := N.st
      rw [List.mem_singleton] at z
      exact nocon0 (z ▸ hq) q5
    have fq : Fr [] H8 (upd H8 q (.lst [.int 7, .int 8, .int 8])) := Fr.new hq
    replace N := N.fr0 fq
    walk_at "go"
    refine ⟨a, sc, 3, rfl, N.st, by decide, by decide, fun r H9 r0' r1' S9 f9 => ?_⟩
    replace N := N.fr f9 S9
    walk_at "go"
    obtain ⟨v, hv, ev⟩ := at_in (xs := [V.int 7, .int 8, .int 8]) (i := r) r0' r1'
    refine rd_ixL (SqL.of (f9.at upd_same nq)) ev ?_
    obtain ⟨x, rfl, hx⟩ : ∃ x : Int, v = .int x ∧ (x = 7 ∨ x = 8) := by
      simp only [List.mem_cons, List.not_mem_nil, or_false] at hv
      rcases hv with rfl | rfl | rfl
      · exact ⟨_, rfl, .inl rfl⟩
      · exact ⟨_, rfl, .inr rfl⟩
      · exact ⟨_, rfl, .inr rfl⟩
    clear hv ev S9 f9 fq nq hq r0' r1' r q
    walk_at "go"
    refine rd_ixL (SqL.of N.el) rfl ?_
    walk_at "go"
    refine rd_setL N.q0.1 (ixN_nat (by rw [List.length_map, len0]; exact hat)) ?_
    replace N := N.set0 at0 hx
    generalize upd H9 R0 _ = H10 at *
    dsimp only
    refine rd_seq ?_
    refine ifs_coreN (fun σ' H' => ∃ r0 r1 r2, σ' = [some (.ref a), some (.int tot), some (.int one), some (.int oth), some (.ref l), some (.int at0), none, none, none] ∧ Near K ns H H' a sc l R0 R1 R2 r0 r1 r2) ?_ (fun nx' hn => ?_)
    rotate_left
    · walk_at "go"
      refine rd_ixL (SqL.of N.el) rfl ?_
      walk_at "go"
      refine ⟨Nat.zero_le _, fun q hq => ?_⟩
      have fq : Fr [] H10 (upd H10 q (.lst [])) := Fr.new hq
      have N1 := N.fr0 fq
      refine ⟨.list (r2.map PyData.int), .list [], .lst (SqL.of N1.q2.1) (dp_ints0 r2), .lst (SqL.of upd_same) .nil, ints_shaped0 r2, by decide +kernel, ?_⟩
      rw [eqv_nil0]
      clear N fq hq
      generalize upd H10 q (.lst []) = H11 at *
      walk_at "go"
      have second : ∀ (H11 : Hp), Near K ns H H11 a sc l R0 R1 R2 (r0.set at0 x) r1 r2 → tIfS (tTest (tOp rEq (tCall (spDrawn K ns) [] E0 (tCons (tVar 0) (tCons (tC (.int 2)) tNil))) (tC (.int 0)))) (tAsg (tC (.int 8)) (gSub (tOp (rIxL K) (tVar 4) (tC (.int 1))) (tUn (rU fun i => V.int (-i)) (tC (.int 1))) rSetL)) tNext
          { nx := nx', rt := Q } [some (.ref a), some (.int tot), some (.int one), some (.int oth), some (.ref l), some (.int at0), none, none, none] H11 := fun H11 N => by
        walk_at "go"
        refine ⟨a, sc, 2, rfl, N.st, by decide, by decide, fun r H12 _ _ S12 f12 => ?_⟩
        have N2 := N.fr f12 S12
        walk_at "go"
        refine rd_dec (fun _ => ?_) (fun _ => ?_)
        · walk_at "go"
          refine rd_ixL (SqL.of N2.el) rfl ?_
          walk_at "go"
          refine rd_setL N2.q1.1 (ixN_neg1 (by rw [List.length_map, len1]; omega)) ?_
          exact hn _ _ ⟨_, _, _, rfl, N2.set1 _ (.inr rfl)⟩
        · walk_at "go"
          exact hn _ _ ⟨_, _, _, rfl, N2⟩
      have fls : ∀ {A B : Prop}, B → if false = true then A else B := fun {A B} h => iteF h
      cases hr2 : r2 with
      | nil =>
        subst hr2
        refine iteF ?_
        exact second H11 N1
      | cons y ys =>
        rw [← hr2]
        have h2 : (!r2.isEmpty) = true := by rw [hr2]; rfl
        rw [h2]
        refine iteT ?_
        walk_at "go"
        refine ⟨a, sc, 2, rfl, N1.st, by decide, by decide, fun r H12 _ _ S12 f12 => ?_⟩
        have N2 := N1.fr f12 S12
        walk_at "go"
        refine rd_dec (fun _ => ?_) (fun _ => ?_)
        · walk_at "go"
          refine rd_ixL (SqL.of N2.el) rfl ?_
          walk_at "go"
          refine rd_setL N2.q2.1 (ixN_neg1 (by rw [List.length_map, hr2]; exact Nat.succ_pos _)) ?_
          exact hn _ _ ⟨_, _, _, rfl, N2.set2 _ (.inr rfl)⟩
        · exact second H12 N2
    · clear N H10 len0 len1 len2 hat
      rintro σ' H11 ⟨r0', r1', r2', rfl, N⟩
      walk_at "go"
      refine rd_ixL (SqL.of N.el) rfl ?_
      walk_at "go"
      refine rd_tupOf (SqL.of N.q2.1) fun t2 ht2 => ?_
      have f1 : Fr [] H11 (upd H11 t2 (.tup (r2'.map V.int))) := Fr.new ht2
      have e1 : upd H11 t2 (.tup (r2'.map V.int)) t2 = some (.tup (r2'.map V.int)) := upd_same
      have N1 := N.fr0 f1
      generalize upd H11 t2 (.tup (r2'.map V.int)) = H12 at *
      walk_at "go"
      refine ⟨by show 2 ≤ sizeLine; decide, fun m2 hm2 => ?_⟩
      have f2 : Fr [] H12 (upd H12 m2 (.tup [.str "row", .ref t2])) := Fr.new hm2
      have e2 : upd H12 m2 (.tup [.str "row", .ref t2]) m2 = some (.tup [.str "row", .ref t2]) := upd_same
      have N2 := N1.fr0 f2
      replace e1 := f2.tp e1
      generalize upd H12 m2 (.tup [.str "row", .ref t2]) = H13 at *
      walk_at "go"
      refine ⟨Nat.zero_le _, fun s2 hs2 => ?_⟩
      have f3 : Fr [] H13 (upd H13 s2 (.tup [])) := Fr.new hs2
      have e3 : upd H13 s2 (.tup []) s2 = some (.tup []) := upd_same
      have N3 := N2.fr0 f3
      replace e1 := f3.tp e1
      replace e2 := f3.tp e2
      generalize upd H13 s2 (.tup []) = H14 at *
      walk_at "go"
      refine ⟨by show 2 ≤ sizeLine; decide, fun la hla => ?_⟩
      have f4 : Fr [] H14 (upd H14 la (.tup [.ref m2, .ref s2])) := Fr.new hla
      have e4 : upd H14 la (.tup [.ref m2, .ref s2]) la = some (.tup [.ref m2, .ref s2]) := upd_same
      have N4 := N3.fr0 f4
      replace e1 := f4.tp e1
      replace e2 := f4.tp e2
      replace e3 := f4.tp e3
      generalize upd H14 la (.tup [.ref m2, .ref s2]) = H15 at *
      have C0 : ChAt H15 la (.mkr (.row r2')) := ⟨m2, s2, [], e4, e3, rfl, t2, e2, e1⟩
      have ok0 : (Ch.mkr (.row r2')).ok := N4.q2.ok
      clear N N1 N2 N3 f1 f2 f3 f4 e1 e2 e3 e4 hm2 hs2 hla ht2 H11 H12 H13 H14
      dsimp only
      refine rd_seq ?_
      refine ifs_coreN (fun σ' H' => ∃ (la : Addr) (cl : Ch), σ' = [some (.ref a), some (.int tot), some (.int one), some (.int oth), some (.ref l), some (.int at0), some (.ref la), none, none] ∧ Near K ns H H' a sc l R0 R1 R2 r0' r1' r2' ∧ ChAt H' la cl ∧ cl.ok ∧ cl.nm = 1 ∧ cl.ns = 0) ?_ (fun nx' hn => ?_)
      rotate_left
      · walk_at "go"
        refine ⟨a, sc, 4, rfl, N4.st, by decide, by decide, fun r H16 _ _ S16 f16 => ?_⟩
        have N := N4.fr f16 S16
        have C1 := C0.fr f16
        clear N4 S16 f16 C0
        walk_at "go"
        refine rd_dec (fun _ => ?_) (fun _ => ?_)
        · walk_at "go"
          refine ⟨by show 3 ≤ sizeLine; decide, fun q hq => ?_⟩
          have nq : q ∉ [a] := fun z => by
            obtain ⟨⟨_, _, _, q5, _⟩, _⟩ := N.st
            rw [List.mem_singleton] at z
            exact nocon0 (z ▸ hq) q5
          have N1 := N.fr0 (Fr.new (o := .lst [.int 0, .int 2, .int 1]) hq)
          walk_at "go"
          refine ⟨a, sc, 3, rfl, N1.st, by decide, by decide, fun r H17 r0 r1 S17 f17 => ?_⟩
          have N2 := N1.fr f17 S17
          walk_at "go"
          obtain ⟨v, hv, ev⟩ := at_in (xs := [V.int 0, .int 2, .int 1]) (i := r) r0 r1
          refine rd_ixL (SqL.of (f17.at upd_same nq)) ev ?_
          obtain ⟨x, rfl, hx⟩ : ∃ x : Int, v = .int x ∧ numOk x := by
            simp only [List.mem_cons, List.not_mem_nil, or_false] at hv
            unfold numOk
            rcases hv with rfl | rfl | rfl
            all_goals exact ⟨_, rfl, by omega, by omega⟩
          clear N N1 f17 S17 hv ev hq nq
          walk_at "go"
          refine ⟨by show 3 ≤ sizeLine; decide, fun m hm => ?_⟩
          have f1 : Fr [] H17 (upd H17 m (.tup [.str "count", .int 7, .int x])) := Fr.new hm
          have e1 : upd H17 m (.tup [.str "count", .int 7, .int x]) m = some (.tup [.str "count", .int 7, .int x]) := upd_same
          have N3 := N2.fr0 f1
          generalize upd H17 m (.tup [.str "count", .int 7, .int x]) = H18 at *
          walk_at "go"
          refine ⟨Nat.zero_le _, fun s2 hs2 => ?_⟩
          have f2 : Fr [] H18 (upd H18 s2 (.tup [])) := Fr.new hs2
          have e2 : upd H18 s2 (.tup []) s2 = some (.tup []) := upd_same
          have N4 := N3.fr0 f2
          replace e1 := f2.tp e1
          generalize upd H18 s2 (.tup []) = H19 at *
          walk_at "go"
          refine ⟨by show 2 ≤ sizeLine; decide, fun lb hlb => ?_⟩
          have f3 : Fr [] H19 (upd H19 lb (.tup [.ref m, .ref s2])) := Fr.new hlb
          have e3 : upd H19 lb (.tup [.ref m, .ref s2]) lb = some (.tup [.ref m, .ref s2]) := upd_same
          exact hn _ _ ⟨lb, .mkr (.count 7 x), rfl, N4.fr0 f3, ⟨m, s2, [], e3, f3.tp e2, rfl, f3.tp e1⟩, ⟨by unfold numOk; omega, hx⟩, rfl, rfl⟩
        · walk_at "go"
          exact hn _ _ ⟨la, _, rfl, N, C1, ok0, rfl, rfl⟩
      · clear N4 C0 ok0 H15 la
        rintro σ' H0 ⟨la, cl, rfl, N, C, okc, nmc, nsc⟩
        -- the inner chain
        walk_at "go"
        refine rd_ixL (SqL.of N.el) rfl ?_
        walk_at "go"
        refine rd_tupOf (SqL.of N.q1.1) fun t1 ht1 => ?_
        have f1 : Fr [] H0 (upd H0 t1 (.tup (r1'.map V.int))) := Fr.new ht1
        have e_t1 : upd H0 t1 (.tup (r1'.map V.int)) t1 = some (.tup (r1'.map V.int)) := upd_same
        replace N := N.fr0 f1
        replace C := C.fr f1
        generalize upd H0 t1 (.tup (r1'.map V.int)) = G1 at *
        clear f1 ht1
        walk_at "go"
        refine ⟨by show 2 ≤ sizeLine; decide, fun m1 hm1 => ?_⟩
        have f2 : Fr [] G1 (upd G1 m1 (.tup [.str "row", .ref t1])) := Fr.new hm1
        have e_m1 : upd G1 m1 (.tup [.str "row", .ref t1]) m1 = some (.tup [.str "row", .ref t1]) := upd_same
        replace N := N.fr0 f2
        replace C := C.fr f2
        replace e_t1 := f2.tp e_t1
        generalize upd G1 m1 (.tup [.str "row", .ref t1]) = G2 at *
        clear f2 hm1
        walk_at "go"
        refine ⟨by show 2 ≤ sizeLine; decide, fun x1 hx1 => ?_⟩
        have f3 : Fr [] G2 (upd G2 x1 (.tup [.str "then", .ref la])) := Fr.new hx1
        have e_x1 : upd G2 x1 (.tup [.str "then", .ref la]) x1 = some (.tup [.str "then", .ref la]) := upd_same
        replace N := N.fr0 f3
        replace C := C.fr f3
        replace e_t1 := f3.tp e_t1
        replace e_m1 := f3.tp e_m1
        generalize upd G2 x1 (.tup [.str "then", .ref la]) = G3 at *
        clear f3 hx1
        walk_at "go"
        refine ⟨by show 1 ≤ sizeLine; decide, fun s1 hs1 => ?_⟩
        have f4 : Fr [] G3 (upd G3 s1 (.tup [.ref x1])) := Fr.new hs1
        have e_s1 : upd G3 s1 (.tup [.ref x1]) s1 = some (.tup [.ref x1]) := upd_same
        replace N := N.fr0 f4
        replace C := C.fr f4
        replace e_t1 := f4.tp e_t1
        replace e_m1 := f4.tp e_m1
        replace e_x1 := f4.tp e_x1
        generalize upd G3 s1 (.tup [.ref x1]) = G4 at *
        clear f4 hs1
        walk_at "go"
        refine ⟨by show 2 ≤ sizeLine; decide, fun ia hia => ?_⟩
        have f5 : Fr [] G4 (upd G4 ia (.tup [.ref m1, .ref s1])) := Fr.new hia
        have e_ia : upd G4 ia (.tup [.ref m1, .ref s1]) ia = some (.tup [.ref m1, .ref s1]) := upd_same
        replace N := N.fr0 f5
        replace C := C.fr f5
        replace e_t1 := f5.tp e_t1
        replace e_m1 := f5.tp e_m1
        replace e_x1 := f5.tp e_x1
        replace e_s1 := f5.tp e_s1
        generalize upd G4 ia (.tup [.ref m1, .ref s1]) = G5 at *
        clear f5 hia
        have I : ChAt G5 ia (.thn (.mkr (.row r1')) cl) := ⟨m1, s1, [x1], e_ia, e_s1, [], x1, la, rfl, ⟨rfl, t1, e_m1, e_t1⟩, e_x1, C⟩
        have okI : (Ch.thn (.mkr (.row r1')) cl).ok := ⟨N.q1.ok, okc⟩
        have nmI : (Ch.thn (.mkr (.row r1')) cl).nm = 2 := by show 1 + cl.nm = 2; omega
        have nsI : (Ch.thn (.mkr (.row r1')) cl).ns = 1 := by show 0 + cl.ns + 1 = 1; omega
        clear C e_t1 e_m1 e_x1 e_s1 e_ia okc nmc nsc
        generalize Ch.thn (.mkr (.row r1')) cl = ci at *
        walk_at "go"
        refine ⟨by show 3 ≤ sizeLine; decide, fun y0_0 hy0_0 => ?_⟩
        have f6 : Fr [] G5 (upd G5 y0_0 (.tup [.str "keep", .int 0, .int 2])) := Fr.new hy0_0
        have e_y0_0 : upd G5 y0_0 (.tup [.str "keep", .int 0, .int 2]) y0_0 = some (.tup [.str "keep", .int 0, .int 2]) := upd_same
        replace N := N.fr0 f6
        replace I := I.fr f6
        generalize upd G5 y0_0 (.tup [.str "keep", .int 0, .int 2]) = G6 at *
        clear f6 hy0_0
        walk_at "go"
        refine ⟨by show 1 ≤ sizeLine; decide, fun w0 hw0 => ?_⟩
        have f7 : Fr [] G6 (upd G6 w0 (.tup [.ref y0_0])) := Fr.new hw0
        have e_w0 : upd G6 w0 (.tup [.ref y0_0]) w0 = some (.tup [.ref y0_0]) := upd_same
        replace N := N.fr0 f7
        replace I := I.fr f7
        replace e_y0_0 := f7.tp e_y0_0
        generalize upd G6 w0 (.tup [.ref y0_0]) = G7 at *
        clear f7 hw0
        have W0 : WayAt G7 w0 [.one (.keep 0 2)] := ⟨[y0_0], e_w0, ⟨e_y0_0, trivial⟩⟩
        clear e_w0 e_y0_0
        walk_at "go"
        refine ⟨by show 1 ≤ sizeLine; decide, fun y1_0 hy1_0 => ?_⟩
        have f8 : Fr [] G7 (upd G7 y1_0 (.tup [.str "unlike"])) := Fr.new hy1_0
        have e_y1_0 : upd G7 y1_0 (.tup [.str "unlike"]) y1_0 = some (.tup [.str "unlike"]) := upd_same
        replace N := N.fr0 f8
        replace I := I.fr f8
        replace W0 := W0.fr f8
        generalize upd G7 y1_0 (.tup [.str "unlike"]) = G8 at *
        clear f8 hy1_0
        walk_at "go"
        refine ⟨by show 1 ≤ sizeLine; decide, fun w1 hw1 => ?_⟩
        have f9 : Fr [] G8 (upd G8 w1 (.tup [.ref y1_0])) := Fr.new hw1
        have e_w1 : upd G8 w1 (.tup [.ref y1_0]) w1 = some (.tup [.ref y1_0]) := upd_same
        replace N := N.fr0 f9
        replace I := I.fr f9
        replace W0 := W0.fr f9
        replace e_y1_0 := f9.tp e_y1_0
        generalize upd G8 w1 (.tup [.ref y1_0]) = G9 at *
        clear f9 hw1
        have W1 : WayAt G9 w1 [.one .unlike] := ⟨[y1_0], e_w1, ⟨e_y1_0, trivial⟩⟩
        clear e_w1 e_y1_0
        walk_at "go"
        refine ⟨by show 2 ≤ sizeLine; decide, fun y2_0 hy2_0 => ?_⟩
        have f10 : Fr [] G9 (upd G9 y2_0 (.tup [.str "drop", .int 100])) := Fr.new hy2_0
        have e_y2_0 : upd G9 y2_0 (.tup [.str "drop", .int 100]) y2_0 = some (.tup [.str "drop", .int 100]) := upd_same
        replace N := N.fr0 f10
        replace I := I.fr f10
        replace W0 := W0.fr f10
        replace W1 := W1.fr f10
        generalize upd G9 y2_0 (.tup [.str "drop", .int 100]) = G10 at *
        clear f10 hy2_0
        walk_at "go"
        refine ⟨a, sc, 6, rfl, N.st, by decide, by decide, fun rd GD rd0 rd1 SD fD => ?_⟩
        replace N := N.fr fD SD
        replace I := I.fr fD
        replace W0 := W0.fr fD
        replace W1 := W1.fr fD
        replace e_y2_0 := fD.tp e_y2_0
        clear fD SD
        walk_at "go"
        refine ⟨by show 2 ≤ sizeLine; decide, fun y2_1 hy2_1 => ?_⟩
        have f11 : Fr [] GD (upd GD y2_1 (.tup [.str "drop", .int (95 + rd)])) := Fr.new hy2_1
        have e_y2_1 : upd GD y2_1 (.tup [.str "drop", .int (95 + rd)]) y2_1 = some (.tup [.str "drop", .int (95 + rd)]) := upd_same
        replace N := N.fr0 f11
        replace I := I.fr f11
        replace W0 := W0.fr f11
        replace W1 := W1.fr f11
        replace e_y2_0 := f11.tp e_y2_0
        generalize upd GD y2_1 (.tup [.str "drop", .int (95 + rd)]) = G11 at *
        clear f11 hy2_1
        walk_at "go"
        refine ⟨by show 2 ≤ sizeLine; decide, fun w2 hw2 => ?_⟩
        have f12 : Fr [] G11 (upd G11 w2 (.tup [.ref y2_0, .ref y2_1])) := Fr.new hw2
        have e_w2 : upd G11 w2 (.tup [.ref y2_0, .ref y2_1]) w2 = some (.tup [.ref y2_0, .ref y2_1]) := upd_same
        replace N := N.fr0 f12
        replace I := I.fr f12
        replace W0 := W0.fr f12
        replace W1 := W1.fr f12
        replace e_y2_0 := f12.tp e_y2_0
        replace e_y2_1 := f12.tp e_y2_1
        generalize upd G11 w2 (.tup [.ref y2_0, .ref y2_1]) = G12 at *
        clear f12 hw2
        have W2 : WayAt G12 w2 [.one (.drop 100), .one (.drop (95 + rd))] := ⟨[y2_0, y2_1], e_w2, ⟨e_y2_0, e_y2_1, trivial⟩⟩
        clear e_w2 e_y2_0 e_y2_1
        walk_at "go"
        refine ⟨by show 2 ≤ sizeLine; decide, fun y3_0 hy3_0 => ?_⟩
        have f13 : Fr [] G12 (upd G12 y3_0 (.tup [.str "until", .int 8])) := Fr.new hy3_0
        have e_y3_0 : upd G12 y3_0 (.tup [.str "until", .int 8]) y3_0 = some (.tup [.str "until", .int 8]) := upd_same
        replace N := N.fr0 f13
        replace I := I.fr f13
        replace W0 := W0.fr f13
        replace W1 := W1.fr f13
        replace W2 := W2.fr f13
        generalize upd G12 y3_0 (.tup [.str "until", .int 8]) = G13 at *
        clear f13 hy3_0
        walk_at "go"
        refine ⟨by show 1 ≤ sizeLine; decide, fun w3 hw3 => ?_⟩
        have f14 : Fr [] G13 (upd G13 w3 (.tup [.ref y3_0])) := Fr.new hw3
        have e_w3 : upd G13 w3 (.tup [.ref y3_0]) w3 = some (.tup [.ref y3_0]) := upd_same
        replace N := N.fr0 f14
        replace I := I.fr f14
        replace W0 := W0.fr f14
        replace W1 := W1.fr f14
        replace W2 := W2.fr f14
        replace e_y3_0 := f14.tp e_y3_0
        generalize upd G13 w3 (.tup [.ref y3_0]) = G14 at *
        clear f14 hw3
        have W3 : WayAt G14 w3 [.one (.until 8)] := ⟨[y3_0], e_w3, ⟨e_y3_0, trivial⟩⟩
        clear e_w3 e_y3_0
        walk_at "go"
        refine ⟨by show 4 ≤ sizeLine; decide, fun la1 hla1 => ?_⟩
        have f15 : Fr [] G14 (upd G14 la1 (.lst [.ref w0, .ref w1, .ref w2, .ref w3])) := Fr.new hla1
        have e_la1 : upd G14 la1 (.lst [.ref w0, .ref w1, .ref w2, .ref w3]) la1 = some (.lst [.ref w0, .ref w1, .ref w2, .ref w3]) := upd_same
        replace N := N.fr0 f15
        replace I := I.fr f15
        replace W0 := W0.fr f15
        replace W1 := W1.fr f15
        replace W2 := W2.fr f15
        replace W3 := W3.fr f15
        generalize upd G14 la1 (.lst [.ref w0, .ref w1, .ref w2, .ref w3]) = G15 at *
        clear f15 hla1
        walk_at "go"
        refine ⟨by show 1 ≤ sizeLine; decide, fun y4_0 hy4_0 => ?_⟩
        have f16 : Fr [] G15 (upd G15 y4_0 (.tup [.str "unlike"])) := Fr.new hy4_0
        have e_y4_0 : upd G15 y4_0 (.tup [.str "unlike"]) y4_0 = some (.tup [.str "unlike"]) := upd_same
        replace N := N.fr0 f16
        replace I := I.fr f16
        replace W0 := W0.fr f16
        replace W1 := W1.fr f16
        replace W2 := W2.fr f16
        replace W3 := W3.fr f16
        replace e_la1 := f16.at e_la1 (by simp)
        generalize upd G15 y4_0 (.tup [.str "unlike"]) = G16 at *
        clear f16 hy4_0
        walk_at "go"
        refine ⟨by show 3 ≤ sizeLine; decide, fun y4_1 hy4_1 => ?_⟩
        have f17 : Fr [] G16 (upd G16 y4_1 (.tup [.str "keep", .int 0, .int 2])) := Fr.new hy4_1
        have e_y4_1 : upd G16 y4_1 (.tup [.str "keep", .int 0, .int 2]) y4_1 = some (.tup [.str "keep", .int 0, .int 2]) := upd_same
        replace N := N.fr0 f17
        replace I := I.fr f17
        replace W0 := W0.fr f17
        replace W1 := W1.fr f17
        replace W2 := W2.fr f17
        replace W3 := W3.fr f17
        replace e_la1 := f17.at e_la1 (by simp)
        replace e_y4_0 := f17.tp e_y4_0
        generalize upd G16 y4_1 (.tup [.str "keep", .int 0, .int 2]) = G17 at *
        clear f17 hy4_1
        walk_at "go"
        refine ⟨by show 2 ≤ sizeLine; decide, fun w4 hw4 => ?_⟩
        have f18 : Fr [] G17 (upd G17 w4 (.tup [.ref y4_0, .ref y4_1])) := Fr.new hw4
        have e_w4 : upd G17 w4 (.tup [.ref y4_0, .ref y4_1]) w4 = some (.tup [.ref y4_0, .ref y4_1]) := upd_same
        replace N := N.fr0 f18
        replace I := I.fr f18
        replace W0 := W0.fr f18
        replace W1 := W1.fr f18
        replace W2 := W2.fr f18
        replace W3 := W3.fr f18
        replace e_la1 := f18.at e_la1 (by simp)
        replace e_y4_0 := f18.tp e_y4_0
        replace e_y4_1 := f18.tp e_y4_1
        generalize upd G17 w4 (.tup [.ref y4_0, .ref y4_1]) = G18 at *
        clear f18 hw4
        have W4 : WayAt G18 w4 [.one .unlike, .one (.keep 0 2)] := ⟨[y4_0, y4_1], e_w4, ⟨e_y4_0, e_y4_1, trivial⟩⟩
        clear e_w4 e_y4_0 e_y4_1
        walk_at "go"
        refine ⟨by show 3 ≤ sizeLine; decide, fun y5_0 hy5_0 => ?_⟩
        have f19 : Fr [] G18 (upd G18 y5_0 (.tup [.str "keep", .int 0, .int 2])) := Fr.new hy5_0
        have e_y5_0 : upd G18 y5_0 (.tup [.str "keep", .int 0, .int 2]) y5_0 = some (.tup [.str "keep", .int 0, .int 2]) := upd_same
        replace N := N.fr0 f19
        replace I := I.fr f19
        replace W0 := W0.fr f19
        replace W1 := W1.fr f19
        replace W2 := W2.fr f19
        replace W3 := W3.fr f19
        replace e_la1 := f19.at e_la1 (by simp)
        replace W4 := W4.fr f19
        generalize upd G18 y5_0 (.tup [.str "keep", .int 0, .int 2]) = G19 at *
        clear f19 hy5_0
        walk_at "go"
        refine ⟨by show 2 ≤ sizeLine; decide, fun y5_1 hy5_1 => ?_⟩
        have f20 : Fr [] G19 (upd G19 y5_1 (.tup [.str "each", .int 2])) := Fr.new hy5_1
        have e_y5_1 : upd G19 y5_1 (.tup [.str "each", .int 2]) y5_1 = some (.tup [.str "each", .int 2]) := upd_same
        replace N := N.fr0 f20
        replace I := I.fr f20
        replace W0 := W0.fr f20
        replace W1 := W1.fr f20
        replace W2 := W2.fr f20
        replace W3 := W3.fr f20
        replace e_la1 := f20.at e_la1 (by simp)
        replace W4 := W4.fr f20
        replace e_y5_0 := f20.tp e_y5_0
        generalize upd G19 y5_1 (.tup [.str "each", .int 2]) = G20 at *
        clear f20 hy5_1
        walk_at "go"
        refine ⟨by show 2 ≤ sizeLine; decide, fun w5 hw5 => ?_⟩
        have f21 : Fr [] G20 (upd G20 w5 (.tup [.ref y5_0, .ref y5_1])) := Fr.new hw5
        have e_w5 : upd G20 w5 (.tup [.ref y5_0, .ref y5_1]) w5 = some (.tup [.ref y5_0, .ref y5_1]) := upd_same
        replace N := N.fr0 f21
        replace I := I.fr f21
        replace W0 := W0.fr f21
        replace W1 := W1.fr f21
        replace W2 := W2.fr f21
        replace W3 := W3.fr f21
        replace e_la1 := f21.at e_la1 (by simp)
        replace W4 := W4.fr f21
        replace e_y5_0 := f21.tp e_y5_0
        replace e_y5_1 := f21.tp e_y5_1
        generalize upd G20 w5 (.tup [.ref y5_0, .ref y5_1]) = G21 at *
        clear f21 hw5
        have W5 : WayAt G21 w5 [.one (.keep 0 2), .one (.each 2)] := ⟨[y5_0, y5_1], e_w5, ⟨e_y5_0, e_y5_1, trivial⟩⟩
        clear e_w5 e_y5_0 e_y5_1
        walk_at "go"
        refine ⟨by show 2 ≤ sizeLine; decide, fun y6_0 hy6_0 => ?_⟩
        have f22 : Fr [] G21 (upd G21 y6_0 (.tup [.str "drop", .int 100])) := Fr.new hy6_0
        have e_y6_0 : upd G21 y6_0 (.tup [.str "drop", .int 100]) y6_0 = some (.tup [.str "drop", .int 100]) := upd_same
        replace N := N.fr0 f22
        replace I := I.fr f22
        replace W0 := W0.fr f22
        replace W1 := W1.fr f22
        replace W2 := W2.fr f22
        replace W3 := W3.fr f22
        replace e_la1 := f22.at e_la1 (by simp)
        replace W4 := W4.fr f22
        replace W5 := W5.fr f22
        generalize upd G21 y6_0 (.tup [.str "drop", .int 100]) = G22 at *
        clear f22 hy6_0
        walk_at "go"
        refine ⟨by show 1 ≤ sizeLine; decide, fun y6_1 hy6_1 => ?_⟩
        have f23 : Fr [] G22 (upd G22 y6_1 (.tup [.str "unlike"])) := Fr.new hy6_1
        have e_y6_1 : upd G22 y6_1 (.tup [.str "unlike"]) y6_1 = some (.tup [.str "unlike"]) := upd_same
        replace N := N.fr0 f23
        replace I := I.fr f23
        replace W0 := W0.fr f23
        replace W1 := W1.fr f23
        replace W2 := W2.fr f23
        replace W3 := W3.fr f23
        replace e_la1 := f23.at e_la1 (by simp)
        replace W4 := W4.fr f23
        replace W5 := W5.fr f23
        replace e_y6_0 := f23.tp e_y6_0
        generalize upd G22 y6_1 (.tup [.str "unlike"]) = G23 at *
        clear f23 hy6_1
        walk_at "go"
        refine ⟨by show 2 ≤ sizeLine; decide, fun w6 hw6 => ?_⟩
        have f24 : Fr [] G23 (upd G23 w6 (.tup [.ref y6_0, .ref y6_1])) := Fr.new hw6
        have e_w6 : upd G23 w6 (.tup [.ref y6_0, .ref y6_1]) w6 = some (.tup [.ref y6_0, .ref y6_1]) := upd_same
        replace N := N.fr0 f24
        replace I := I.fr f24
        replace W0 := W0.fr f24
        replace W1 := W1.fr f24
        replace W2 := W2.fr f24
        replace W3 := W3.fr f24
        replace e_la1 := f24.at e_la1 (by simp)
        replace W4 := W4.fr f24
        replace W5 := W5.fr f24
        replace e_y6_0 := f24.tp e_y6_0
        replace e_y6_1 := f24.tp e_y6_1
        generalize upd G23 w6 (.tup [.ref y6_0, .ref y6_1]) = G24 at *
        clear f24 hw6
        have W6 : WayAt G24 w6 [.one (.drop 100), .one .unlike] := ⟨[y6_0, y6_1], e_w6, ⟨e_y6_0, e_y6_1, trivial⟩⟩
        clear e_w6 e_y6_0 e_y6_1
        walk_at "go"
        refine ⟨by show 3 ≤ sizeLine; decide, fun la2 hla2 => ?_⟩
        have f25 : Fr [] G24 (upd G24 la2 (.lst [.ref w4, .ref w5, .ref w6])) := Fr.new hla2
        have e_la2 : upd G24 la2 (.lst [.ref w4, .ref w5, .ref w6]) la2 = some (.lst [.ref w4, .ref w5, .ref w6]) := upd_same
        replace N := N.fr0 f25
        replace I := I.fr f25
        replace W0 := W0.fr f25
        replace W1 := W1.fr f25
        replace W2 := W2.fr f25
        replace W3 := W3.fr f25
        replace e_la1 := f25.at e_la1 (by simp)
        replace W4 := W4.fr f25
        replace W5 := W5.fr f25
        replace W6 := W6.fr f25
        generalize upd G24 la2 (.lst [.ref w4, .ref w5, .ref w6]) = G25 at *
        clear f25 hla2
        walk_at "go"
        refine ⟨la1, la2, _, _, rfl, rfl, e_la1, e_la2, by show 7 ≤ sizeLine; decide, fun lw hlw => ?_⟩
        have f26 : Fr [] G25 (upd G25 lw (.lst ([.ref w0, .ref w1, .ref w2, .ref w3] ++ [.ref w4, .ref w5, .ref w6]))) := Fr.new hlw
        have e_lw : upd G25 lw (.lst ([.ref w0, .ref w1, .ref w2, .ref w3] ++ [.ref w4, .ref w5, .ref w6])) lw = some (.lst [.ref w0, .ref w1, .ref w2, .ref w3, .ref w4, .ref w5, .ref w6]) := upd_same
        have nlw : lw ≠ a := fun z => by
          obtain ⟨⟨_, _, _, q5, _⟩, _⟩ := N.st
          exact nocon0 (z ▸ hlw) q5
        have mlw : H lw = none := N.f.free (by simpa using nlw) hlw
        have dlw : lw ≠ l ∧ lw ≠ R0 ∧ lw ≠ R1 ∧ lw ≠ R2 := ⟨(ne_of_none N.el hlw).symm, (ne_of_none N.q0.1 hlw).symm, (ne_of_none N.q1.1 hlw).symm, (ne_of_none N.q2.1 hlw).symm⟩
        replace N := N.fr0 f26
        clear e_la1 e_la2
        replace I := I.fr f26
        replace W0 := W0.fr f26
        replace W1 := W1.fr f26
        replace W2 := W2.fr f26
        replace W3 := W3.fr f26
        replace W4 := W4.fr f26
        replace W5 := W5.fr f26
        replace W6 := W6.fr f26
        generalize upd G25 lw (.lst ([.ref w0, .ref w1, .ref w2, .ref w3] ++ [.ref w4, .ref w5, .ref w6])) = G26 at *
        clear f26 hlw
        walk_at "go"
        refine ⟨tyl e_lw, ?_⟩
        walk_at "go"
        refine ⟨by show 3 ≤ sizeLine; decide, fun y7_0 hy7_0 => ?_⟩
        have f27 : Fr [] G26 (upd G26 y7_0 (.tup [.str "keep", .int 0, .int 2])) := Fr.new hy7_0
        have e_y7_0 : upd G26 y7_0 (.tup [.str "keep", .int 0, .int 2]) y7_0 = some (.tup [.str "keep", .int 0, .int 2]) := upd_same
        replace N := N.fr0 f27
        replace I := I.fr f27
        replace W0 := W0.fr f27
        replace W1 := W1.fr f27
        replace W2 := W2.fr f27
        replace W3 := W3.fr f27
        replace W4 := W4.fr f27
        replace W5 := W5.fr f27
        replace W6 := W6.fr f27
        replace e_lw := f27.at e_lw (by simp)
        generalize upd G26 y7_0 (.tup [.str "keep", .int 0, .int 2]) = G27 at *
        clear f27 hy7_0
        walk_at "go"
        refine ⟨by show 3 ≤ sizeLine; decide, fun cm hcm => ?_⟩
        have f28 : Fr [] G27 (upd G27 cm (.tup [.str "count", .int 0, .int 1])) := Fr.new hcm
        have e_cm : upd G27 cm (.tup [.str "count", .int 0, .int 1]) cm = some (.tup [.str "count", .int 0, .int 1]) := upd_same
        replace N := N.fr0 f28
        replace I := I.fr f28
        replace W0 := W0.fr f28
        replace W1 := W1.fr f28
        replace W2 := W2.fr f28
        replace W3 := W3.fr f28
        replace W4 := W4.fr f28
        replace W5 := W5.fr f28
        replace W6 := W6.fr f28
        replace e_lw := f28.at e_lw (by simp)
        replace e_y7_0 := f28.tp e_y7_0
        generalize upd G27 cm (.tup [.str "count", .int 0, .int 1]) = G28 at *
        clear f28 hcm
        walk_at "go"
        refine ⟨Nat.zero_le _, fun cs hcs => ?_⟩
        have f29 : Fr [] G28 (upd G28 cs (.tup [])) := Fr.new hcs
        have e_cs : upd G28 cs (.tup []) cs = some (.tup []) := upd_same
        replace N := N.fr0 f29
        replace I := I.fr f29
        replace W0 := W0.fr f29
        replace W1 := W1.fr f29
        replace W2 := W2.fr f29
        replace W3 := W3.fr f29
        replace W4 := W4.fr f29
        replace W5 := W5.fr f29
        replace W6 := W6.fr f29
        replace e_lw := f29.at e_lw (by simp)
        replace e_y7_0 := f29.tp e_y7_0
        replace e_cm := f29.tp e_cm
        generalize upd G28 cs (.tup []) = G29 at *
        clear f29 hcs
        walk_at "go"
        refine ⟨by show 2 ≤ sizeLine; decide, fun cc hcc => ?_⟩
        have f30 : Fr [] G29 (upd G29 cc (.tup [.ref cm, .ref cs])) := Fr.new hcc
        have e_cc : upd G29 cc (.tup [.ref cm, .ref cs]) cc = some (.tup [.ref cm, .ref cs]) := upd_same
        replace N := N.fr0 f30
        replace I := I.fr f30
        replace W0 := W0.fr f30
        replace W1 := W1.fr f30
        replace W2 := W2.fr f30
        replace W3 := W3.fr f30
        replace W4 := W4.fr f30
        replace W5 := W5.fr f30
        replace W6 := W6.fr f30
        replace e_lw := f30.at e_lw (by simp)
        replace e_y7_0 := f30.tp e_y7_0
        replace e_cm := f30.tp e_cm
        replace e_cs := f30.tp e_cs
        generalize upd G29 cc (.tup [.ref cm, .ref cs]) = G30 at *
        clear f30 hcc
        walk_at "go"
        refine ⟨by show 2 ≤ sizeLine; decide, fun y7_1 hy7_1 => ?_⟩
        have f31 : Fr [] G30 (upd G30 y7_1 (.tup [.str "both", .ref cc])) := Fr.new hy7_1
        have e_y7_1 : upd G30 y7_1 (.tup [.str "both", .ref cc]) y7_1 = some (.tup [.str "both", .ref cc]) := upd_same
        replace N := N.fr0 f31
        replace I := I.fr f31
        replace W0 := W0.fr f31
        replace W1 := W1.fr f31
        replace W2 := W2.fr f31
        replace W3 := W3.fr f31
        replace W4 := W4.fr f31
        replace W5 := W5.fr f31
        replace W6 := W6.fr f31
        replace e_lw := f31.at e_lw (by simp)
        replace e_y7_0 := f31.tp e_y7_0
        replace e_cm := f31.tp e_cm
        replace e_cs := f31.tp e_cs
        replace e_cc := f31.tp e_cc
        generalize upd G30 y7_1 (.tup [.str "both", .ref cc]) = G31 at *
        clear f31 hy7_1
        walk_at "go"
        refine ⟨by show 2 ≤ sizeLine; decide, fun w7 hw7 => ?_⟩
        have f32 : Fr [] G31 (upd G31 w7 (.tup [.ref y7_0, .ref y7_1])) := Fr.new hw7
        have e_w7 : upd G31 w7 (.tup [.ref y7_0, .ref y7_1]) w7 = some (.tup [.ref y7_0, .ref y7_1]) := upd_same
        replace N := N.fr0 f32
        replace I := I.fr f32
        replace W0 := W0.fr f32
        replace W1 := W1.fr f32
        replace W2 := W2.fr f32
        replace W3 := W3.fr f32
        replace W4 := W4.fr f32
        replace W5 := W5.fr f32
        replace W6 := W6.fr f32
        replace e_lw := f32.at e_lw (by simp)
        replace e_y7_0 := f32.tp e_y7_0
        replace e_cm := f32.tp e_cm
        replace e_cs := f32.tp e_cs
        replace e_cc := f32.tp e_cc
        replace e_y7_1 := f32.tp e_y7_1
        generalize upd G31 w7 (.tup [.ref y7_0, .ref y7_1]) = G32 at *
        clear f32 hw7
        have W7 : WayAt G32 w7 [.one (.keep 0 2), .both (.mkr (.count 0 1))] := ⟨[y7_0, y7_1], e_w7, ⟨e_y7_0, ⟨cc, e_y7_1, cm, cs, [], e_cc, e_cs, rfl, e_cm⟩, trivial⟩⟩
        clear e_w7 e_y7_0 e_y7_1 e_cm e_cs e_cc
        walk_at "go"
        refine rd_append e_lw (by show 7 < sizeLine; decide) ?_
        have f33 : Fr [lw] G32 (upd G32 lw (.lst ([.ref w0, .ref w1, .ref w2, .ref w3, .ref w4, .ref w5, .ref w6] ++ [.ref w7]))) := Fr.put (by simp) (nt e_lw)
        replace N : Near K ns H _ a sc l R0 R1 R2 r0' r1' r2' := { N with f := N.f.trans f33 (fun b hb => .inr (by rw [List.mem_singleton] at hb; rw [hb]; exact mlw)), st := N.st.fr f33 (by simpa using nlw.symm), el := f33.at N.el (by simpa using dlw.1.symm), q0 := N.q0.fr f33 (by simpa using dlw.2.1.symm), q1 := N.q1.fr f33 (by simpa using dlw.2.2.1.symm), q2 := N.q2.fr f33 (by simpa using dlw.2.2.2.symm) }
        replace I := I.fr f33
        replace W0 := W0.fr f33
        replace W1 := W1.fr f33
        replace W2 := W2.fr f33
        replace W3 := W3.fr f33
        replace W4 := W4.fr f33
        replace W5 := W5.fr f33
        replace W6 := W6.fr f33
        replace W7 := W7.fr f33
        replace e_lw : upd G32 lw (.lst ([.ref w0, .ref w1, .ref w2, .ref w3, .ref w4, .ref w5, .ref w6] ++ [.ref w7])) lw = some (.lst [.ref w0, .ref w1, .ref w2, .ref w3, .ref w4, .ref w5, .ref w6, .ref w7]) := upd_same
        generalize upd G32 lw (.lst ([.ref w0, .ref w1, .ref w2, .ref w3, .ref w4, .ref w5, .ref w6] ++ [.ref w7])) = G33 at *
        clear f33 mlw dlw
        walk_at "go"
        refine rd_ixL (SqL.of N.el) rfl ?_
        walk_at "go"
        refine rd_tupOf (SqL.of N.q0.1) fun t0 ht0 => ?_
        have f34 : Fr [] G33 (upd G33 t0 (.tup (r0'.map V.int))) := Fr.new ht0
        have e_t0 : upd G33 t0 (.tup (r0'.map V.int)) t0 = some (.tup (r0'.map V.int)) := upd_same
        replace N := N.fr0 f34
        replace I := I.fr f34
        replace W0 := W0.fr f34
        replace W1 := W1.fr f34
        replace W2 := W2.fr f34
        replace W3 := W3.fr f34
        replace W4 := W4.fr f34
        replace W5 := W5.fr f34
        replace W6 := W6.fr f34
        replace W7 := W7.fr f34
        replace e_lw := f34.at e_lw (by simp)
        generalize upd G33 t0 (.tup (r0'.map V.int)) = G34 at *
        clear f34 ht0
        walk_at "go"
        refine ⟨by show 2 ≤ sizeLine; decide, fun m0 hm0 => ?_⟩
        have f35 : Fr [] G34 (upd G34 m0 (.tup [.str "row", .ref t0])) := Fr.new hm0
        have e_m0 : upd G34 m0 (.tup [.str "row", .ref t0]) m0 = some (.tup [.str "row", .ref t0]) := upd_same
        replace N := N.fr0 f35
        replace I := I.fr f35
        replace W0 := W0.fr f35
        replace W1 := W1.fr f35
        replace W2 := W2.fr f35
        replace W3 := W3.fr f35
        replace W4 := W4.fr f35
        replace W5 := W5.fr f35
        replace W6 := W6.fr f35
        replace W7 := W7.fr f35
        replace e_lw := f35.at e_lw (by simp)
        replace e_t0 := f35.tp e_t0
        generalize upd G34 m0 (.tup [.str "row", .ref t0]) = G35 at *
        clear f35 hm0
        walk_at "go"
        refine ⟨by show 2 ≤ sizeLine; decide, fun z0 hz0 => ?_⟩
        have f36 : Fr [] G35 (upd G35 z0 (.tup [.str "then", .ref ia])) := Fr.new hz0
        have e_z0 : upd G35 z0 (.tup [.str "then", .ref ia]) z0 = some (.tup [.str "then", .ref ia]) := upd_same
        replace N := N.fr0 f36
        replace I := I.fr f36
        replace W0 := W0.fr f36
        replace W1 := W1.fr f36
        replace W2 := W2.fr f36
        replace W3 := W3.fr f36
        replace W4 := W4.fr f36
        replace W5 := W5.fr f36
        replace W6 := W6.fr f36
        replace W7 := W7.fr f36
        replace e_lw := f36.at e_lw (by simp)
        replace e_t0 := f36.tp e_t0
        replace e_m0 := f36.tp e_m0
        generalize upd G35 z0 (.tup [.str "then", .ref ia]) = G36 at *
        clear f36 hz0
        walk_at "go"
        refine ⟨by show 1 ≤ sizeLine; decide, fun z1 hz1 => ?_⟩
        have f37 : Fr [] G36 (upd G36 z1 (.tup [.ref z0])) := Fr.new hz1
        have e_z1 : upd G36 z1 (.tup [.ref z0]) z1 = some (.tup [.ref z0]) := upd_same
        replace N := N.fr0 f37
        replace I := I.fr f37
        replace W0 := W0.fr f37
        replace W1 := W1.fr f37
        replace W2 := W2.fr f37
        replace W3 := W3.fr f37
        replace W4 := W4.fr f37
        replace W5 := W5.fr f37
        replace W6 := W6.fr f37
        replace W7 := W7.fr f37
        replace e_lw := f37.at e_lw (by simp)
        replace e_t0 := f37.tp e_t0
        replace e_m0 := f37.tp e_m0
        replace e_z0 := f37.tp e_z0
        generalize upd G36 z1 (.tup [.ref z0]) = G37 at *
        clear f37 hz1
        walk_at "go"
        refine ⟨a, sc, 8, rfl, N.st, by decide, by decide, fun r GE r0 r1 SE fE => ?_⟩
        replace N := N.fr fE SE
        replace I := I.fr fE
        replace W0 := W0.fr fE
        replace W1 := W1.fr fE
        replace W2 := W2.fr fE
        replace W3 := W3.fr fE
        replace W4 := W4.fr fE
        replace W5 := W5.fr fE
        replace W6 := W6.fr fE
        replace W7 := W7.fr fE
        replace e_lw := fE.at e_lw (by simpa using nlw)
        replace e_t0 := fE.tp e_t0
        replace e_m0 := fE.tp e_m0
        replace e_z0 := fE.tp e_z0
        replace e_z1 := fE.tp e_z1
        walk_at "go"
        obtain ⟨v, hv, ev⟩ := at_in (xs := [V.ref w0, .ref w1, .ref w2, .ref w3, .ref w4, .ref w5, .ref w6, .ref w7]) (i := r) r0 r1
        refine rd_ixL (SqL.of e_lw) ev ?_
        obtain ⟨wy, gs, rfl, W, okg, nmg, nsg, gne⟩ : ∃ (wy : Addr) (gs : List Sg), v = .ref wy ∧ WayAt GE wy gs ∧ (∀ g ∈ gs, g.ok) ∧ (gs.map Sg.nm).sum ≤ 1 ∧ (gs.map fun g => g.ns + 1).sum ≤ 3 ∧ gs ≠ [] := by
          have k0 : (Sg.one (.keep 0 2)).ok := ⟨by decide, by decide, by decide, by decide⟩
          have u0 : (Sg.one .unlike).ok := trivial
          have d0 : (Sg.one (.drop 100)).ok := ⟨by decide, by decide⟩
          simp only [List.mem_cons, List.not_mem_nil, or_false] at hv
          rcases hv with rfl | rfl | rfl | rfl | rfl | rfl | rfl | rfl
          · exact ⟨w0, _, rfl, W0, by simp [k0], by decide, by decide, by simp⟩
          · exact ⟨w1, _, rfl, W1, by simp [u0], by decide, by decide, by simp⟩
          · have d1 : (Sg.one (.drop (95 + rd))).ok := ⟨by omega, by omega⟩
            exact ⟨w2, _, rfl, W2, by simp [d0, d1], Nat.zero_le _, Nat.le_succ _, by simp⟩
          · have un : (Sg.one (.until 8)).ok := (by unfold numOk; omega : numOk 8)
            exact ⟨w3, _, rfl, W3, by simp [un], by decide, by decide, by simp⟩
          · exact ⟨w4, _, rfl, W4, by simp [k0, u0], by decide, by decide, by simp⟩
          · have e0 : (Sg.one (.each 2)).ok := ⟨by decide, by decide⟩
            exact ⟨w5, _, rfl, W5, by simp [k0, e0], by decide, by decide, by simp⟩
          · exact ⟨w6, _, rfl, W6, by simp [d0, u0], by decide, by decide, by simp⟩
          · have b0 : (Sg.both (.mkr (.count 0 1))).ok := (⟨by unfold numOk; omega, by unfold numOk; omega⟩ : numOk 0 ∧ numOk 1)
            exact ⟨w7, _, rfl, W7, by simp [k0, b0], by decide, by decide, by simp⟩
        clear W0 W1 W2 W3 W4 W5 W6 W7 hv ev e_lw rd0 rd1 SE
        obtain ⟨as, ew, hw⟩ := W
        have hla : as.length = gs.length := hw.len
        have nsl : gs.length ≤ 3 := by
          have : gs.length ≤ (gs.map fun g => g.ns + 1).sum := len_sum gs
          omega
        refine ⟨z1, wy, _, _, rfl, rfl, SqT.of e_z1, SqT.of ew, by simp, by show 1 + (as.map V.ref).length ≤ sizeLine; rw [List.length_map, hla]; exact Nat.le_trans (show 1 + gs.length ≤ 4 by omega) (by decide), fun z => ?_, fun _ sF hsF => ?_⟩
        · refine absurd ?_ gne
          have : as.length = 0 := by simpa using congrArg List.length z
          exact List.eq_nil_of_length_eq_zero (by omega)
        have fF : Fr [] GE (upd GE sF (.tup ([.ref z0] ++ as.map V.ref))) := Fr.new hsF
        have eF : upd GE sF (.tup ([.ref z0] ++ as.map V.ref)) sF = some (.tup (([z0] ++ as).map V.ref)) := by rw [upd_same]; rfl
        replace N := N.fr0 fF
        replace hw := hw.fr fF
        replace e_t0 := fF.tp e_t0
        replace e_m0 := fF.tp e_m0
        replace e_z0 := fF.tp e_z0
        replace I := I.fr fF
        generalize upd GE sF (.tup ([.ref z0] ++ as.map V.ref)) = GF at *
        clear fF hsF e_z1 ew
        walk_at "go"
        refine ⟨by show 2 ≤ sizeLine; decide, fun pF hpF => ?_⟩
        have fG : Fr [] GF (upd GF pF (.tup [.ref m0, .ref sF])) := Fr.new hpF
        have N2 := N.fr0 fG
        have hst : StsAt (upd GF pF (.tup [.ref m0, .ref sF])) (.thn (.mkr (.row r0')) ci) m0 [z0] := StsAt.fr fG (c := .thn (.mkr (.row r0')) ci) ⟨[], z0, ia, rfl, ⟨rfl, t0, e_m0, e_t0⟩, e_z0, I⟩
        have C := sts_fold (hw.fr fG) hst
        have okc : (Ch.thn (.mkr (.row r0')) ci).ok := ⟨N2.q0.ok, okI⟩
        refine k pF (gs.foldl Ch.snoc (.thn (.mkr (.row r0')) ci)) _ ⟨m0, sF, [z0] ++ as, upd_same, fG.tp eF, C⟩ (fold_ok okc okg) ?_ ?_ N2.st N2.f
        · rw [fold_nm]
          show 1 + ci.nm + _ ≤ 4
          omega
        · rw [fold_ns]
          show 0 + ci.ns + 1 + _ ≤ 12
          omega
end
end Dc

set_option Elab.async false
set_option linter.all false
set_option maxRecDepth 100000
set_option maxHeartbeats 2000000
namespace Dc
open PySem PySem.Spec PyProof.Rows L2
local macro_rules | `(tactic| walk_at "ne") => `(tactic| first | assumption | (refine Ne.symm ?_; assumption) | exact ne_of (by assumption) (by assumption) (by intro q; cases q) | exact ne_of_none (by assumption) (by assumption) | exact Ne.symm (ne_of_none (by assumption) (by assumption)))
local macro_rules | `(tactic| walk_at "hp") => `(tactic| first | assumption | exact upd_same | (refine upd_keep ?_ (by assumption); walk_at "hp") | (refine upd_other ?_ ?_; · walk_at "ne"; · walk_at "hp"))
local macro_rules | `(tactic| walk_at "hl") => `(tactic| first | assumption | exact SqL.of (by walk_at "hp"))
local macro_rules | `(tactic| walk_at "ht") => `(tactic| first | assumption | exact SqT.of (by walk_at "hp"))
local macro_rules | `(tactic| walk_at "rd1") => `(tactic| first
  | ((with_reducible apply rd_var); exact rfl)
  | ((with_reducible apply rd_eq); exact rfl) | ((with_reducible apply rd_ne); exact rfl)
  | with_reducible first
  | refine iteT ?_ | refine iteF ?_ | refine rd_nF ?_ | refine rd_nT ?_ | refine rd_yes ?_ | refine rd_c ?_ | refine rd_op ?_ | refine rd_un ?_ | refine rd_test ?_ | refine rd_B ?_ | refine rd_bl ?_ | refine rd_seq ?_ | refine rd_next ?_ | refine rd_ifs ?_ | refine rd_asg ?_ | refine rd_name ?_ | refine rd_ret ?_ | refine rd_drop ?_
  | refine rd_call ?_ | refine rd_cons ?_ | refine rd_nil ?_ | refine rd_cb ?_ | refine rd_I0 ?_ | refine rd_U ?_ | refine rd_gsub ?_ | refine rd_lst ?_ | refine rd_tup ?_ | refine rd_if ?_ | refine rd_not ?_ | refine rd_rng1 ?_ | refine rd_itup ?_ | refine rd_ilst ?_ | refine rd_bm ?_ | refine rd_bm0 ?_ | refine rd_andV ?_ | refine rd_orV ?_ | refine rd_notV ?_)
local macro_rules | `(tactic| walk_at "rd") => `(tactic| repeat walk_at "rd1")
local macro_rules | `(tactic| walk_at "ci") => `(tactic| first | assumption | (show (0 : Int) < _; first | decide | omega) | exact ⟨by decide, by decide⟩ | exact Or.inr ⟨by decide, by decide⟩ | exact Or.inl ⟨by decide, by decide⟩ | exact ⟨by decide, by decide, by decide⟩ | exact Or.inl ⟨by omega, by omega⟩ | exact Or.inr ⟨by omega, by omega⟩)
local macro_rules | `(tactic| walk_at "ix") => `(tactic| first
  | ((with_reducible apply rd_ixL); (walk_at "hl"); exact rfl)
  | ((with_reducible apply rd_ixT); (walk_at "ht"); exact rfl)
  | ((with_reducible apply rd_lenL); (walk_at "hl"))
  | ((with_reducible apply rd_lenT); (walk_at "ht"))
  | ((with_reducible apply rd_tupOf); (walk_at "hl"))
  | ((with_reducible apply rd_listOf); (walk_at "hl"))
  | (with_reducible refine rd_min2 ?_)
  | ((with_reducible apply rd_I); (walk_at "ci"))
  | ((with_reducible apply rd_setL); (walk_at "hp"); exact rfl))
local macro_rules | `(tactic| walk_at "gs") => `(tactic| repeat first | walk_at "rd1" | walk_at "ix")
local macro_rules | `(tactic| walk_at "go") => `(tactic| repeat first | walk_at "rd1" | walk_at "ix" | with_reducible refine rd_and ?_ | with_reducible refine rd_or ?_)
local macro_rules | `(tactic| walk_at "fo") => `(tactic| (with_reducible refine rd_for ?_))
local macro_rules | `(tactic| walk_at "pm") => `(tactic| repeat first
  | with_reducible first | refine rd_pcons ?_ | refine rd_pstr ?_ | refine rd_pcap ?_ | refine rd_pwild ?_ | refine rd_pnil ?_ | refine rd_por ?_ | refine rd_pno ?_
  | ((with_reducible refine rd_eq rfl ?_); refine ⟨_, rfl, ?_⟩; first | refine rd_T rfl ?_ | refine rd_F (by decide) ?_)
  | dsimp only [List.nil_append, List.singleton_append, List.cons_append, setAll])
local macro_rules | `(tactic| walk_at "pc") => `(tactic| (refine rd_case ?_); (first | (refine rd_phit (SqT.of (by assumption)) rfl ?_) | (refine rd_pmiss (SqT.of (by assumption)) (by simp) ?_)); (walk_at "pm"))

def spLaw (K : PySem.W.Frag) (ns : List Int) : Sp := fun vs H Q _ => ∃ (sc : Addr), vs = [.ref sc] ∧ ScAt K ns H sc ∧ ∀ H', Q (.bl true) H'
/-- a list that is kept beside -/
structure Kp (H : Hp) (l : Addr) (vs : List V) (D : DrS) (A : LS) (s : Bool) (own : OwnL) (sa : Addr) : Prop where
  e : H l = some (.lst vs)
  n : l ∉ alls D A s own
  a : l ≠ sa
section
variable {P : Program} {w : World} {K : PySem.W.Frag} {mg : Str → Option Value} {base : Heap} {J : Cls'} {S : List Addr} {H H' H1 : Hp} {A : LS} {D : DrS} {c : Ch} {x : Nd} {s : Bool} {own : OwnL} {ns told : List Int} {sa sc l : Addr} {lost : List Int} {b1 b2 B n : Nat} {vs : List V} {bs : List Int}
theorem Kp.fr0 (k : Kp H l vs D A s own sa) (f : Fr [] H H') : Kp H' l vs D A s own sa := ⟨f.at k.e (by simp), k.n, k.a⟩
theorem Kp.next {s' : Bool} {bs' : List Int} {own' : OwnL} (k : Kp H l vs D A s own sa) (od : ∀ b, b ∈ ods own' → b ∈ ods own ∨ (s = false ∧ H b = none)) (f1 : Fr (A.ads own) H H1) (f : Fr (D.lads s) H1 H') (hs : s = true → s' = true) : Kp H' l vs D A s' own' sa := by
  have n1 : l ∉ D.lads s := fun z => k.n (List.mem_append_left _ z)
  have n2 : l ∉ A.la :: A.ads own := fun z => k.n (List.mem_append_right _ z)
  refine ⟨f.at (f1.at k.e fun z => n2 (List.mem_cons_of_mem _ z)) n1, fun z => ?_, k.a⟩
  rcases List.mem_append.mp z with y | y
  · exact n1 (DrS.lads_sub hs y)
  · rcases ads_new (A := A) od l y with u | u
    · exact n2 u
    · exact nocon u k.e
theorem Kp.new (G : Both J K ns H sa sc c D A x lost b1 b2 s bs own B n) (hl : H l = none) (f : Fr [] H H') (e : H' l = some (.lst vs)) : Kp H' l vs D A s own sa := by
  obtain ⟨⟨_, _, _, q, _⟩, _⟩ := G.sta
  exact ⟨e, fun z => Both.domA G l z hl, (ne_of_none q hl).symm⟩
theorem Kp.put (k : Kp H l vs D A s own sa) (G : Both J K ns H sa sc c D A x lost b1 b2 s bs own B n) (ws : List V) : Both J K ns (upd H l (.lst ws)) sa sc c D A x lost b1 b2 s bs own B n ∧ Kp (upd H l (.lst ws)) l ws D A s own sa := by
  have f : Fr [l] H (upd H l (.lst ws)) := Fr.put (by simp) (nt k.e)
  exact ⟨G.frA f (G.sta.fr f (by simpa using k.a.symm)) (fun b hb z => k.n (List.mem_singleton.mp z ▸ hb)), ⟨upd_same, k.n, k.a⟩⟩
theorem sc_law : FnScope ["_law_script", "_law_state", "_law_turn", "_law_chain", "_law_drawer_here", "_law_d", "_law_told_here", "_law_word", "_law_again", "_law_due", "_law_drawn_here"] ["_law_script"] (defScope s_law) := ⟨rfl, rfl, rfl, by decide +kernel, rfl, by decide +kernel, by decide +kernel⟩
theorem ok_law (T : Txt K mg) {f : Addr} {fd : FuncData} {ns : List Int} (F : FnP K "law" "law" s_law f fd)
    (G__law_start : Cal P w K mg base CX0 1 "_law_start" ["_law_script"] (spStart K ns))
    (G__law_near : Cal P w K mg base CX0 2 "_law_near" ["_law_state"] (spNear K ns))
    (G__law_drawer : Cal P w K mg base CX0 6 "_law_drawer" ["_law_chain"] spDrawerL)
    (G__law_next : Cal P w K mg base CX0 55 "_law_next" ["_law_d"] (spNextL 12))
    (G__law_same : Cal P w K mg base CX0 4 "_law_same" ["_law_found", "_law_due"] (spSame 2))
    (I_Drawer : CalI P w K mg base CX0 14 "Drawer" J.drawer ["self", "chain"] (spDInit J))
    (G_next : CalM P w K mg base CX0 27 J.drawer "next" ["self"] (spNext J 12))
    (G_drawn : CalM P w K mg base CX0 1 J.drawer "drawn" ["self"] (spDrawnP J))
    (G_undone : CalM P w K mg base CX0 1 J.drawer "undone" ["self"] (spUndoneP J))
    (G_first : Cal P w K mg base CX0 28 "first" ["chain", "many"] spFirst) :
    FnOk P w K mg base CX0 56 f fd ["_law_script"] (spLaw K ns) := by
  refine ok0 F sc_law (fun vs H Q E h => ?_) (fun cdv A outer s H vs Q E hr h => ?_)
  · obtain ⟨sc, rfl, _⟩ := h
    rfl
  · obtain ⟨sc, rfl, hS, k⟩ := h
    have hu := room1 hr
    have hu64 := hr.units
    refine ⟨_, (pss_cons (ps_set (i := 1) sc_law.nd rfl (Or.inl rfl) (pe_cal G__law_start (hr.mono (by omega)) pass0 (pa_cons (pv 0) pa_nil)))
  (pss_cons (ps_for PassesOwn.never rfl (pi_range1 (by rfl) T.free_range (pa_cons pe_int pa_nil)) (pg_name (i := 2) sc_law.nd rfl (Or.inl rfl))
    (pss_cons (ps_set (i := 3) sc_law.nd rfl (Or.inl rfl) (pe_cal G__law_near (hr.mono (by omega)) pass0 (pa_cons (pv 1) pa_nil)))
    (pss_cons (ps_set (i := 4) sc_law.nd rfl (Or.inl rfl) (pe_mk I_Drawer (hr.mono (by omega)) pass0 (pa_cons (pv 3) pa_nil)))
    (pss_cons (ps_set (i := 5) sc_law.nd rfl (Or.inl rfl) (pe_cal G__law_drawer (hr.mono (by omega)) pass0 (pa_cons (pv 3) pa_nil)))
    (pss_cons (ps_set (i := 6) sc_law.nd rfl (Or.inl rfl) (pe_lst pa_nil))
    (pss_cons (ps_set (i := 7) sc_law.nd rfl (Or.inl rfl) pe_str)
    (pss_cons (ps_for PassesOwn.never rfl (pi_range1 (by rfl) T.free_range (pa_cons pe_int pa_nil)) (pg_name (i := 8) sc_law.nd rfl (Or.inl rfl))
      (pss_cons (ps_set (i := 9) sc_law.nd rfl (Or.inl rfl) (pe_cal G__law_next (hr.mono (by omega)) pass0 (pa_cons (pv 5) pa_nil)))
      (pss_cons (ps_if (pt_not (pt_val (pe_cal G__law_same (hr.mono (by omega)) pass0 (pa_cons (pe_cm0 (pv 4) G_next (hr.mono (by omega)) pass0) (pa_cons (pv 9) pa_nil)))))
        (pss_one (ps_ret pe_bl)) pss_nil)
      (pss_cons (ps_if (pt_not (pt_val (pe_cal G__law_same (hr.mono (by omega)) pass0 (pa_cons (pe_lst (pa_cons (pe_cm0 (pv 4) G_drawn (hr.mono (by omega)) pass0) (pa_cons (pe_cm0 (pv 4) G_undone (hr.mono (by omega)) pass0) pa_nil))) (pa_cons (pe_lst (pa_cons (pe_dget hu (pv 5) pe_str (fun _ _ => rfl)) (pa_cons (pe_dget hu (pv 5) pe_str (fun _ _ => rfl)) pa_nil))) pa_nil)))))
        (pss_one (ps_ret pe_bl)) pss_nil)
      (pss_one (ps_if (PW.pt (pw_and (pt_cmpR op_eq (pv 7) pe_str (nomark _)) (pw_and1 (pt_cmpR op_eq (pe_ix (ix_tupK K) (pv 9) pe_int (fun _ _ => rfl)) pe_str (nomark _)))))
        (pss_one (ps_expr (pe_bm PySem.F.plainAttrs_list PySem.F.slot_list_append PySem.F.type_list_append mt_append (pv 6) (pa_cons (pe_ix (ix_tupK K) (pv 9) pe_int (fun _ _ => rfl)) pa_nil))))
        (pss_one (ps_if (pt_cmpR op_eq (pv 7) pe_str (nomark _))
          (pss_cons (ps_set (i := 7) sc_law.nd rfl (Or.inl rfl) (pe_ix (ix_tupK K) (pv 9) pe_int (fun _ _ => rfl)))
          (pss_one (ps_set (i := 10) sc_law.nd rfl (Or.inl rfl) (pe_callTy (call_listOfK K) (by rfl) T.free_list (by decide +kernel) (pa_cons (pe_dget hu (pv 5) pe_str (fun _ _ => rfl)) pa_nil))))) pss_nil))))))))
    (pss_cons (ps_if (pt_cmpR op_eq (pv 7) pe_str (nomark _))
      (pss_one (ps_set (i := 10) sc_law.nd rfl (Or.inl rfl) (pe_callTy (call_listOfK K) (by rfl) T.free_list (by decide +kernel) (pa_cons (pe_dget hu (pv 5) pe_str (fun _ _ => rfl)) pa_nil)))) pss_nil)
    (pss_one (ps_if (pt_not (pt_val (pe_cal G__law_same (hr.mono (by omega)) pass0 (pa_cons (pe_cal G_first (hr.mono (by omega)) pass0 (pa_cons (pv 3) (pa_cons pe_int pa_nil))) (pa_cons (pe_tup (pa_cons (pv 6) (pa_cons (pv 7) (pa_cons (pv 10) pa_nil)))) pa_nil)))))
      (pss_one (ps_ret pe_bl)) pss_nil))))))))))
  (pss_one (ps_ret pe_bl)))), ?_⟩
    try dsimp only [cxOf, Cx.nox, Cx.wish]
    refine rd_at (σ' := [some (.ref sc), none, none, none, none, none, none, none, none, none, none]) rfl ?_
    walk_at "go"
    refine ⟨sc, rfl, hS, fun sa H1 S1 n1 f1 => ?_⟩
    walk_at "go"
    walk_at "fo"
    walk_at "go"
    refine ⟨_, rfl, by decide, by decide, ?_⟩
    refine for_range (lo := 0) (n := 3) (fun i σ H2 => ∃ v2 v3 v4 v5 v6 v7 v8 v9 v10 : Option V, σ = [some (.ref sc), some (.ref sa), v2, v3, v4, v5, v6, v7, v8, v9, v10] ∧ StAt K ns H2 sa sc) ⟨_, _, _, _, _, _, _, _, _, rfl, S1⟩ ?_ ?_
    · clear S1 f1 n1 H1
      rintro i0 σ H2 hi ⟨v2, v3, v4, v5, v6, v7, v8, v9, v10, rfl, S2⟩
      walk_at "go"
      refine ⟨sa, sc, rfl, S2, fun p c H3 hc cok cnm cns S3 f3 => ?_⟩
      walk_at "go"
      refine rd_make ?_
      walk_at "go"
      intro x dx hx hdx nd
      have hx' : upd H3 dx (.own x) x = none := by rw [upd_ne nd.symm]; exact hx
      have fm : Fr [] H3 (upd (upd H3 dx (.own x)) x (.ins J.drawer dx [])) := (Fr.new hdx).newN hx'
      refine ⟨x, dx, p, c, rfl, upd_same, hc.fr fm, cok, cnm, cns, fun H4 D hda dr dfr f4 => ⟨rfl, ?_⟩⟩
      subst hda
      have f34 : Fr [] H3 H4 := fm.trans f4 fun b hb => by rw [List.mem_singleton] at hb; rw [hb]; exact .inr hx
      have dn3 : ∀ b, b ∈ D.ads → H3 b = none := fun b hb => by
        rcases dfr b hb with z | z
        · rw [z]; exact hx
        · exact fm.free (by simp) z
      have S4 := S3.fr f34 (by simp)
      replace hc := hc.fr f34
      clear fm f4 dfr hx' hx hdx nd
      walk_at "go"
      refine ⟨p, c, rfl, hc, cnm, cns, fun H5 A hp ld lfr f5 => ?_⟩
      have S5 := S4.fr f5 (by simp)
      have dr5 := dr.fr f5 (fun _ _ => by simp)
      have B5 : Both J K ns H5 sa sc c D A c.nd [] 200 0 false [] [] 0 0 := by
        have lf : ∀ b, b ∈ A.la :: A.ads [] → H4 b = none := fun b hb => lfr b (by
          simp only [LS.ads, ods, List.filterMap_nil, List.mem_cons, List.not_mem_nil, or_false] at hb ⊢
          rcases hb with z | z | z | z | z | z <;> simp [z])
        obtain ⟨⟨_, _, _, q4, _⟩, _⟩ := id S4
        obtain ⟨⟨_, _, _, q3, _⟩, _⟩ := id S3
        have := nd_alive c
        have := nd_dep c
        exact ⟨S5, dr5, ld, fun b hb z => dr.dom b z (lf b hb), fun z => nocon (dn3 _ z) q3, fun z => nocon (lf _ z) q4, Ch.nd_inv cok, by omega, by show 0 + c.nd.alive ≤ 1000; omega, nd_le c, by rw [nd_gv, List.length_replicate]; exact cnm, Nat.le_refl _⟩
      clear lfr f5 dr ld hc S4 dn3 f34 dr5 f3 S2 S5
      subst hp
      have P0 := PInv.new cok cnm cns
      walk_at "go"
      refine ⟨Nat.zero_le _, fun l hl => ?_⟩
      have B6 := B5.fr0 (Fr.new (o := .lst []) hl)
      have k6 : Kp (upd H5 l (.lst [])) l [] D A false [] sa := Kp.new B5 hl (Fr.new hl) upd_same
      generalize upd H5 l (.lst []) = H6 at *
      clear B5 hl
      walk_at "go"
      walk_at "fo"
      walk_at "go"
      refine ⟨_, rfl, by decide, by decide, ?_⟩
      refine for_range (lo := 0) (n := 6) (fun i σ H => ∃ (X : Nat → Nd) (L : Nat → List Int) (told : List Int) (word : Str) (x : Nd) (lost : List Int) (b1 b2 : Nat) (s : Bool) (own : OwnL) (v8 v9 v10 : Option V), σ = [some (.ref sc), some (.ref sa), some (.int (0 + (i0 : Int))), some (.ref A.p), some (.ref D.da), some (.ref A.ld), some (.ref l), some (.str word), v8, v9, v10] ∧
        Both J K ns H sa sc c D A x lost b1 b2 s [] own (200 * i) 0 ∧ Kp H l (told.map V.int) D A s own sa ∧ PathN c X L told ∧ ((word = "more" ∧ s = false ∧ x = X told.length ∧ lost = L told.length ∧ told.length = i) ∨ (word ≠ "more" ∧ ∃ dl xd, v10 = some (.ref dl) ∧ Kp H dl (xd.gv.map V.int) D A s own sa ∧ FEnd X L told 6 word xd))) ⟨fun _ => c.nd, fun _ => [], [], "more", c.nd, [], 200, 0, false, [], _, _, _, rfl, B6, k6, ⟨rfl, rfl, fun i v e => by cases e⟩, .inl ⟨rfl, rfl, rfl, rfl, rfl⟩⟩ ?_ ?_
      · clear B6 k6 H6
        rintro i σ H hi6 ⟨X, L, told, word, x, lost, b1, b2, s', own, v8, v9, v10, rfl, B, kl, G, hw⟩
        obtain ⟨r, x', lost', s1, bs1, b1', b2', N1, N2, hi', hd', ha', hl', hg', hb', hs'⟩ := next_both (b1 := b1) (b2 := b2) (s := s') (bs := []) B.inv B.dep B.al B.le
        have hbs : bs1 = [] := List.eq_nil_of_length_eq_zero (by simpa using hb')
        subst hbs
        walk_at "go"
        refine ⟨A, c, x, ⟨b2, lost⟩, s', [], own, r, x', ⟨b2', lost'⟩, s1, [], rfl, B.ld, B.inv, B.dep, B.al, Nd.le.mono (Nat.le_of_lt (Nat.lt_of_le_of_lt (show 200 * i ≤ 200 * 6 by omega) (by decide))) B.le, B.nm, N2, fun H3 q own' eq l3 od f3 => ?_⟩
        have dr3 := B.dr.fr f3 (fun b hb z => B.a1 b (List.mem_cons_of_mem _ z) hb)
        walk_at "go"
        obtain ⟨dx, eo⟩ := dr3.ob
        refine rd_meth ?_
        walk_at "go"
        refine rd_m eo rfl ?_
        walk_at "go"
        refine ⟨D, x, ⟨b1, lost⟩, s', [], r, x', ⟨b1', lost'⟩, s1, [], rfl, dr3, B.inv, B.dep, B.al, N1, fun H4 q' eq' dr4 f4 => ?_⟩
        have eq4 := f4.tp eq
        have B4 := B.next l3 od f3 dr4 f4 hi' hd' ha' hl' hg' hb' hs'
        have kl4 := kl.next (bs' := []) od f3 f4 hs'
        have kd4 : ∀ {dl : Addr} {vs : List V}, Kp H dl vs D A s' own sa → Kp H4 dl vs D A s1 own' sa := fun k => k.next (bs' := []) od f3 f4 hs'
        clear l3 od f3 dr3 dr4 f4 eq eo
        walk_at "go"
        refine ⟨.ref q', .ref q, rfl, sm_vals eq' eq4, fun H5 f5 => ?_⟩
        have B5 := B4.fr0 f5
        have g5 := f5
        replace eq4 := f5.tp eq4
        clear f5 eq'
        walk_at "go"
        obtain ⟨dx, eo⟩ := B5.dr.ob
        refine rd_meth ?_
        walk_at "go"
        refine rd_m eo rfl ?_
        walk_at "go"
        refine ⟨D, x', ⟨b1', lost'⟩, s1, [], rfl, B5.dr, fun H6 q6 e6 n6 dr6 f6 => ?_⟩
        have B6 := B5.fr0 f6
        walk_at "go"
        obtain ⟨dx, eo⟩ := B6.dr.ob
        refine rd_meth ?_
        walk_at "go"
        refine rd_m eo rfl ?_
        walk_at "go"
        refine ⟨D, x', ⟨b1', lost'⟩, s1, [], rfl, B6.dr, fun H7 q7 e7 n7 dr7 f7 => ?_⟩
        have B7 := B6.fr0 f7
        replace e6 := f7.at e6 (by simp)
        walk_at "go"
        refine ⟨by show 2 ≤ sizeLine; decide, fun q8 n8 => ?_⟩
        have f8 : Fr [] H7 (upd H7 q8 (.lst [.ref q6, .ref q7])) := Fr.new n8
        have B8 := B7.fr0 f8
        have e8 : upd H7 q8 (.lst [.ref q6, .ref q7]) q8 = some (.lst [.ref q6, .ref q7]) := upd_same
        replace e6 := f8.at e6 (by simp)
        replace e7 := f8.at e7 (by simp)
        generalize upd H7 q8 (.lst [.ref q6, .ref q7]) = H8 at *
        walk_at "go"
        refine rd_gk rfl B8.ld.la.ob rfl ?_
        walk_at "go"
        refine rd_gk rfl B8.ld.la.ob rfl ?_
        walk_at "go"
        refine ⟨by show 2 ≤ sizeLine; decide, fun q9 n9 => ?_⟩
        have f9 : Fr [] H8 (upd H8 q9 (.lst [.ref A.lg, .ref A.ll])) := Fr.new n9
        have B9 := B8.fr0 f9
        have e9 : upd H8 q9 (.lst [.ref A.lg, .ref A.ll]) q9 = some (.lst [.ref A.lg, .ref A.ll]) := upd_same
        replace e6 := f9.at e6 (by simp)
        replace e7 := f9.at e7 (by simp)
        replace e8 := f9.at e8 (by simp)
        generalize upd H8 q9 (.lst [.ref A.lg, .ref A.ll]) = H9 at *
        walk_at "go"
        refine ⟨.ref q8, .ref q9, rfl, sm_pair e8 e9 (sm_ints e6 B9.ld.la.lg (by have := B9.nm; omega)) (sm_ints e7 B9.ld.la.ll (by have := B9.al; show lost'.length ≤ 10000; omega)), fun H10 f10 => ?_⟩
        have B10 := B9.fr0 f10
        have f40 : Fr [] H4 H10 := (((((g5.tr f6).tr f7).tr f8).tr f9).tr f10)
        have kl10 := kl4.fr0 f40
        replace eq4 := (((((f6.tr f7).tr f8).tr f9).tr f10)).tp eq4
        have kd10 : ∀ {dl : Addr} {vs : List V}, Kp H dl vs D A s' own sa → Kp H10 dl vs D A s1 own' sa := fun k => (kd4 k).fr0 f40
        clear B4 B5 B6 B7 B8 B9 dr6 dr7 f6 f7 f8 f9 f10 e6 e7 e8 e9 n6 n7 n8 n9 eo g5 f40 kd4 kl4
        walk_at "go"
        rcases hw with ⟨rfl, rfl, rfl, rfl, hi⟩ | ⟨hm, dl, xd, rfl, kd, E1⟩
        · obtain ⟨⟨f, hd⟩, hl1⟩ : (∃ f, draw f (X told.length) ⟨0, L told.length⟩ = some (r, x', ⟨b1', lost'⟩)) ∧ s1 = r.isLong := by
            rcases N1 with ⟨b, v, e, _⟩ | ⟨_, e, _⟩ | ⟨_, _, hd, e, _⟩
            · have := congrArg List.length e
              simp at this
            · cases e
            · exact ⟨hd, e⟩
          refine rd_T rfl ?_
          cases r with
          | num v =>
            subst hl1
            replace eq4 : H10 q = some (.tup [.str "number", .int v]) := eq4
            walk_at "go"
            refine rd_T rfl ?_
            walk_at "go"
            refine ⟨tyl kl10.e, ?_⟩
            walk_at "go"
            refine rd_append kl10.e (by rw [List.length_map]; exact Nat.lt_of_le_of_lt (show told.length ≤ 6 by omega) (by decide)) ?_
            walk_at "go"
            obtain ⟨B11, kl11⟩ := kl10.put B10 (told.map V.int ++ [.int v])
            have e1 : (told ++ [v]).length = told.length + 1 := by simp
            refine ⟨_, _, told ++ [v], "more", x', lost', b1', b2', false, own', _, _, _, rfl, B11, by rw [List.map_append]; exact kl11, G.snoc hd, .inl ⟨rfl, rfl, ?_, ?_, by rw [e1, hi]⟩⟩
            · show x' = if (told ++ [v]).length ≤ told.length then _ else x'
              rw [if_neg (by omega)]
            · show lost' = if (told ++ [v]).length ≤ told.length then _ else lost'
              rw [if_neg (by omega)]
          | fin =>
            subst hl1
            replace eq4 : H10 q = some (.tup [.str "end"]) := eq4
            walk_at "go"
            refine rd_F (by decide) ?_
            walk_at "go"
            refine rd_T rfl ?_
            walk_at "go"
            refine rd_gk rfl B10.ld.la.ob rfl ?_
            walk_at "go"
            refine rd_listOf (SqL.of B10.ld.la.lg) fun dl hdl => ?_
            have fd : Fr [] H10 (upd H10 dl (.lst (x'.gv.map V.int))) := Fr.new hdl
            walk_at "go"
            exact ⟨X, L, told, "end", x', lost', b1', b2', _, own', _, _, _, rfl, B10.fr0 fd, kl10.fr0 fd, G, .inr ⟨by decide, dl, x', rfl, Kp.new B10 hdl fd upd_same, .inr ⟨by omega, f, .fin, b1', lost', hd, (fun v z => by cases z), rfl⟩⟩⟩
          | long =>
            subst hl1
            replace eq4 : H10 q = some (.tup [.str "long"]) := eq4
            walk_at "go"
            refine rd_F (by decide) ?_
            walk_at "go"
            refine rd_T rfl ?_
            walk_at "go"
            refine rd_gk rfl B10.ld.la.ob rfl ?_
            walk_at "go"
            refine rd_listOf (SqL.of B10.ld.la.lg) fun dl hdl => ?_
            have fd : Fr [] H10 (upd H10 dl (.lst (x'.gv.map V.int))) := Fr.new hdl
            walk_at "go"
            exact ⟨X, L, told, "long", x', lost', b1', b2', _, own', _, _, _, rfl, B10.fr0 fd, kl10.fr0 fd, G, .inr ⟨by decide, dl, x', rfl, Kp.new B10 hdl fd upd_same, .inr ⟨by omega, f, .long, b1', lost', hd, (fun v z => by cases z), rfl⟩⟩⟩
        · have hm' : ¬ (V.str word = V.str "more") := fun z => hm (V.str.inj z)
          refine rd_F hm' ?_
          walk_at "go"
          refine rd_F hm' ?_
          walk_at "go"
          exact ⟨X, L, told, word, x', lost', b1', b2', _, own', _, _, _, rfl, B10, kl10, G, .inr ⟨hm, dl, xd, rfl, kd10 kd, E1⟩⟩
      · rintro σ H ⟨X, L, told, word, x, lost, b1, b2, s', own, v8, v9, v10, rfl, B, kl, G, hw⟩
        dsimp only
        refine rd_seq ?_
        refine ifs_coreN (fun σ' H' => ∃ (v10 : Option V) (dl : Addr) (xd : Nd), σ' = [some (.ref sc), some (.ref sa), some (.int (0 + (i0 : Int))), some (.ref A.p), some (.ref D.da), some (.ref A.ld), some (.ref l), some (.str word), v8, v9, some (.ref dl)] ∧ Both J K ns H' sa sc c D A x lost b1 b2 s' [] own (200 * 6) 0 ∧ H' l = some (.lst (told.map V.int)) ∧ H' dl = some (.lst (xd.gv.map V.int)) ∧ FEnd X L told 6 word xd) ?_ (fun nx' hn => ?_)
        rotate_left
        · walk_at "go"
          rcases hw with ⟨rfl, rfl, rfl, rfl, hi⟩ | ⟨hm, dl, xd, rfl, kd, E1⟩
          · refine rd_T rfl ?_
            walk_at "go"
            refine rd_gk rfl B.ld.la.ob rfl ?_
            walk_at "go"
            refine rd_listOf (SqL.of B.ld.la.lg) fun dl hdl => ?_
            have fd : Fr [] H (upd H dl (.lst ((X told.length).gv.map V.int))) := Fr.new hdl
            exact hn _ _ ⟨none, dl, X told.length, rfl, B.fr0 fd, (kl.fr0 fd).e, upd_same, .inl ⟨hi, rfl, rfl⟩⟩
          · have hm' : ¬ (V.str word = V.str "more") := fun z => hm (V.str.inj z)
            refine rd_F hm' ?_
            walk_at "go"
            exact hn _ _ ⟨none, dl, xd, rfl, B, kl.e, kd.e, E1⟩
        · clear B kl hw
          rintro σ' H' ⟨_, dl, xd, rfl, B, el, ed, E1⟩
          have hT : told.length ≤ 6 := by rcases E1 with ⟨z, _⟩ | ⟨z, _⟩ <;> omega
          have hN : xd.gv.length ≤ 4 := by
            rcases E1 with ⟨_, _, rfl⟩ | ⟨_, f, r, b, l1, hd, _⟩
            · exact (G.at P0 _ (Nat.le_refl _)).nm
            · exact ((G.at P0 _ (Nat.le_refl _)).next hd).nm
          walk_at "go"
          refine ⟨A.p, c, X, L, told, 6, word, xd, rfl, B.ld.ch, cok, cnm, cns, by omega, G, E1, fun H3 q a b3 eq ea eb na nb nab f3 => ?_⟩
          walk_at "go"
          refine ⟨by show 3 ≤ sizeLine; decide, fun q5 h5 => ?_⟩
          have f5 : Fr [] H3 (upd H3 q5 (.tup [.ref l, .str word, .ref dl])) := Fr.new h5
          have e5 : upd H3 q5 (.tup [.ref l, .str word, .ref dl]) q5 = some (.tup [.ref l, .str word, .ref dl]) := upd_same
          have f15 := f3.tr f5
          walk_at "go"
          refine ⟨.ref q, .ref q5, rfl, sm_triple (f5.tp eq) e5 (sm_ints (f5.at ea (by simp)) (f15.at el (by simp)) (by omega)) sm_str (sm_ints (f5.at eb (by simp)) (f15.at ed (by simp)) (by omega)), fun H6 f6 => ?_⟩
          walk_at "go"
          exact ⟨_, _, _, _, _, _, _, _, _, rfl, B.sta.fr (f15.tr f6) (by simp)⟩
    · rintro σ H2 ⟨v2, v3, v4, v5, v6, v7, v8, v9, v10, rfl, S2⟩
      walk_at "go"
      exact k _
end
end Dc

set_option Elab.async false
set_option linter.all false
set_option maxRecDepth 100000
set_option maxHeartbeats 2000000
namespace Dc
open PySem PySem.Spec PyProof.Rows L2
/-- the law's own drawing of numbers -/
structure StartL (K : PySem.W.Frag) (mg : Str → Option Value) : Prop where
  start : FnM K mg "_law_start" s__law_start
  drawn : FnM K mg "_law_drawn" s__law_drawn
section
variable {P : Program} {w : World} {K : PySem.W.Frag} {mg : Str → Option Value} {base : Heap} {J : Cls'}
theorem l_drawn (T : Txt K mg) (L : StartL K mg) {ns : List Int} (hl : ns.length ≤ 63) : Cal P w K mg base CX0 1 "_law_drawn" ["_law_state", "_law_many"] (spDrawn K ns) := by
  obtain ⟨f, fd, F, g⟩ := L.drawn
  exact cal_of F g (ok_law_drawn T F hl) fun _ _ _ _ _ _ us hl => match us, hl with | [_, _], _ => rfl
theorem l_start (T : Txt K mg) (L : StartL K mg) {ns : List Int} : Cal P w K mg base CX0 1 "_law_start" ["_law_script"] (spStart K ns) := by
  obtain ⟨f, fd, F, g⟩ := L.start
  exact cal_of F g (ok_law_start T F) fun _ _ _ _ _ _ us hl => match us, hl with | [_], _ => rfl
end
end Dc

set_option Elab.async false
set_option linter.all false
set_option maxRecDepth 100000
set_option maxHeartbeats 2000000
namespace Dc
open PySem PySem.Spec PyProof.Rows L2
/-- numbers are drawn stage by stage -/
structure DrawsL (K : PySem.W.Frag) (mg : Str → Option Value) : Prop where
  makers : FnM K mg "_law_makers" s__law_makers
  drawer : FnM K mg "_law_drawer" s__law_drawer
  source : FnM K mg "_law_source" s__law_source
  draw : FnM K mg "_law_draw" s__law_draw
  beside : FnM K mg "_law_beside" s__law_beside
  by_ : FnM K mg "_law_by" s__law_by
  lets_go : FnM K mg "_law_lets_go" s__law_lets_go
  told : FnM K mg "_law_told" s__law_told
  next : FnM K mg "_law_next" s__law_next
  same : FnM K mg "_law_same" s__law_same
section
variable {P : Program} {w : World} {K : PySem.W.Frag} {mg : Str → Option Value} {base : Heap} {J : Cls'}
theorem l_drawer (T : Txt K mg) (L : DrawsL K mg) : Cal P w K mg base CX0 6 "_law_drawer" ["_law_chain"] spDrawerL := by
  obtain ⟨fM, dM, FM, gM⟩ := L.makers
  obtain ⟨f, fd, F, g⟩ := L.drawer
  exact cal_of F g (ok_law_drawer T F (lawmakers T FM gM 4 (by omega))) fun _ _ _ _ _ _ us hl => match us, hl with | [_], _ => rfl
theorem l_next (T : Txt K mg) (L : DrawsL K mg) (d : Nat) : Cal P w K mg base CX0 (4 * d + 7) "_law_next" ["_law_d"] (spNextL d) := by
  obtain ⟨fS, dS, FS, gS⟩ := L.source
  obtain ⟨fM, dM, FM, gM⟩ := L.makers
  obtain ⟨fG, dG, FG, gG⟩ := L.lets_go
  obtain ⟨fD, dD, FD, gD⟩ := L.draw
  obtain ⟨fB, dB, FB, gB⟩ := L.beside
  obtain ⟨fY, dY, FY, gY⟩ := L.by_
  obtain ⟨fT, dT, FT, gT⟩ := L.told
  obtain ⟨fN, dN, FN, gN⟩ := L.next
  exact cal_of FN gN (ok_law_next T FN (lawdraws T FS gS FM gM FG gG FD gD FB gB FY gY FT gT d)) fun _ _ _ _ _ _ us hl => match us, hl with | [_], _ => rfl
theorem l_same (T : Txt K mg) (L : DrawsL K mg) (n : Nat) : Cal P w K mg base CX0 (n + 2) "_law_same" ["_law_found", "_law_due"] (spSame n) := by
  obtain ⟨f, fd, F, g⟩ := L.same
  exact sames T F g n
end
end Dc

set_option Elab.async false
set_option linter.all false
set_option maxRecDepth 100000
set_option maxHeartbeats 2000000
namespace Dc
open PySem PySem.Spec PyProof.Rows L2
section
variable {P : Program} {w : World} {K : PySem.W.Frag} {mg : Str → Option Value} {base : Heap} {J : Cls'}
theorem firsts (T : Txt K mg) (R : ProgA P K mg J) (I : FnM K mg "first" s_first) : Cal P w K mg base CX0 28 "first" ["chain", "many"] spFirst := by
  obtain ⟨f1, d1, F1, g1⟩ := R.is_number
  obtain ⟨f2, d2, F2, g2⟩ := R.is_within
  obtain ⟨f, fd, F, g⟩ := I
  have G1 : Cal P w K mg base CX0 1 "is_number" ["number"] spIsNumber := cal_of F1 g1 (ok_is_number T F1) fun _ _ _ _ _ _ us hl => match us, hl with | [_], _ => rfl
  have G2 : Cal P w K mg base CX0 2 "is_within" ["number", "low", "high"] spIsWithin := cal_of F2 g2 (ok_is_within T F2 G1) fun _ _ _ _ _ _ us hl => match us, hl with | [_, _, _], _ => rfl
  exact cal_of F g (ok_first T F G2 (makes T R) (nexts T R 12) (drawns T R)) fun _ _ _ _ _ _ us hl => match us, hl with | [_, _], _ => rfl
theorem law_fn (T : Txt K mg) (R : ProgA P K mg J) (U : ProgU K J) (S : StartL K mg) (L : DrawsL K mg) (Ne : FnM K mg "_law_near" s__law_near) (I : FnM K mg "first" s_first) {f : Addr} {fd : FuncData} (F : FnP K "law" "law" s_law f fd) {ns : List Int} (hl : ns.length ≤ 63) : FnOk P w K mg base CX0 56 f fd ["_law_script"] (spLaw K ns) := by
  obtain ⟨fN, dN, FN, gN⟩ := Ne
  have GN : Cal P w K mg base CX0 2 "_law_near" ["_law_state"] (spNear K ns) := cal_of FN gN (ok_law_near T FN (l_drawn T S hl)) fun _ _ _ _ _ _ us hl => match us, hl with | [_], _ => rfl
  exact ok_law T F (l_start T S) GN (l_drawer T L) (l_next T L 12) (l_same T L 2) (makes T R) (nexts T R 12) (drawns T R) (undones T R U) (firsts T R I)
end
end Dc

set_option Elab.async false
set_option linter.all false
set_option maxRecDepth 100000
set_option maxHeartbeats 0
namespace Dc
open PySem PySem.Spec PyProof.Rows L2
theorem all_at {α : Type} {l : List α} {p : α → Bool} (h : l.all p = true) (i : Nat) {x : α} (e : l[i]? = some x := by rfl) : p x = true := List.all_eq_true.mp h x (List.mem_of_getElem? e)
theorem map_at {α β : Type} {l : List α} {f g : α → β} (h : l.map f = l.map g) (i : Nat) {x : α} (e : l[i]? = some x := by rfl) : f x = g x := by
  have h1 : (l.map f)[i]? = (l.map g)[i]? := by rw [h]
  rw [List.getElem?_map, List.getElem?_map, e] at h1
  exact Option.some.inj h1
section
variable {w : World} {K : PySem.W.Frag} {h : Heap} {mg : Str → Option Value}
def jK (K : PySem.W.Frag) : Cls' := ⟨He.ga K "Count", He.ga K "Row", He.ga K "Reckon", He.ga K "Keep", He.ga K "Drop", He.ga K "Take", He.ga K "Each", He.ga K "Until", He.ga K "Unlike", He.ga K "Both", He.ga K "Then", He.ga K "Meter", He.ga K "Drawer", He.ga K "LongDraw"⟩
structure Facts (K : PySem.W.Frag) : Prop where
  hglobs : (globs.all fun x => (He.Fa.glo x).ok K) = true
  hfrees : (frees.all fun x => (He.Fa.free x).ok K) = true
  hcons_ : (cons_.all fun q => (He.Fa.int q.1 q.2).ok K) = true
  hclss : (clss.all fun x => (He.Fa.cls x).ok K) = true
  hnodes : (nodes.all fun x => flds.all fun f => (He.Fa.noat x f).ok K) = true
  hnas : (nas.all fun q => (He.Fa.noat q.1 q.2).ok K) = true
  hmths : (mths.all fun q => (He.Fa.meth q.1 q.2).ok K) = true
  hmkrs : (mkrs.all fun x => (He.Fa.mkr x).ok K) = true
  long : longB K = true
  exm : (He.Fa.exm "LongDraw" "LongDraw" true).ok K = true
  nodup : (List.map (He.ga K) Dc.nodes).Nodup
  hsups : (sups.all fun q => supB K q) = true
  stg2 : stg2B K = true
  defs : (fns.all fun d => d.ok K) = true
  fnw : (fns.map fun d => He.fnW K d.at_) = fns.map He.DefD.val
  supw : (supD.map fun d => supW K d.at_) = supD.map He.DefD.val
theorem facts_of (e : obsK K = valZ) : Facts K := by
  have e1 : (exB K && fns.all fun d => d.ok K) = true := congrArg (fun z : AlZ => z.1) e
  obtain ⟨x0, d0⟩ := He.ba e1
  obtain ⟨c1, x0⟩ := He.ba x0
  obtain ⟨c2, x0⟩ := He.ba x0
  obtain ⟨c3, x0⟩ := He.ba x0
  obtain ⟨c4, x0⟩ := He.ba x0
  obtain ⟨c5, x0⟩ := He.ba x0
  obtain ⟨c6, x0⟩ := He.ba x0
  obtain ⟨c7, x0⟩ := He.ba x0
  obtain ⟨c8, x0⟩ := He.ba x0
  obtain ⟨c9, x0⟩ := He.ba x0
  obtain ⟨c10, x0⟩ := He.ba x0
  obtain ⟨c11, x0⟩ := He.ba x0
  obtain ⟨c12, c13⟩ := He.ba x0
  exact ⟨c1, c2, c3, c4, c5, c6, c7, c8, c9, c10, of_decide_eq_true c11, c12, c13, d0, congrArg (fun z : AlZ => z.2.1) e, congrArg (fun z : AlZ => z.2.2) e⟩
theorem Facts.glo (c : Facts K) (X : K.In h) (G : h.Ns mainGlobals mg) (i : Nat) {x : Str} (e : globs[i]? = some x := by rfl) : mg x = some (.ref (He.ga K x)) := He.glo_ok X G (all_at (p := fun x => (He.Fa.glo x).ok K) c.hglobs i e)
theorem Facts.free (c : Facts K) (X : K.In h) (G : h.Ns mainGlobals mg) (i : Nat) {x : Str} (e : frees[i]? = some x := by rfl) : mg x = none := He.free_ok X G (all_at (p := fun x => (He.Fa.free x).ok K) c.hfrees i e)
theorem Facts.con (c : Facts K) (X : K.In h) (G : h.Ns mainGlobals mg) (i : Nat) {x : Str} {n : Int} (e : cons_[i]? = some (x, n) := by rfl) : ∃ t, mg x = some (.int n t) := He.int_ok X G (all_at (p := fun q => (He.Fa.int q.1 q.2).ok K) c.hcons_ i e)
theorem Facts.cl (c : Facts K) (i : Nat) {x : Str} (e : clss[i]? = some x := by rfl) : Cls K (He.ga K x) := He.cls_ok (all_at (p := fun x => (He.Fa.cls x).ok K) c.hclss i e)
theorem Facts.nat (c : Facts K) (i : Nat) {x f : Str} (e : Dc.nas[i]? = some (x, f) := by rfl) : NoAttr K (He.ga K x) f := He.noat_ok (all_at (p := fun q => (He.Fa.noat q.1 q.2).ok K) c.hnas i e)
theorem Facts.mth (c : Facts K) (i : Nat) {x m : Str} (e : Dc.mths[i]? = some (x, m) := by rfl) : Meth K (He.ga K x) m (He.ma K (He.ga K x) m) := He.meth_ok (all_at (p := fun q => (He.Fa.meth q.1 q.2).ok K) c.hmths i e)
theorem Facts.mkr (c : Facts K) (i : Nat) {x : Str} (e : Dc.mkrs[i]? = some x := by rfl) : Mk K (He.ga K x) (He.ma K (He.ga K x) "__init__") := He.mkr_ok (all_at (p := fun x => (He.Fa.mkr x).ok K) c.hmkrs i e)
theorem Facts.def_ (c : Facts K) (i : Nat) {d : He.DefD} (e : fns[i]? = some d := by rfl) : ∃ fd, FunD K d.name d.qual d.params d.body d.scope (d.dvs K) (d.kws K) (He.fAd K d.at_) fd := He.DefD.funD (map_at (f := fun d => He.fnW K d.at_) (g := He.DefD.val) c.fnw i e) (all_at (p := fun d => d.ok K) c.defs i e)
theorem Facts.na (c : Facts K) (i j : Nat) {x f : Str} (e : Dc.nodes[i]? = some x := by rfl) (e2 : flds[j]? = some f := by rfl) : NoAttr K (He.ga K x) f := He.noat_ok (all_at (p := fun f => (He.Fa.noat x f).ok K) (all_at (p := fun x => flds.all fun f => (He.Fa.noat x f).ok K) c.hnodes i e) j e2)
theorem txt (c : Facts K) (X : K.In h) (G : h.Ns mainGlobals mg) : Txt K mg :=
  ⟨c.free X G 0, c.free X G 1, c.free X G 2, c.free X G 3, c.free X G 4, c.free X G 5, c.free X G 6, c.free X G 7, c.free X G 8, c.free X G 9, c.free X G 10, c.con X G 0, c.con X G 1, c.con X G 2, c.con X G 3, c.con X G 4, c.con X G 5⟩
theorem long_of (c : Facts K) (X : K.In h) (G : h.Ns mainGlobals mg) : LongF K mg (jK K) := by
  obtain ⟨c1, z⟩ := He.ba c.long
  obtain ⟨c2, z⟩ := He.ba z
  obtain ⟨c3, c4⟩ := He.ba z
  exact ⟨c1, c.glo X G 27, c2, of_decide_eq_true c3, of_decide_eq_true c4⟩
theorem met_of (c : Facts K) : MetF K (jK K) := ⟨c.cl 11, c.nat 0, c.nat 1, c.nat 2⟩
theorem drf_of (c : Facts K) : DrF K (jK K) := ⟨c.cl 12, c.nat 3, c.nat 4, c.nat 5, c.nat 6⟩
theorem draw_ga {C : Addr} (hC : DrawC (jK K) C) : ∃ (i : Nat) (x : Str), nodes[i]? = some x ∧ C = He.ga K x := by
  rcases hC with z | z | z | z | z | z | z | z | z | z | z
  · exact ⟨0, _, rfl, z⟩
  · exact ⟨1, _, rfl, z⟩
  · exact ⟨2, _, rfl, z⟩
  · exact ⟨3, _, rfl, z⟩
  · exact ⟨4, _, rfl, z⟩
  · exact ⟨5, _, rfl, z⟩
  · exact ⟨6, _, rfl, z⟩
  · exact ⟨7, _, rfl, z⟩
  · exact ⟨8, _, rfl, z⟩
  · exact ⟨9, _, rfl, z⟩
  · exact ⟨10, _, rfl, z⟩
theorem node_of (c : Facts K) : NodeF K (jK K) := by
  have na : ∀ (C : Addr), DrawC (jK K) C → ∀ (j : Nat) (f : Str), flds[j]? = some f → NoAttr K C f := fun C hC j f e => by
    obtain ⟨i, x, e1, rfl⟩ := draw_ga hC
    exact c.na i j e1 e
  have cl : ∀ C, DrawC (jK K) C → Cls K C := fun C hC => by
    rcases hC with rfl | rfl | rfl | rfl | rfl | rfl | rfl | rfl | rfl | rfl | rfl
    · exact c.cl 0
    · exact c.cl 1
    · exact c.cl 2
    · exact c.cl 3
    · exact c.cl 4
    · exact c.cl 5
    · exact c.cl 6
    · exact c.cl 7
    · exact c.cl 8
    · exact c.cl 9
    · exact c.cl 10
  exact ⟨cl, fun C hC => na C hC 0 _ rfl, fun C hC => na C hC 1 _ rfl, fun C hC => na C hC 2 _ rfl, fun C hC => na C hC 3 _ rfl, fun C hC => na C hC 4 _ rfl, fun C hC => na C hC 5 _ rfl, fun C hC => na C hC 6 _ rfl, fun C hC => na C hC 7 _ rfl, fun C hC => na C hC 8 _ rfl, fun C hC => na C hC 9 _ rfl, fun C hC => na C hC 10 _ rfl, fun C hC => na C hC 11 _ rfl, fun C hC => na C hC 12 _ rfl, fun C hC => na C hC 13 _ rfl, fun C hC => na C hC 14 _ rfl, fun C hC => na C hC 15 _ rfl, fun C hC => na C hC 16 _ rfl⟩
theorem mt_Meter_note_drawn (c : Facts K) : MT K (jK K).meter "note_drawn" "note_drawn" "Meter.note_drawn" s_Meter_note_drawn := by
  obtain ⟨fd, F⟩ := c.def_ 30
  exact ⟨_, fd, F, c.mth 2⟩
theorem mt_Meter_note_undone (c : Facts K) : MT K (jK K).meter "note_undone" "note_undone" "Meter.note_undone" s_Meter_note_undone := by
  obtain ⟨fd, F⟩ := c.def_ 31
  exact ⟨_, fd, F, c.mth 3⟩
theorem mt_Meter_enter (c : Facts K) : MT K (jK K).meter "enter" "enter" "Meter.enter" s_Meter_enter := by
  obtain ⟨fd, F⟩ := c.def_ 28
  exact ⟨_, fd, F, c.mth 0⟩
theorem mt_Meter_begin_next (c : Facts K) : MT K (jK K).meter "begin_next" "begin_next" "Meter.begin_next" s_Meter_begin_next := by
  obtain ⟨fd, F⟩ := c.def_ 29
  exact ⟨_, fd, F, c.mth 1⟩
theorem mt_Count_draw (c : Facts K) : MT K (jK K).count "draw" "draw" "Count.draw" s_Count_draw := by
  obtain ⟨fd, F⟩ := c.def_ 33
  exact ⟨_, fd, F, c.mth 4⟩
theorem mt_Row_draw (c : Facts K) : MT K (jK K).row "draw" "draw" "Row.draw" s_Row_draw := by
  obtain ⟨fd, F⟩ := c.def_ 35
  exact ⟨_, fd, F, c.mth 5⟩
theorem mt_Drawer_next (c : Facts K) : MT K (jK K).drawer "next" "next" "Drawer.next" s_Drawer_next := by
  obtain ⟨fd, F⟩ := c.def_ 49
  exact ⟨_, fd, F, c.mth 15⟩
theorem mt_Drawer_drawn (c : Facts K) : MT K (jK K).drawer "drawn" "drawn" "Drawer.drawn" s_Drawer_drawn := by
  obtain ⟨fd, F⟩ := c.def_ 50
  exact ⟨_, fd, F, c.mth 16⟩
theorem mt_Drawer_undone (c : Facts K) : MT K (jK K).drawer "undone" "undone" "Drawer.undone" s_Drawer_undone := by
  obtain ⟨fd, F⟩ := c.def_ 51
  exact ⟨_, fd, F, c.mth 17⟩
theorem mt_Reckon_draw (c : Facts K) : MT K (jK K).reckon "draw" "draw" "Stage.draw" s_Stage_draw := by
  obtain ⟨fd, F⟩ := c.def_ 53
  exact ⟨_, fd, F, c.mth 19⟩
theorem mt_Reckon_work (c : Facts K) : MT K (jK K).reckon "work" "work" "Reckon.work" s_Reckon_work := by
  obtain ⟨fd, F⟩ := c.def_ 39
  exact ⟨_, fd, F, c.mth 6⟩
theorem mt_Keep_draw (c : Facts K) : MT K (jK K).keep "draw" "draw" "Stage.draw" s_Stage_draw := by
  obtain ⟨fd, F⟩ := c.def_ 54
  exact ⟨_, fd, F, c.mth 20⟩
theorem mt_Keep_work (c : Facts K) : MT K (jK K).keep "work" "work" "Keep.work" s_Keep_work := by
  obtain ⟨fd, F⟩ := c.def_ 40
  exact ⟨_, fd, F, c.mth 7⟩
theorem mt_Drop_draw (c : Facts K) : MT K (jK K).drop "draw" "draw" "Stage.draw" s_Stage_draw := by
  obtain ⟨fd, F⟩ := c.def_ 55
  exact ⟨_, fd, F, c.mth 21⟩
theorem mt_Drop_work (c : Facts K) : MT K (jK K).drop "work" "work" "Drop.work" s_Drop_work := by
  obtain ⟨fd, F⟩ := c.def_ 41
  exact ⟨_, fd, F, c.mth 8⟩
theorem mt_Take_draw (c : Facts K) : MT K (jK K).take "draw" "draw" "Stage.draw" s_Stage_draw := by
  obtain ⟨fd, F⟩ := c.def_ 56
  exact ⟨_, fd, F, c.mth 22⟩
theorem mt_Take_work (c : Facts K) : MT K (jK K).take "work" "work" "Take.work" s_Take_work := by
  obtain ⟨fd, F⟩ := c.def_ 42
  exact ⟨_, fd, F, c.mth 9⟩
theorem mt_Each_draw (c : Facts K) : MT K (jK K).each "draw" "draw" "Stage.draw" s_Stage_draw := by
  obtain ⟨fd, F⟩ := c.def_ 57
  exact ⟨_, fd, F, c.mth 23⟩
theorem mt_Each_work (c : Facts K) : MT K (jK K).each "work" "work" "Each.work" s_Each_work := by
  obtain ⟨fd, F⟩ := c.def_ 43
  exact ⟨_, fd, F, c.mth 10⟩
theorem mt_Until_draw (c : Facts K) : MT K (jK K).until' "draw" "draw" "Stage.draw" s_Stage_draw := by
  obtain ⟨fd, F⟩ := c.def_ 58
  exact ⟨_, fd, F, c.mth 24⟩
theorem mt_Until_work (c : Facts K) : MT K (jK K).until' "work" "work" "Until.work" s_Until_work := by
  obtain ⟨fd, F⟩ := c.def_ 44
  exact ⟨_, fd, F, c.mth 11⟩
theorem mt_Unlike_draw (c : Facts K) : MT K (jK K).unlike "draw" "draw" "Stage.draw" s_Stage_draw := by
  obtain ⟨fd, F⟩ := c.def_ 59
  exact ⟨_, fd, F, c.mth 25⟩
theorem mt_Unlike_work (c : Facts K) : MT K (jK K).unlike "work" "work" "Unlike.work" s_Unlike_work := by
  obtain ⟨fd, F⟩ := c.def_ 45
  exact ⟨_, fd, F, c.mth 12⟩
theorem mt_Both_draw (c : Facts K) : MT K (jK K).both "draw" "draw" "Stage.draw" s_Stage_draw := by
  obtain ⟨fd, F⟩ := c.def_ 60
  exact ⟨_, fd, F, c.mth 26⟩
theorem mt_Both_work (c : Facts K) : MT K (jK K).both "work" "work" "Both.work" s_Both_work := by
  obtain ⟨fd, F⟩ := c.def_ 46
  exact ⟨_, fd, F, c.mth 13⟩
theorem mt_Then_draw (c : Facts K) : MT K (jK K).thn "draw" "draw" "Stage.draw" s_Stage_draw := by
  obtain ⟨fd, F⟩ := c.def_ 61
  exact ⟨_, fd, F, c.mth 27⟩
theorem mt_Then_work (c : Facts K) : MT K (jK K).thn "work" "work" "Then.work" s_Then_work := by
  obtain ⟨fd, F⟩ := c.def_ 47
  exact ⟨_, fd, F, c.mth 14⟩
theorem progd_of (c : Facts K) (X : K.In h) (G : h.Ns mainGlobals mg) : ProgD K mg (jK K) :=
  ⟨⟨c.nodup⟩, node_of c, met_of c, long_of c X G, mt_Meter_note_drawn c, mt_Meter_note_undone c, mt_Meter_enter c, mt_Meter_begin_next c, mt_Count_draw c, mt_Row_draw c, fun C hC => by
    rcases hC with rfl | rfl | rfl | rfl | rfl | rfl | rfl | rfl | rfl
    · exact mt_Reckon_draw c
    · exact mt_Keep_draw c
    · exact mt_Drop_draw c
    · exact mt_Take_draw c
    · exact mt_Each_draw c
    · exact mt_Until_draw c
    · exact mt_Unlike_draw c
    · exact mt_Both_draw c
    · exact mt_Then_draw c
    , mt_Reckon_work c, mt_Keep_work c, mt_Drop_work c, mt_Take_work c, mt_Each_work c, mt_Until_work c, mt_Unlike_work c, mt_Both_work c, mt_Then_work c⟩
theorem fn_check_chain (c : Facts K) (X : K.In h) (G : h.Ns mainGlobals mg) : FnM K mg "check_chain" s_check_chain := by
  obtain ⟨fd, F⟩ := c.def_ 0
  exact ⟨_, fd, F, c.glo X G 0⟩
theorem fn_is_chain (c : Facts K) (X : K.In h) (G : h.Ns mainGlobals mg) : FnM K mg "is_chain" s_is_chain := by
  obtain ⟨fd, F⟩ := c.def_ 1
  exact ⟨_, fd, F, c.glo X G 1⟩
theorem fn_is_pair (c : Facts K) (X : K.In h) (G : h.Ns mainGlobals mg) : FnM K mg "is_pair" s_is_pair := by
  obtain ⟨fd, F⟩ := c.def_ 2
  exact ⟨_, fd, F, c.glo X G 2⟩
theorem fn_is_maker (c : Facts K) (X : K.In h) (G : h.Ns mainGlobals mg) : FnM K mg "is_maker" s_is_maker := by
  obtain ⟨fd, F⟩ := c.def_ 3
  exact ⟨_, fd, F, c.glo X G 3⟩
theorem fn_is_row (c : Facts K) (X : K.In h) (G : h.Ns mainGlobals mg) : FnM K mg "is_row" s_is_row := by
  obtain ⟨fd, F⟩ := c.def_ 4
  exact ⟨_, fd, F, c.glo X G 4⟩
theorem fn_is_stage (c : Facts K) (X : K.In h) (G : h.Ns mainGlobals mg) : FnM K mg "is_stage" s_is_stage := by
  obtain ⟨fd, F⟩ := c.def_ 5
  exact ⟨_, fd, F, c.glo X G 5⟩
theorem fn_has_chain (c : Facts K) (X : K.In h) (G : h.Ns mainGlobals mg) : FnM K mg "has_chain" s_has_chain := by
  obtain ⟨fd, F⟩ := c.def_ 6
  exact ⟨_, fd, F, c.glo X G 6⟩
theorem fn_is_within (c : Facts K) (X : K.In h) (G : h.Ns mainGlobals mg) : FnM K mg "is_within" s_is_within := by
  obtain ⟨fd, F⟩ := c.def_ 7
  exact ⟨_, fd, F, c.glo X G 7⟩
theorem fn_is_number (c : Facts K) (X : K.In h) (G : h.Ns mainGlobals mg) : FnM K mg "is_number" s_is_number := by
  obtain ⟨fd, F⟩ := c.def_ 8
  exact ⟨_, fd, F, c.glo X G 8⟩
theorem fn_chain_end (c : Facts K) (X : K.In h) (G : h.Ns mainGlobals mg) : FnM K mg "chain_end" s_chain_end := by
  obtain ⟨fd, F⟩ := c.def_ 9
  exact ⟨_, fd, F, c.glo X G 9⟩
theorem fn_maker_of (c : Facts K) (X : K.In h) (G : h.Ns mainGlobals mg) : FnM K mg "maker_of" s_maker_of := by
  obtain ⟨fd, F⟩ := c.def_ 10
  exact ⟨_, fd, F, c.glo X G 10⟩
theorem fn_stage_behind (c : Facts K) (X : K.In h) (G : h.Ns mainGlobals mg) : FnM K mg "stage_behind" s_stage_behind := by
  obtain ⟨fd, F⟩ := c.def_ 11
  exact ⟨_, fd, F, c.glo X G 11⟩
theorem fn_first (c : Facts K) (X : K.In h) (G : h.Ns mainGlobals mg) : FnM K mg "first" s_first := by
  obtain ⟨fd, F⟩ := c.def_ 12
  exact ⟨_, fd, F, c.glo X G 12⟩
theorem fn__law_start (c : Facts K) (X : K.In h) (G : h.Ns mainGlobals mg) : FnM K mg "_law_start" s__law_start := by
  obtain ⟨fd, F⟩ := c.def_ 13
  exact ⟨_, fd, F, c.glo X G 13⟩
theorem fn__law_drawn (c : Facts K) (X : K.In h) (G : h.Ns mainGlobals mg) : FnM K mg "_law_drawn" s__law_drawn := by
  obtain ⟨fd, F⟩ := c.def_ 14
  exact ⟨_, fd, F, c.glo X G 14⟩
theorem fn__law_same (c : Facts K) (X : K.In h) (G : h.Ns mainGlobals mg) : FnM K mg "_law_same" s__law_same := by
  obtain ⟨fd, F⟩ := c.def_ 15
  exact ⟨_, fd, F, c.glo X G 15⟩
theorem fn__law_makers (c : Facts K) (X : K.In h) (G : h.Ns mainGlobals mg) : FnM K mg "_law_makers" s__law_makers := by
  obtain ⟨fd, F⟩ := c.def_ 16
  exact ⟨_, fd, F, c.glo X G 16⟩
theorem fn__law_drawer (c : Facts K) (X : K.In h) (G : h.Ns mainGlobals mg) : FnM K mg "_law_drawer" s__law_drawer := by
  obtain ⟨fd, F⟩ := c.def_ 17
  exact ⟨_, fd, F, c.glo X G 17⟩
theorem fn__law_source (c : Facts K) (X : K.In h) (G : h.Ns mainGlobals mg) : FnM K mg "_law_source" s__law_source := by
  obtain ⟨fd, F⟩ := c.def_ 18
  exact ⟨_, fd, F, c.glo X G 18⟩
theorem fn__law_draw (c : Facts K) (X : K.In h) (G : h.Ns mainGlobals mg) : FnM K mg "_law_draw" s__law_draw := by
  obtain ⟨fd, F⟩ := c.def_ 19
  exact ⟨_, fd, F, c.glo X G 19⟩
theorem fn__law_beside (c : Facts K) (X : K.In h) (G : h.Ns mainGlobals mg) : FnM K mg "_law_beside" s__law_beside := by
  obtain ⟨fd, F⟩ := c.def_ 20
  exact ⟨_, fd, F, c.glo X G 20⟩
theorem fn__law_by (c : Facts K) (X : K.In h) (G : h.Ns mainGlobals mg) : FnM K mg "_law_by" s__law_by := by
  obtain ⟨fd, F⟩ := c.def_ 21
  exact ⟨_, fd, F, c.glo X G 21⟩
theorem fn__law_lets_go (c : Facts K) (X : K.In h) (G : h.Ns mainGlobals mg) : FnM K mg "_law_lets_go" s__law_lets_go := by
  obtain ⟨fd, F⟩ := c.def_ 22
  exact ⟨_, fd, F, c.glo X G 22⟩
theorem fn__law_told (c : Facts K) (X : K.In h) (G : h.Ns mainGlobals mg) : FnM K mg "_law_told" s__law_told := by
  obtain ⟨fd, F⟩ := c.def_ 23
  exact ⟨_, fd, F, c.glo X G 23⟩
theorem fn__law_next (c : Facts K) (X : K.In h) (G : h.Ns mainGlobals mg) : FnM K mg "_law_next" s__law_next := by
  obtain ⟨fd, F⟩ := c.def_ 24
  exact ⟨_, fd, F, c.glo X G 24⟩
theorem fn__law_near (c : Facts K) (X : K.In h) (G : h.Ns mainGlobals mg) : FnM K mg "_law_near" s__law_near := by
  obtain ⟨fd, F⟩ := c.def_ 25
  exact ⟨_, fd, F, c.glo X G 25⟩
theorem fn_law (c : Facts K) (X : K.In h) (G : h.Ns mainGlobals mg) : FnM K mg "law" s_law := by
  obtain ⟨fd, F⟩ := c.def_ 26
  exact ⟨_, fd, F, c.glo X G 26⟩
theorem ini_Meter (c : Facts K) (X : K.In h) (G : h.Ns mainGlobals mg) : IniM K mg "Meter" (jK K).meter "Meter.__init__" s_Meter___init__ := by
  obtain ⟨fd, F⟩ := c.def_ 27
  exact ⟨_, fd, F, c.mkr 11, c.glo X G 28⟩
theorem ini_Count (c : Facts K) (X : K.In h) (G : h.Ns mainGlobals mg) : IniM K mg "Count" (jK K).count "Count.__init__" s_Count___init__ := by
  obtain ⟨fd, F⟩ := c.def_ 32
  exact ⟨_, fd, F, c.mkr 0, c.glo X G 31⟩
theorem ini_Row (c : Facts K) (X : K.In h) (G : h.Ns mainGlobals mg) : IniM K mg "Row" (jK K).row "Row.__init__" s_Row___init__ := by
  obtain ⟨fd, F⟩ := c.def_ 34
  exact ⟨_, fd, F, c.mkr 1, c.glo X G 32⟩
theorem ini_Drawer (c : Facts K) (X : K.In h) (G : h.Ns mainGlobals mg) : IniM K mg "Drawer" (jK K).drawer "Drawer.__init__" s_Drawer___init__ := by
  obtain ⟨fd, F⟩ := c.def_ 48
  exact ⟨_, fd, F, c.mkr 12, c.glo X G 29⟩
theorem sup_txt (c : Facts K) (X : K.In h) (G : h.Ns mainGlobals mg) {x qual : Str} {params : Arguments} {body : List Stmt} {scope : Scope} (b : supB K (x, qual) = true) (e : supW K (x, some "__init__") = some (("__init__" : Str), qual, params, FuncBody.stmts body, scope, mainGlobals, [], builtinsNs)) (cl : Cls K (He.ga K x)) :
    ∃ fd, SupTxt theP K mg "__init__" qual params body scope (He.ga K x) (He.fAd K (x, some "__init__")) (He.fAd K ("Stage", some "__init__")) fd := by
  obtain ⟨b1, b2⟩ := He.ba b
  obtain ⟨b2, b3⟩ := He.ba b2
  obtain ⟨s1, s2⟩ := He.ba c.stg2
  obtain ⟨s2, s3⟩ := He.ba s2
  unfold supW at e
  cases q : K.lookup (He.fAd K (x, some "__init__")) with
  | none => rw [q] at e; cases e
  | some o =>
    obtain ⟨oc, od, dt, osl⟩ := o
    rw [q] at e
    have b1' : (match K.lookup (He.fAd K (x, some "__init__")) with
      | some ⟨_, _, .func fd, _⟩ => isNon fd.defaults && (cellB K (He.ga K x) fd.closure && codeB K qual fd.code)
      | _ => false) = true := b1
    rw [q] at b1'
    cases dt with
    | func fd =>
      obtain ⟨n1, n2, n3, n4, n5, n6, n7, n8, n9, n10, n11, n12, n13, n14, n15⟩ := fd
      have e2 : (some (n1, n2, n3, n4, n5, n6, ([] : List (Str × Addr)), n15) : He.FnW) = some (("__init__" : Str), qual, params, FuncBody.stmts body, scope, mainGlobals, [], builtinsNs) := e
      simp only [Option.some.injEq, Prod.mk.injEq] at e2
      obtain ⟨h1, h2, h3, h4, h5, h6, _, h8⟩ := e2
      subst h1 h2 h3 h4 h5 h6 h8
      have b4 : (isNon n8 && (cellB K (He.ga K x) n7 && codeB K n2 n13)) = true := b1'
      obtain ⟨k1, k2⟩ := He.ba b4
      obtain ⟨k2, k3⟩ := He.ba k2
      have hn8 : n8 = .none := by cases n8 <;> first | rfl | cases k1
      subst hn8
      obtain ⟨cc, cl', cld, csl, rfl, hcc⟩ : ∃ cc cl' cld csl, n7 = [(("__class__" : Str), cc)] ∧ K.lookup cc = some ⟨cl', cld, .cell (some (.ref (He.ga K x))), csl⟩ := by
        cases n7 with
        | nil => cases k2
        | cons p r =>
          cases r with
          | cons _ _ => cases k2
          | nil =>
            obtain ⟨y, cc⟩ := p
            have k4 : (decide (y = ("__class__" : Str)) && (match K.lookup cc with
              | some ⟨_, _, .cell (some (.ref d)), _⟩ => decide (d = He.ga K x)
              | _ => false)) = true := k2
            obtain ⟨k5, k6⟩ := He.ba k4
            have ey : y = ("__class__" : Str) := of_decide_eq_true k5
            subst ey
            cases z : K.lookup cc with
            | none => rw [z] at k6; cases k6
            | some o =>
              obtain ⟨c1, c2, c3, c4⟩ := o
              rw [z] at k6
              cases c3 with
              | cell v =>
                cases v with
                | none => cases k6
                | some v =>
                  cases v with
                  | ref d =>
                    have ed : d = He.ga K x := of_decide_eq_true k6
                    subst ed
                    exact ⟨cc, c1, c2, c4, rfl, z⟩
                  | _ => cases k6
              | _ => cases k6
      obtain ⟨cda, ccl, cdd, ws, ccs, file, tf, rfl, hcd, hk, hws, hfile⟩ : ∃ cda ccl cdd ws ccs file tf, n13 = .ref cda ∧ PySem.W.codeIn K (.ref cda) n2 = true ∧ K.lookup cda = some ⟨ccl, cdd, .fields ws, ccs⟩ ∧ (ws[2]? : Option Value) = some (.str file tf) ∧ ((theP.main.file : Str) == file) = true := by
        unfold codeB at k3
        cases n13 with
        | ref cda =>
          obtain ⟨k4, k5⟩ := He.ba k3
          cases z : K.lookup cda with
          | none => rw [z] at k5; cases k5
          | some o =>
            obtain ⟨c1, c2, c3, c4⟩ := o
            rw [z] at k5
            cases c3 with
            | fields ws =>
              have k6 : (match (ws[2]? : Option Value) with
                | some (.str file _) => ((theP.main.file : Str) == file)
                | _ => false) = true := k5
              cases y : (ws[2]? : Option Value) with
              | none => rw [y] at k6; cases k6
              | some v =>
                rw [y] at k6
                cases v with
                | str file tf => exact ⟨cda, c1, c2, ws, c4, file, tf, rfl, k4, z, y, k6⟩
                | _ => cases k6
            | _ => cases k5
        | _ => cases k3
      have hm : PySem.W.mroIn K (He.ga K x) (.ref (He.ga K x)) = some true := of_decide_eq_true b2
      obtain ⟨cdD, hD, _⟩ := Option.bind_eq_some_iff.mp (show (PySem.W.clsIn K (He.ga K x)).bind _ = some true from hm)
      exact ⟨_, ⟨oc, od, n9, n10, n11, n12, cda, cc, n14, osl, ccl, cdd, ws, ccs, file, tf, cl', cld, csl, cdD, rfl, q, hcd, hk, hws, hfile, hcc, hD⟩, hm, He.eqO_ok b3, of_decide_eq_true s1, s2, cl, He.eqO_ok s3, c.free X G 10, by decide +kernel⟩
    | _ => cases b1'
theorem sup_Reckon (c : Facts K) (X : K.In h) (G : h.Ns mainGlobals mg) : SupM theP K mg "Reckon" (jK K).reckon (He.fAd K ("Stage", some "__init__")) "Reckon.__init__" s_Reckon___init__ := by
  obtain ⟨fd, S⟩ := sup_txt c X G (all_at (p := fun q => supB K q) c.hsups 0 rfl) (map_at (f := fun d => supW K d.at_) (g := He.DefD.val) c.supw 0 rfl) (c.cl 2)
  exact ⟨_, fd, S, c.mkr 2, c.glo X G 33⟩
theorem sup_Keep (c : Facts K) (X : K.In h) (G : h.Ns mainGlobals mg) : SupM theP K mg "Keep" (jK K).keep (He.fAd K ("Stage", some "__init__")) "Keep.__init__" s_Keep___init__ := by
  obtain ⟨fd, S⟩ := sup_txt c X G (all_at (p := fun q => supB K q) c.hsups 1 rfl) (map_at (f := fun d => supW K d.at_) (g := He.DefD.val) c.supw 1 rfl) (c.cl 3)
  exact ⟨_, fd, S, c.mkr 3, c.glo X G 34⟩
theorem sup_Drop (c : Facts K) (X : K.In h) (G : h.Ns mainGlobals mg) : SupM theP K mg "Drop" (jK K).drop (He.fAd K ("Stage", some "__init__")) "Drop.__init__" s_Drop___init__ := by
  obtain ⟨fd, S⟩ := sup_txt c X G (all_at (p := fun q => supB K q) c.hsups 2 rfl) (map_at (f := fun d => supW K d.at_) (g := He.DefD.val) c.supw 2 rfl) (c.cl 4)
  exact ⟨_, fd, S, c.mkr 4, c.glo X G 35⟩
theorem sup_Take (c : Facts K) (X : K.In h) (G : h.Ns mainGlobals mg) : SupM theP K mg "Take" (jK K).take (He.fAd K ("Stage", some "__init__")) "Take.__init__" s_Take___init__ := by
  obtain ⟨fd, S⟩ := sup_txt c X G (all_at (p := fun q => supB K q) c.hsups 3 rfl) (map_at (f := fun d => supW K d.at_) (g := He.DefD.val) c.supw 3 rfl) (c.cl 5)
  exact ⟨_, fd, S, c.mkr 5, c.glo X G 36⟩
theorem sup_Each (c : Facts K) (X : K.In h) (G : h.Ns mainGlobals mg) : SupM theP K mg "Each" (jK K).each (He.fAd K ("Stage", some "__init__")) "Each.__init__" s_Each___init__ := by
  obtain ⟨fd, S⟩ := sup_txt c X G (all_at (p := fun q => supB K q) c.hsups 4 rfl) (map_at (f := fun d => supW K d.at_) (g := He.DefD.val) c.supw 4 rfl) (c.cl 6)
  exact ⟨_, fd, S, c.mkr 6, c.glo X G 37⟩
theorem sup_Until (c : Facts K) (X : K.In h) (G : h.Ns mainGlobals mg) : SupM theP K mg "Until" (jK K).until' (He.fAd K ("Stage", some "__init__")) "Until.__init__" s_Until___init__ := by
  obtain ⟨fd, S⟩ := sup_txt c X G (all_at (p := fun q => supB K q) c.hsups 5 rfl) (map_at (f := fun d => supW K d.at_) (g := He.DefD.val) c.supw 5 rfl) (c.cl 7)
  exact ⟨_, fd, S, c.mkr 7, c.glo X G 38⟩
theorem sup_Unlike (c : Facts K) (X : K.In h) (G : h.Ns mainGlobals mg) : SupM theP K mg "Unlike" (jK K).unlike (He.fAd K ("Stage", some "__init__")) "Unlike.__init__" s_Unlike___init__ := by
  obtain ⟨fd, S⟩ := sup_txt c X G (all_at (p := fun q => supB K q) c.hsups 6 rfl) (map_at (f := fun d => supW K d.at_) (g := He.DefD.val) c.supw 6 rfl) (c.cl 8)
  exact ⟨_, fd, S, c.mkr 8, c.glo X G 39⟩
theorem sup_Both (c : Facts K) (X : K.In h) (G : h.Ns mainGlobals mg) : SupM theP K mg "Both" (jK K).both (He.fAd K ("Stage", some "__init__")) "Both.__init__" s_Both___init__ := by
  obtain ⟨fd, S⟩ := sup_txt c X G (all_at (p := fun q => supB K q) c.hsups 7 rfl) (map_at (f := fun d => supW K d.at_) (g := He.DefD.val) c.supw 7 rfl) (c.cl 9)
  exact ⟨_, fd, S, c.mkr 9, c.glo X G 40⟩
theorem sup_Then (c : Facts K) (X : K.In h) (G : h.Ns mainGlobals mg) : SupM theP K mg "Then" (jK K).thn (He.fAd K ("Stage", some "__init__")) "Then.__init__" s_Then___init__ := by
  obtain ⟨fd, S⟩ := sup_txt c X G (all_at (p := fun q => supB K q) c.hsups 8 rfl) (map_at (f := fun d => supW K d.at_) (g := He.DefD.val) c.supw 8 rfl) (c.cl 10)
  exact ⟨_, fd, S, c.mkr 10, c.glo X G 41⟩
theorem proga_of (c : Facts K) (X : K.In h) (G : h.Ns mainGlobals mg) : ProgA theP K mg (jK K) := by
  obtain ⟨fd2, F2⟩ := c.def_ 36
  exact ⟨progd_of c X G, drf_of c, He.exm_ok c.exm, fn_check_chain c X G, fn_is_chain c X G, fn_is_pair c X G, fn_is_maker c X G, fn_is_row c X G, fn_is_stage c X G, fn_has_chain c X G, fn_is_within c X G, fn_is_number c X G, fn_chain_end c X G, fn_maker_of c X G, fn_stage_behind c X G, ini_Meter c X G, ini_Count c X G, ini_Row c X G, ini_Drawer c X G, mt_Drawer_next c, mt_Drawer_drawn c,
    _, fd2, F2, sup_Reckon c X G, sup_Keep c X G, sup_Drop c X G, sup_Take c X G, sup_Each c X G, sup_Until c X G, sup_Unlike c X G, sup_Both c X G, sup_Then c X G⟩
theorem progu_of (c : Facts K) : ProgU K (jK K) := ⟨mt_Drawer_undone c⟩
theorem startl_of (c : Facts K) (X : K.In h) (G : h.Ns mainGlobals mg) : StartL K mg := ⟨fn__law_start c X G, fn__law_drawn c X G⟩
theorem drawsl_of (c : Facts K) (X : K.In h) (G : h.Ns mainGlobals mg) : DrawsL K mg := ⟨fn__law_makers c X G, fn__law_drawer c X G, fn__law_source c X G, fn__law_draw c X G, fn__law_beside c X G, fn__law_by c X G, fn__law_lets_go c X G, fn__law_told c X G, fn__law_next c X G, fn__law_same c X G⟩
theorem scr_of {H : Hp} {a : Addr} {ns : List Int} (o : Only H) (h : SqL K H a (ns.map V.int)) : ScAt K ns H a := by
  rcases h with (h | ⟨ob, h⟩) | h
  · rcases o a with z | ⟨ob, xs, z⟩
    · rw [z] at h; cases h
    · rw [z] at h; cases h
  · exact .inl ⟨ob, h⟩
  · exact .inr fun H' => .inr h
theorem facts {f : Addr} (X : K.In h) (G : h.Ns mainGlobals mg) (hfa : mg ("law" : Str) = some (.ref f)) (e : obsK K = valZ) :
    ∃ fd : FuncData, (∀ (s : Shared) (v : Value), BindsTo s fd ⟨[v], []⟩ [("_law_script", v)]) ∧ ∀ (ns : List Int), ns.length ≤ 63 → ∀ base : Heap, FnOk theP w K mg base CX0 56 f fd ["_law_script"] (spLaw K ns) := by
  have c := facts_of e
  obtain ⟨fd, F⟩ := c.def_ 26
  have e := hfa.symm.trans (c.glo X G 26)
  cases e
  have b := FunD.bindsA (ps := ["_law_script"]) F fun _ _ _ _ _ _ us hl => match us, hl with | [_], _ => rfl
  exact ⟨fd, fun s v => b s [v] rfl, fun ns hl base => law_fn (txt c X G) (proga_of c X G) (progu_of c) (startl_of c X G) (drawsl_of c X G) (fn__law_near c X G) (fn_first c X G) F hl⟩
end
end Dc

set_option Elab.async false
set_option linter.all false
set_option maxRecDepth 100000
set_option maxHeartbeats 0
open PySem PySem.W PySem.Calls PyProof.Rows
theorem PySem.Challenge.cw_drawchain_k11_whole_draws_at_their_bound_holds : PySem.Challenge.rw_drawchain_k11_whole_draws_at_their_bound.Holds := by
  w_on; o_law
  refine HandSHeadRun.head_any (r := OpenLaw.row PySem.Challenge.rw_drawchain_k11_whole_draws_at_their_bound) (q := view (OpenLaw.row PySem.Challenge.rw_drawchain_k11_whole_draws_at_their_bound).prog [58]) (H := Dc.hkZ) (ob := Dc.obZ) (M := 100000) (loose := Dc.looses) (d := HandSHeadRun.topDef (OpenLaw.row PySem.Challenge.rw_drawchain_k11_whole_draws_at_their_bound).prog 58) (kwd := []) Dc.obZ_eq
    (by kernel_rfl) (fun s => by kernel_rfl) Dc.run (by kernel_rfl) (by kernel_rfl) (by kernel_rfl) (by rfl) (by first | assumption | decide +kernel) (by decide +kernel) ⟨rfl, rfl, rfl, rfl, rfl, by decide +kernel⟩ ?hw ?hc
  case hw => w_witness2
  case hc =>
    refine L2.walk_ofE (l := PySem.Challenge.rw_drawchain_k11_whole_draws_at_their_bound) (n := 63) (k := 56) (x := "_law_script") (CX := L2.CX0) rfl (by decide) (by kernel_rfl) ⟨rfl, by decide, by decide⟩ ?F (fun _ _ _ _ z => z)
    intro w mg fa h Y G hmg0
    obtain ⟨K, KX, c⟩ := Y
    have hmg : mg ("law" : PySem.Str) = some (.ref fa) := by
      have e : (HandSHeadRun.topDef (OpenLaw.row PySem.Challenge.rw_drawchain_k11_whole_draws_at_their_bound).prog 58).name = ("law" : PySem.Str) := by kernel_rfl
      rw [← e]
      exact hmg0
    obtain ⟨fd, hb, hF⟩ := Dc.facts (w := w) KX G hmg c
    exact ⟨K, fd, fun vs H Q E => ∃ ns : List Int, ns.length ≤ 63 ∧ Dc.spLaw K ns vs H Q E, KX, hb, fun H a ns hl ho hS => ⟨ns, hl, a, rfl, Dc.scr_of ho hS, fun _ => rfl⟩, fun base _ _ => ⟨fun vs H Q E ⟨ns, hl, q⟩ => (hF ns hl base).len vs H Q E q, fun A outer s H args us vs Q E hr he hb hv ⟨ns, hl, q⟩ => (hF ns hl base).run A outer s H args us vs Q E hr he hb hv q⟩⟩
