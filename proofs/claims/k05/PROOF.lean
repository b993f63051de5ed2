import PyProof.Rows.All
import Wide.All
import OpenK.AllK
import Wide.FinOn
import HandS.ForMost
import HandS.ForExc
import HandS.Wide
import HandS.DictTup
import HandS.SetKeys
import HandS.TryOnly
import HandS.ExcOwn
import HandS.IsInst
import HandS.Defaults
import HandS.Flow
import KE.KStateDown
import Lean
import HandS.Head0
import HandS.Head1
import HandS.Head2
import HandS.HeadEnd
import HandS.HeadHook1
import HandS.HeadHook2
import HandS.HeadHook4
import HandS.ExcIs
import PyProof.Rows.MatchSeqLen
import PyProof.DictMoreH
import HandS.ClsMeth
import KE.KSuper
import HandS.TupAny
import HandS.Lambda
import HandS.SetFor
import HandS.Walk
import HandS.Iter
import HandS.HeadWalk
import PySem.Challenge.RW_drawchain_k05_whole_drawn_as_whole_rows
set_option Elab.async false
set_option linter.all false
set_option maxRecDepth 100000
set_option maxHeartbeats 2000000
namespace Dc
open PySem PySem.Spec PyProof.Rows L2
/-! ### frames -/
/-- what nothing writes: a tuple, a locked thing -/
def fixd : HO → Bool
  | .tup _ => true
  | .frz _ _ => true
  | _ => false
/-- all that was tracked stands, but what lies in S (and may be written) -/
def Fr (S : List Addr) (H H' : Hp) : Prop := ∀ b o, H b = some o → (b ∉ S ∨ fixd o = true) → H' b = some o
theorem Fr.refl (S : List Addr) (H : Hp) : Fr S H H := fun _ _ h _ => h
theorem Fr.at {S : List Addr} {H H' : Hp} {b : Addr} {o : HO} (f : Fr S H H') (h : H b = some o) (n : b ∉ S) : H' b = some o := f b o h (.inl n)
theorem Fr.tp {S : List Addr} {H H' : Hp} {b : Addr} {xs : List V} (f : Fr S H H') (h : H b = some (.tup xs)) : H' b = some (.tup xs) := f b _ h (.inr rfl)
theorem Fr.fz {S : List Addr} {H H' : Hp} {b : Addr} {o : Obj} {u : HO} (f : Fr S H H') (h : H b = some (.frz o u)) : H' b = some (.frz o u) := f b _ h (.inr rfl)
theorem Fr.free {S : List Addr} {H H' : Hp} {b : Addr} (f : Fr S H H') (n : b ∉ S) (h : H' b = none) : H b = none := by
  cases q : H b with
  | none => rfl
  | some o => rw [f.at q n] at h; cases h
theorem Fr.mono {S S' : List Addr} {H H' : Hp} (f : Fr S H H') (h : ∀ b, b ∈ S → b ∈ S') : Fr S' H H' := fun b o e c =>
  f b o e (c.imp (fun n z => n (h b z)) id)
theorem Fr.trans {S S1 : List Addr} {H H1 H2 : Hp} (f : Fr S H H1) (g : Fr S1 H1 H2) (h : ∀ b, b ∈ S1 → b ∈ S ∨ H b = none) : Fr S H H2 := fun b o e c => by
  refine g b o (f b o e c) (c.imp (fun n z => ?_) id)
  rcases h b z with q | q
  · exact n q
  · rw [e] at q; cases q
theorem Fr.tr {S : List Addr} {H H1 H2 : Hp} (f : Fr S H H1) (g : Fr S H1 H2) : Fr S H H2 := f.trans g fun _ h => .inl h
theorem Fr.of_same {S : List Addr} {H H' : Hp} (s : ∀ b o, H b = some o → H' b = some o) : Fr S H H' := fun b o e _ => s b o e
/-- p holds nothing that must stand -/
def Loose (H : Hp) (p : Addr) : Prop := ∀ o, H p = some o → fixd o = false
theorem nt {H : Hp} {p : Addr} {u : HO} (h : H p = some u) (e : fixd u = false := by rfl) : Loose H p := fun o q => by
  rw [h] at q; cases q; exact e
theorem nt_none {H : Hp} {p : Addr} (h : H p = none) : Loose H p := fun o q => by rw [h] at q; cases q
/-- a new object -/
theorem Fr.new {S : List Addr} {H : Hp} {p : Addr} {o : HO} (h : H p = none) : Fr S H (upd H p o) := fun b u e _ => by
  rw [upd_ne (ne_of_none e h)]; exact e
/-- a thing of S is changed -/
theorem Fr.put {S : List Addr} {H : Hp} {p : Addr} {o : HO} (h : p ∈ S) (hp : Loose H p) : Fr S H (upd H p o) := fun b u e c => by
  have n : b ≠ p := fun z => by
    rcases c with q | q
    · rw [z] at q; exact q h
    · rw [z] at e; rw [hp _ e] at q; cases q
  rw [upd_ne n]; exact e
theorem Fr.putN {S : List Addr} {H H1 : Hp} {p : Addr} {o : HO} (f : Fr S H H1) (h : p ∈ S ∨ H p = none) (hp : Loose H1 p) : Fr S H (upd H1 p o) :=
  f.trans (Fr.put (S := [p]) List.mem_cons_self hp) fun b hb => by
    rw [List.mem_singleton] at hb; rw [hb]; exact h
theorem Fr.newN {S : List Addr} {H H1 : Hp} {p : Addr} {o : HO} (f : Fr S H H1) (h : H1 p = none) : Fr S H (upd H1 p o) := f.trans (Fr.new (S := []) h) fun b hb => by cases hb
theorem Fr.seqL {S : List Addr} {K : PySem.W.Frag} {H H' : Hp} {a : Addr} {xs : List V} (f : Fr S H H') (n : a ∉ S) (h : SqL K H a xs) : SqL K H' a xs := by
  rcases h with (h | ⟨o, h⟩) | h
  · exact .inl (.inl (f.at h n))
  · exact .inl (.inr ⟨o, f.fz h⟩)
  · exact .inr h
theorem Fr.seqT {S : List Addr} {K : PySem.W.Frag} {H H' : Hp} {a : Addr} {xs : List V} (f : Fr S H H') (h : SqT K H a xs) : SqT K H' a xs := by
  rcases h with (h | ⟨o, h⟩) | h
  · exact .inl (.inl (f.tp h))
  · exact .inl (.inr ⟨o, f.fz h⟩)
  · exact .inr h
theorem upd_keep {H : Hp} {a p : Addr} {o u : HO} (h : H a = some o) (n : H p = none) : upd H p u a = some o := by
  rw [upd_ne (ne_of_none h n)]; exact h
/-! ### callables by name -/
section
variable (P : Program) (w : World) (K : PySem.W.Frag) (mg : Str → Option Value) (base : Heap)
/-- the def that the module's name x stands for keeps the promise sp -/
def Cal (CX : CXT) (k : Nat) (x : Str) (ps : List Str) (sp : Sp) : Prop := ∃ f fd, FnOk P w K mg base CX k f fd ps sp ∧ Binds K fd ps [] ∧ PySem.W.keepIn K (.ref f) = true ∧ mg x = some (.ref f)
/-- the method m of the class at C -/
def CalM (CX : CXT) (k : Nat) (C : Addr) (m : Str) (ps : List Str) (sp : Sp) : Prop := ∃ f fd, FnOk P w K mg base CX k f fd ps sp ∧ Binds K fd ps [] ∧ Meth K C m f ∧ Cls K C
/-- the class x, at C, made by its __init__ -/
def CalI (CX : CXT) (k : Nat) (x : Str) (C : Addr) (ps : List Str) (sp : Sp) : Prop := ∃ f fd, FnOk P w K mg base CX k f fd ps sp ∧ Binds K fd ps [] ∧ Mk K C f ∧ mg x = some (.ref C)
end
section
variable {P : Program} {w : World} {K : PySem.W.Frag} {mg : Str → Option Value} {base : Heap} {CX : CXT} {k j : Nat} {x m : Str} {C : Addr} {ps : List Str} {sp sp' : Sp}
theorem Cal.mono (G : Cal P w K mg base CX j x ps sp) (h : j ≤ k) : Cal P w K mg base CX k x ps sp := let ⟨f, fd, F, r⟩ := G; ⟨f, fd, F.mono h, r⟩
theorem CalM.mono (G : CalM P w K mg base CX j C m ps sp) (h : j ≤ k) : CalM P w K mg base CX k C m ps sp := let ⟨f, fd, F, r⟩ := G; ⟨f, fd, F.mono h, r⟩
theorem CalI.mono (G : CalI P w K mg base CX j x C ps sp) (h : j ≤ k) : CalI P w K mg base CX k x C ps sp := let ⟨f, fd, F, r⟩ := G; ⟨f, fd, F.mono h, r⟩
theorem Cal.imp (G : Cal P w K mg base CX k x ps sp) (h : ∀ vs H Q E, sp' vs H Q E → sp vs H Q E) : Cal P w K mg base CX k x ps sp' := let ⟨f, fd, F, r⟩ := G; ⟨f, fd, F.imp h, r⟩
theorem CalM.imp (G : CalM P w K mg base CX k C m ps sp) (h : ∀ vs H Q E, sp' vs H Q E → sp vs H Q E) : CalM P w K mg base CX k C m ps sp' := let ⟨f, fd, F, r⟩ := G; ⟨f, fd, F.imp h, r⟩
end
section
variable {X : Cx} {CX : CXT} {k : Nat} {x m : Str} {C : Addr} {ps : List Str} {sp : Sp} {E : XK} {e o : Expr} {es : List Expr} {t : TA} {ta : TE} {p pos apos : Pos}
theorem pe_cal (G : Cal X.prog X.w X.K X.mg X.base CX k x ps sp) (hr : Room k X.A) (hx : Passes CX X E) (ha : PA X (e :: es) t) (hg : Gl X x := by rfl) (hdb : (x == ("__debug__" : Str)) = false := by decide)
    (he : starEach (e :: es) X.env = (false, eval e X.env) :: starEach es X.env := by rfl) (hpl : (backTo pos (starEach es X.env)).any (·.1) = false := by rfl) : PE X (.Call (.Name x p) (e :: es) [] pos) (tCall sp [] E t) := by
  obtain ⟨f, fd, F, b, kp, g⟩ := G
  exact pe_call F hr hg g kp b .nil hx ha hdb he hpl
end
/-! ### readings, a step at a time -/
section
variable {K : PySem.W.Frag} {σ : L2.St} {H : Hp} {i : Nat} {v x y : V} {ta tb te : TE} {t u : TT} {r : R2} {D : Ends} {s1 s2 : TS} {g : TG} {Q : VK} {a : Addr}
theorem rd_var (h : σ[i]? = some (some v)) (q : Q v H) : tVar i σ H Q := ⟨v, h, q⟩
theorem rd_c (q : Q v H) : tC v σ H Q := q
theorem rd_op (h : ta σ H fun x H1 => tb σ H1 fun y H2 => r x y H2 Q) : tOp r ta tb σ H Q := h
theorem rd_un {r : V → Hp → VK → Prop} (h : ta σ H fun x H1 => r x H1 Q) : tUn r ta σ H Q := h
theorem rd_test {Q : Bool → Hp → Prop} (h : te σ H fun x H' => ∃ k, x = .bl k ∧ Q k H') : tTest te σ H Q := h
theorem rd_B {Q : Bool → Hp → Prop} (h : te σ H fun x H' => ∃ k, x = .bl k ∧ Q k H') : tB te σ H Q := h
theorem rd_bl {b : Bool} {Q : Bool → Prop} (h : Q b) : ∃ k, V.bl b = .bl k ∧ Q k := ⟨b, rfl, h⟩
theorem rd_seq (h : s1 { D with nx := s2 D } σ H) : tSeq s1 s2 D σ H := h
theorem rd_next (h : D.nx σ H) : tNext D σ H := h
theorem rd_ifs (h : t σ H fun b H1 => if b = true then s1 D σ H1 else s2 D σ H1) : tIfS t s1 s2 D σ H := h
theorem rd_asg (h : te σ H fun x H1 => g x σ H1 D.nx) : tAsg te g D σ H := h
theorem rd_name {Q : L2.St → Hp → Prop} (h : Q (σ.set i (some v)) H) : gName i v σ H Q := h
theorem rd_ret (h : te σ H D.rt) : tRet te D σ H := h
theorem rd_drop (h : te σ H fun _ H1 => D.nx σ H1) : tDrop te D σ H := h
theorem rd_call {sp : Sp} {dvs : List V} {E : XK} {tl : TA} (h : tl σ H fun vs H1 => sp (vs ++ dvs) H1 Q E) : tCall sp dvs E tl σ H Q := h
theorem rd_cons {tl : TA} {Q : List V → Hp → Prop} (h : ta σ H fun x H1 => tl σ H1 fun xs H2 => Q (x :: xs) H2) : tCons ta tl σ H Q := h
theorem rd_nil {Q : List V → Hp → Prop} (h : Q [] H) : tNil σ H Q := h
theorem rd_cb {r : List V → Hp → VK → Prop} {tl : TA} (h : tl σ H fun vs H1 => r vs H1 Q) : tCB r tl σ H Q := h
theorem rd_I {C : Int → Int → Prop} {f : Int → Int → V} {i j : Int} (c : C i j) (q : Q (f i j) H) : rI C f (.int i) (.int j) H Q := ⟨i, j, rfl, rfl, c, q⟩
theorem rd_I0 {f : Int → Int → V} {i j : Int} (q : Q (f i j) H) : rI0 f (.int i) (.int j) H Q := ⟨i, j, rfl, rfl, q⟩
theorem rd_U {f : Int → V} {i : Int} (q : Q (f i) H) : rU f (.int i) H Q := ⟨i, rfl, q⟩
theorem rd_eq (s : scal x y = true) (q : Q (.bl (decide (x = y))) H) : rEq x y H Q := ⟨s, q⟩
theorem rd_ne (s : scal x y = true) (q : Q (.bl (!decide (x = y))) H) : rNe x y H Q := ⟨s, q⟩
theorem rd_ixL {p : Addr} {xs : List V} {i : Int} (h : SqL K H p xs) (e : atI xs i = some v) (q : Q v H) : rIxL K (.ref p) (.int i) H Q := ⟨p, xs, i, v, rfl, rfl, h, e, q⟩
theorem rd_ixT {p : Addr} {xs : List V} {i : Int} (h : SqT K H p xs) (e : atI xs i = some v) (q : Q v H) : rIxT K (.ref p) (.int i) H Q := ⟨p, xs, i, v, rfl, rfl, h, e, q⟩
theorem rd_gsub {to ti : TE} {ts : TSet} {Q : L2.St → Hp → Prop} (h : to σ H fun o H1 => ti σ H1 fun i H2 => ts o i v H2 fun H3 => Q σ H3) : gSub to ti ts v σ H Q := h
theorem rd_setL {p : Addr} {xs : List V} {k : Int} {j : Nat} {Q : Hp → Prop} (h : H p = some (.lst xs)) (e : ixN xs.length k = some j) (q : Q (upd H p (.lst (xs.set j v)))) : rSetL (.ref p) (.int k) v H Q := ⟨p, xs, k, j, rfl, rfl, h, e, q⟩
theorem rd_lst {tl : TA} (h : tl σ H fun xs H1 => xs.length ≤ sizeLine ∧ ∀ p, H1 p = none → Q (.ref p) (upd H1 p (.lst xs))) : tLst tl σ H Q := h
theorem rd_tup {tl : TA} (h : tl σ H fun xs H1 => xs.length ≤ sizeLine ∧ ∀ p, H1 p = none → Q (.ref p) (upd H1 p (.tup xs))) : tTup tl σ H Q := h
theorem rd_if (h : t σ H fun c H1 => if c = true then ta σ H1 Q else tb σ H1 Q) : tIf t ta tb σ H Q := h
theorem rd_and {Q : Bool → Hp → Prop} (h : t σ H fun c H1 => if c = true then u σ H1 Q else Q false H1) : tAnd t u σ H Q := h
theorem rd_or {Q : Bool → Hp → Prop} (h : t σ H fun c H1 => if c = true then Q true H1 else u σ H1 Q) : tOr t u σ H Q := h
theorem rd_not {Q : Bool → Hp → Prop} (h : t σ H fun c H1 => Q (!c) H1) : tNot t σ H Q := h
theorem rd_andV (h : ta σ H fun x H1 => ∃ c, x = .bl c ∧ if c = true then tb σ H1 Q else Q (.bl false) H1) : tAndV ta tb σ H Q := h
theorem rd_orV (h : ta σ H fun x H1 => ∃ c, x = .bl c ∧ if c = true then Q (.bl true) H1 else tb σ H1 Q) : tOrV ta tb σ H Q := h
theorem rd_notV (h : ta σ H fun x H1 => ∃ c, x = .bl c ∧ Q (.bl (!c)) H1) : tNotV ta σ H Q := h
theorem rd_blV {b : Bool} {Q : Bool → Hp → Prop} {A : Prop} (h : A) : ∃ k, V.bl b = .bl k ∧ A := ⟨b, rfl, h⟩
theorem rd_dec {c A B : Prop} [Decidable c] (h1 : c → A) (h2 : ¬ c → B) : if decide c = true then A else B := by
  by_cases h : c
  · rw [if_pos (decide_eq_true h)]; exact h1 h
  · rw [if_neg (by rw [decide_eq_false h]; decide)]; exact h2 h
theorem rd_ndec {c A B : Prop} [Decidable c] (h1 : ¬ c → A) (h2 : c → B) : if (!decide c) = true then A else B := by
  by_cases h : c
  · rw [if_neg (by rw [decide_eq_true h]; decide)]; exact h2 h
  · rw [if_pos (by rw [decide_eq_false h]; decide)]; exact h1 h
theorem rd_T {c A B : Prop} [Decidable c] (h : c) (h1 : A) : if decide c = true then A else B := by rw [if_pos (decide_eq_true h)]; exact h1
theorem rd_F {c A B : Prop} [Decidable c] (h : ¬ c) (h1 : B) : if decide c = true then A else B := by rw [if_neg (by rw [decide_eq_false h]; decide)]; exact h1
theorem rd_b {b : Bool} {A B : Prop} (h1 : b = true → A) (h2 : b = false → B) : if b = true then A else B := by
  cases b with
  | true => rw [if_pos rfl]; exact h1 rfl
  | false => rw [if_neg Bool.false_ne_true]; exact h2 rfl
theorem at_in {α : Type} {xs : List α} {i : Int} (h0 : 0 ≤ i) (h1 : i < xs.length) : ∃ v, v ∈ xs ∧ atI xs i = some v := by
  obtain ⟨j, rfl⟩ : ∃ j : Nat, i = (j : Int) := ⟨i.toNat, by omega⟩
  have hj : j < xs.length := by omega
  exact ⟨xs[j], List.getElem_mem hj, atI_nat (List.getElem?_eq_getElem hj)⟩
theorem rd_yes {Q : Bool → Hp → Prop} (h : Q true H) : tYes σ H Q := h
theorem rd_nF {A B : Prop} (h : A) : if (!false) = true then A else B := iteT h
theorem rd_nT {A B : Prop} (h : B) : if (!true) = true then A else B := iteF h
theorem rd_and_pure {b1 b2 : Bool} {Q : Bool → Hp → Prop} (h1 : ∀ Q : Bool → Hp → Prop, Q b1 H → t σ H Q) (h2 : ∀ Q : Bool → Hp → Prop, Q b2 H → u σ H Q) (h : Q (b1 && b2) H) : tAnd t u σ H Q := by
  refine h1 _ ?_
  cases b1 with
  | true => exact iteT (h2 _ (by simpa using h))
  | false => exact iteF (by simpa using h)
theorem rd_or_pure {b1 b2 : Bool} {Q : Bool → Hp → Prop} (h1 : ∀ Q : Bool → Hp → Prop, Q b1 H → t σ H Q) (h2 : ∀ Q : Bool → Hp → Prop, Q b2 H → u σ H Q) (h : Q (b1 || b2) H) : tOr t u σ H Q := by
  refine h1 _ ?_
  cases b1 with
  | false => exact iteF (h2 _ (by simpa using h))
  | true => exact iteT (by simpa using h)
theorem rd_b2 {b1 b2 : Bool} {A B : Prop} (h1 : b1 = true → b2 = true → A) (h2 : ¬ (b1 = true ∧ b2 = true) → B) : if (b1 && b2) = true then A else B := by
  cases b1 with
  | true => cases b2 with
    | true => exact iteT (h1 rfl rfl)
    | false => exact iteF (h2 (by simp))
  | false => exact iteF (h2 (by simp))
theorem rd_cat {l b : Addr} {xs zs : List V} (h : H l = some (.lst xs)) (h' : H b = some (.lst zs)) (hz : xs.length + zs.length ≤ sizeLine) (q : ∀ p, H p = none → Q (.ref p) (upd H p (.lst (xs ++ zs)))) : rCat (.ref l) (.ref b) H Q := ⟨l, b, xs, zs, rfl, rfl, h, h', hz, q⟩
theorem rd_bm {T : String} {r : V → List V → Hp → VK → Prop} {to : TE} {tl : TA} (h : to σ H fun x H1 => tyV K T x H1 ∧ tl σ H1 fun xs H2 => r x xs H2 Q) : tBM K T r to tl σ H Q := h
theorem rd_bm0 {T : String} {r : V → List V → Hp → VK → Prop} {to : TE} (h : to σ H fun x H1 => tyV K T x H1 ∧ r x [] H1 Q) : tBM0 K T r to σ H Q := h
theorem rd_append {l : Addr} {xs : List V} (h : H l = some (.lst xs)) (hz : xs.length < sizeLine) (q : Q .non (upd H l (.lst (xs ++ [y])))) : rAppend (.ref l) [y] H Q := ⟨l, xs, y, rfl, rfl, h, hz, q⟩
theorem tyl {K : PySem.W.Frag} {l : Addr} {xs : List V} (h : H l = some (.lst xs)) : tyV K "list" (.ref l) H := Or.inl ⟨rfl, _, SqL.of h⟩
/-- what is walked first, then the loop -/
theorem rd_for {wi : TI} {tb : TS} (h : wi σ H fun J H1 => tFor (fun _ _ R => R J H1) g tb D σ H1) : tFor wi g tb D σ H := h
theorem rd_rng1 {tl : TA} {R : It → Hp → Prop} (h : tl σ H fun vs H1 => ∃ j : Int, vs = [.int j] ∧ -(2 ^ 62) ≤ j ∧ j < 2 ^ 62 ∧ R (Itr 0 j.toNat) H1) : iRng1 tl σ H R := h
theorem rd_itup {R : It → Hp → Prop} (h : te σ H fun x H1 => ∃ a, x = .ref a ∧ (∃ xs, SqT K H1 a xs) ∧ R (Itt K a) H1) : iTup K te σ H R := h
theorem rd_ilst {R : It → Hp → Prop} (h : te σ H fun x H1 => ∃ a, x = .ref a ∧ (∃ xs, SqL K H1 a xs) ∧ R (Itl K a) H1) : iList K te σ H R := h
theorem rd_at {t : TS} {σ' : L2.St} (e : σ = σ') (h : t D σ' H) : t D σ H := e ▸ h
theorem upd_other {H : Hp} {a b : Addr} {o u : HO} (n : b ≠ a) (h : H b = some o) : upd H a u b = some o := by rw [upd_ne n]; exact h
theorem upd_none {H : Hp} {a b : Addr} {u : HO} (n : b ≠ a) (h : H b = none) : upd H a u b = none := by rw [upd_ne n]; exact h
end
/-- the rule for a def that lets nothing out -/
theorem ok0 {P : Program} {w : World} {K : PySem.W.Frag} {mg : Str → Option Value} {base : Heap} {x qual : Str} {params : Arguments} {body : List Stmt} {scope : Scope} {f : Addr} {fd : FuncData}
    {N ps : List Str} {k : Nat} {sp : Sp} (F : FunD K x qual params body scope [] [] f fd) (S : FnScope N ps scope) (len : ∀ vs H Q E, sp vs H Q E → vs.length = ps.length)
    (hbody : ∀ (cdv : Value) (A : Around) (outer : List Env) (s : Shared) (H : Hp) (vs : List V) (Q : VK) (E : XK), Room k (A.deeper (envOfC qual scope s.heap.objs.size f cdv)) → sp vs H Q E →
      ∃ t, PSs (cxOf CX0 P w K mg base N qual scope f cdv A outer s H E).nox body t ∧ t { nx := fun _ H' => Q .non H', rt := Q } (start N vs) H) : FnOk P w K mg base CX0 (k + 1) f fd ps sp := by
  refine F.ok S len fun cdv A outer s H vs Q E hr h => ?_
  obtain ⟨t, ht, q⟩ := hbody cdv A outer s H vs Q E hr h
  exact ⟨t, PSs.nox ht, q⟩
theorem cal_of {P : Program} {w : World} {K : PySem.W.Frag} {mg : Str → Option Value} {base : Heap} {CX : CXT} {k : Nat} {x qual y : Str} {params : Arguments} {body : List Stmt} {scope : Scope} {f : Addr} {fd : FuncData} {ps : List Str} {sp : Sp}
    (F : FunD K x qual params body scope [] [] f fd) (g : mg y = some (.ref f)) (ok : FnOk P w K mg base CX k f fd ps sp)
    (h : ∀ (kV doc pm : Value) (an : Option Addr) (cdv ct : Value) (us : List Value), us.length = ps.length → bindArgs (PySem.W.fnOf x qual params body scope .none kV doc pm an cdv ct) ⟨us, []⟩ = pure (ps.zip us)) :
    Cal P w K mg base CX k y ps sp := ⟨f, fd, ok, F.bindsN h, F.kp, g⟩
/-! ### built-ins, by named readings -/
def rLen1 (K : PySem.W.Frag) : List V → Hp → VK → Prop := fun xs H Q => ∃ p ys, xs = [.ref p] ∧ (SqL K H p ys ∨ SqT K H p ys) ∧ Q (.int ys.length) H
def rTupOf (K : PySem.W.Frag) : List V → Hp → VK → Prop := fun xs H Q => ∃ p ys, xs = [.ref p] ∧ ((SqL K H p ys ∧ ∀ l, H l = none → Q (.ref l) (upd H l (.tup ys))) ∨ (SqT K H p ys ∧ Q (.ref p) H))
def rListOf (K : PySem.W.Frag) : List V → Hp → VK → Prop := fun xs H Q => ∃ p ys, xs = [.ref p] ∧ (SqL K H p ys ∨ SqT K H p ys) ∧ ∀ l, H l = none → Q (.ref l) (upd H l (.lst ys))
def rMin2 : List V → Hp → VK → Prop := fun xs H Q => ∃ i j, xs = [.int i, .int j] ∧ Q (.int (if j < i then j else i)) H
section
variable {X : Cx}
theorem call_len1 : CallR X (.builtin "len") (rLen1 X.K) := call_len_seq
theorem call_tupOf : CallR X (.type "tuple") (rTupOf X.K) := call_tuple_of
theorem call_listOf : CallR X (.type "list") (rListOf X.K) := call_list_of
theorem call_min2n (hc : X.calm = true) : CallR X (.builtin "min") rMin2 := call_min2 hc
theorem ix_listK (K : PySem.W.Frag) (e : X.K = K := by rfl) : IxR X (rIxL K) := e ▸ ix_list
theorem ix_tupK (K : PySem.W.Frag) (e : X.K = K := by rfl) : IxR X (rIxT K) := e ▸ ix_tup
theorem ix_seqK (K : PySem.W.Frag) (e : X.K = K := by rfl) : IxR X (rIx K) := e ▸ ix_seq
theorem call_len1K (K : PySem.W.Frag) (e : X.K = K := by rfl) : CallR X (.builtin "len") (rLen1 K) := e ▸ call_len1
theorem call_tupOfK (K : PySem.W.Frag) (e : X.K = K := by rfl) : CallR X (.type "tuple") (rTupOf K) := e ▸ call_tupOf
theorem call_listOfK (K : PySem.W.Frag) (e : X.K = K := by rfl) : CallR X (.type "list") (rListOf K) := e ▸ call_listOf
theorem call_isiK1 (K : PySem.W.Frag) (e : X.K = K := by rfl) : CallR X (.builtin "isinstance") (rIsi K) := e ▸ call_isi
theorem call_isiTK (K : PySem.W.Frag) (e : X.K = K := by rfl) : CallR X (.builtin "isinstance") (rIsiT K) := e ▸ call_isiT
theorem cr_allK (K : PySem.W.Frag) (hc : X.calm = true) (e : X.K = K := by rfl) : CallR X (.builtin "all") (rAll K) := e ▸ cr_all hc
theorem op_in_seqK (K : PySem.W.Frag) (e : X.K = K := by rfl) : OpR X (compareOp .In) (rIn K false) := e ▸ op_in_seq
theorem op_eqDK (K : PySem.W.Frag) (hu : X.A.units + 64 < cLine) (e : X.K = K := by rfl) : OpR X (compareOp .Eq) (rEqD K) := e ▸ op_eqD hu
theorem op_neDK (K : PySem.W.Frag) (hu : X.A.units + 64 < cLine) (e : X.K = K := by rfl) : OpR X (compareOp .NotEq) (rNeD K) := e ▸ op_neD hu
theorem sl_tupK (K : PySem.W.Frag) (e : X.K = K := by rfl) : SlR X (rSlT K) := e ▸ sl_tup
theorem op_catTK (K : PySem.W.Frag) (e : X.K = K := by rfl) : OpR X (binaryOp .Add) (rCatT K) := e ▸ op_catT
theorem pe_cint {x : Str} {i : Int} {pos : Pos} (h : ∃ t, X.mg x = some (.int i t)) (hg : Gl X x := by rfl) (hd : (x == ("__debug__" : Str)) = false := by decide) : PE X (.Name x pos) (tC (.int i)) := by
  obtain ⟨t, e⟩ := h
  exact pe_glob hg e ⟨t, rfl⟩ hd
end
section
variable {K : PySem.W.Frag} {H : Hp} {v x y : V} {Q : VK} {a p : Addr} {xs : List V}
theorem rd_lenL (h : SqL K H p xs) (q : Q (.int xs.length) H) : rLen1 K [.ref p] H Q := ⟨p, xs, rfl, .inl h, q⟩
theorem rd_lenT (h : SqT K H p xs) (q : Q (.int xs.length) H) : rLen1 K [.ref p] H Q := ⟨p, xs, rfl, .inr h, q⟩
theorem rd_tupOf (h : SqL K H p xs) (q : ∀ l, H l = none → Q (.ref l) (upd H l (.tup xs))) : rTupOf K [.ref p] H Q := ⟨p, xs, rfl, .inl ⟨h, q⟩⟩
theorem rd_listOf (h : SqL K H p xs) (q : ∀ l, H l = none → Q (.ref l) (upd H l (.lst xs))) : rListOf K [.ref p] H Q := ⟨p, xs, rfl, .inl h, q⟩
theorem rd_min2 {i j : Int} (q : Q (.int (if j < i then j else i)) H) : rMin2 [.int i, .int j] H Q := ⟨i, j, rfl, q⟩
theorem rd_isi {A T : String} {b : Bool} (t : TyX K H x (.type A)) (e : kitB A T = some b) (q : Q (.bl b) H) : rIsi K [x, .ty T] H Q := ⟨x, .ty T, .type A, .type T, b, rfl, .ty T, t, kit_ty e, q⟩
theorem rd_isiT2 {A T1 T2 : String} {b1 b2 : Bool} (h : H p = some (.tup [.ty T1, .ty T2])) (t : TyX K H x (.type A)) (e1 : kitB A T1 = some b1) (e2 : kitB A T2 = some b2) (q : Q (.bl (b1 || b2)) H) : rIsiT K [x, .ref p] H Q := by
  refine ⟨x, p, _, .type A, [.type T1, .type T2], b1 || b2, rfl, h, .cons (.ty T1) (.cons (.ty T2) .nil), t, kitAny_cons (kit_ty e1) (fun h1 => ?_) (fun h1 => by rw [h1]; rfl), q⟩
  rw [h1, Bool.false_or]
  exact kitAny_cons (kit_ty e2) (fun h2 => by rw [h2]; rfl) (fun h2 => by rw [h2])
end
end Dc

set_option Elab.async false
set_option linter.all false
set_option maxRecDepth 100000
set_option maxHeartbeats 2000000
namespace Dc
open PySem PySem.Spec PyProof.Rows L2
/-! ### the text by places -/
def topS (i : Nat) : Stmt := PySem.Challenge.pw_drawchain_k05_whole_drawn_as_whole_rows.main.body.getD i (.Pass ⟨0, 0, 0, 0⟩)
abbrev s_BadText___init__ : Stmt := inClass (topS 5) 0
abbrev s_makers_within : Stmt := topS 11
abbrev s_check_chain : Stmt := topS 12
abbrev s_is_chain : Stmt := topS 13
abbrev s_is_pair : Stmt := topS 14
abbrev s_is_maker : Stmt := topS 15
abbrev s_is_row : Stmt := topS 16
abbrev s_is_stage : Stmt := topS 17
abbrev s_has_chain : Stmt := topS 18
abbrev s_is_within : Stmt := topS 19
abbrev s_is_number : Stmt := topS 20
abbrev s_Meter___init__ : Stmt := inClass (topS 24) 0
abbrev s_Meter_enter : Stmt := inClass (topS 24) 1
abbrev s_Meter_begin_next : Stmt := inClass (topS 24) 2
abbrev s_Meter_note_drawn : Stmt := inClass (topS 24) 3
abbrev s_Meter_note_undone : Stmt := inClass (topS 24) 4
abbrev s_Count___init__ : Stmt := inClass (topS 26) 0
abbrev s_Count_draw : Stmt := inClass (topS 26) 1
abbrev s_Row___init__ : Stmt := inClass (topS 27) 0
abbrev s_Row_draw : Stmt := inClass (topS 27) 1
abbrev s_Stage___init__ : Stmt := inClass (topS 28) 0
abbrev s_Stage_draw : Stmt := inClass (topS 28) 1
abbrev s_Stage_work : Stmt := inClass (topS 28) 2
abbrev s_Reckon___init__ : Stmt := inClass (topS 29) 0
abbrev s_Reckon_work : Stmt := inClass (topS 29) 1
abbrev s_Keep___init__ : Stmt := inClass (topS 30) 0
abbrev s_Keep_work : Stmt := inClass (topS 30) 1
abbrev s_Drop___init__ : Stmt := inClass (topS 31) 0
abbrev s_Drop_work : Stmt := inClass (topS 31) 1
abbrev s_Take___init__ : Stmt := inClass (topS 32) 0
abbrev s_Take_work : Stmt := inClass (topS 32) 1
abbrev s_Each___init__ : Stmt := inClass (topS 33) 0
abbrev s_Each_work : Stmt := inClass (topS 33) 1
abbrev s_Until___init__ : Stmt := inClass (topS 34) 0
abbrev s_Until_work : Stmt := inClass (topS 34) 1
abbrev s_Unlike___init__ : Stmt := inClass (topS 35) 0
abbrev s_Unlike_work : Stmt := inClass (topS 35) 1
abbrev s_Both___init__ : Stmt := inClass (topS 36) 0
abbrev s_Both_work : Stmt := inClass (topS 36) 1
abbrev s_Then___init__ : Stmt := inClass (topS 37) 0
abbrev s_Then_work : Stmt := inClass (topS 37) 1
abbrev s_Drawer___init__ : Stmt := inClass (topS 39) 0
abbrev s_Drawer_next : Stmt := inClass (topS 39) 1
abbrev s_Drawer_drawn : Stmt := inClass (topS 39) 2
abbrev s_Drawer_undone : Stmt := inClass (topS 39) 3
abbrev s_Drawer_put_back : Stmt := inClass (topS 39) 4
abbrev s_chain_end : Stmt := topS 40
abbrev s_maker_of : Stmt := topS 41
abbrev s_stage_behind : Stmt := topS 42
abbrev s_first : Stmt := topS 45
abbrev s_whole : Stmt := topS 48
abbrev s_whole_row : Stmt := topS 49
abbrev s_row_behind : Stmt := topS 50
abbrev s_row_until : Stmt := topS 51
abbrev s_row_unlike : Stmt := topS 52
abbrev s__law_start : Stmt := topS 54
abbrev s__law_drawn : Stmt := topS 55
abbrev s__law_kind : Stmt := topS 56
abbrev s__law_number : Stmt := topS 57
abbrev s__law_maker : Stmt := topS 58
abbrev s__law_stage : Stmt := topS 59
abbrev s__law_chain : Stmt := topS 60
abbrev s__law_any : Stmt := topS 61
abbrev s__law_makers : Stmt := topS 62
abbrev s_law : Stmt := topS 63

structure Txt (K : PySem.W.Frag) (mg : Str → Option Value) : Prop where
  free_len : mg "len" = none
  free_range : mg "range" = none
  free_isinstance : mg "isinstance" = none
  free_tuple : mg "tuple" = none
  free_list : mg "list" = none
  free_int : mg "int" = none
  free_str : mg "str" = none
  free_bool : mg "bool" = none
  free_min : mg "min" = none
  free_all : mg "all" = none
  free_super : mg "super" = none
  free_enumerate : mg "enumerate" = none
  free_zip : mg "zip" = none
  c_FIRST_TOO_LARGE : ∃ t, mg "FIRST_TOO_LARGE" = some (.int 1000000000000000000000000000000 t)
  c_MAKERS_AT_MOST : ∃ t, mg "MAKERS_AT_MOST" = some (.int 4 t)
  c_STAGES_AT_MOST : ∃ t, mg "STAGES_AT_MOST" = some (.int 12 t)
  c_ROW_AT_MOST : ∃ t, mg "ROW_AT_MOST" = some (.int 100 t)
  c_DRAWN_AT_MOST : ∃ t, mg "DRAWN_AT_MOST" = some (.int 200 t)
  c_ASKED_AT_MOST : ∃ t, mg "ASKED_AT_MOST" = some (.int 1000 t)
  c_WHOLE_AT_MOST : ∃ t, mg "WHOLE_AT_MOST" = some (.int 10000 t)

abbrev FnP (K : PySem.W.Frag) (x qual : Str) (st : Stmt) (f : Addr) (fd : FuncData) : Prop := FunD K x qual (defArgs st) (defBody st) (defScope st) [] [] f fd
end Dc

set_option Elab.async false
set_option linter.all false
set_option maxRecDepth 100000
set_option maxHeartbeats 0
namespace Dc
open PySem PySem.Spec PyProof.Rows L2
abbrev theP : Program := PySem.Challenge.pw_drawchain_k05_whole_drawn_as_whole_rows
/-! ### what is looked at behind the top -/
def supW (K : PySem.W.Frag) (p : Str × Option Str) : He.FnW := match K.lookup (He.fAd K p) with
  | some ⟨_, _, .func fd, _⟩ => some (fd.name, fd.qualname, fd.params, fd.body, fd.scope, fd.globals, [], fd.builtins)
  | _ => none
def isNon : Value → Bool
  | .none => true
  | _ => false
def cellB (K : PySem.W.Frag) (D : Addr) : List (Str × Addr) → Bool
  | [(x, cc)] => decide (x = ("__class__" : Str)) && (match K.lookup cc with
    | some ⟨_, _, .cell (some (.ref d)), _⟩ => decide (d = D)
    | _ => false)
  | _ => false
def codeB (K : PySem.W.Frag) (qual : Str) (cd : Value) : Bool := match cd with
  | .ref cda => PySem.W.codeIn K (.ref cda) qual && (match K.lookup cda with
    | some ⟨_, _, .fields ws, _⟩ => (match (ws[2]? : Option Value) with
      | some (.str file _) => ((theP.main.file : Str) == file)
      | _ => false)
    | _ => false)
  | _ => false
def supB (K : PySem.W.Frag) (q : Str × Str) : Bool := (match K.lookup (He.fAd K (q.1, some "__init__")) with
  | some ⟨_, _, .func fd, _⟩ => isNon fd.defaults && (cellB K (He.ga K q.1) fd.closure && codeB K q.2 fd.code)
  | _ => false) && (decide (PySem.W.mroIn K (He.ga K q.1) (.ref (He.ga K q.1)) = some true) && He.eqO (PySem.W.ks_superIn K (He.ga K q.1) (He.ga K q.1) "__init__") (some (some (.ref (He.fAd K ("Stage", some "__init__"))))))
def stg2B (K : PySem.W.Frag) : Bool := decide (PySem.W.typeIn K (.ref (He.fAd K ("Stage", some "__init__"))) = some (.type "function")) && (PySem.W.fnIn K (He.fAd K ("Stage", some "__init__")) && He.eqO (PySem.W.nsIn K cStatics "thirdparty.any") (some none))
def longB (K : PySem.W.Frag) : Bool := PySem.W.excIn K (He.ga K "LongDraw") [Value.type "Exception", Value.type "BaseException", Value.type "object"] "Exception.__new__" && (PySem.W.keepIn K (.ref (He.ga K "LongDraw")) && (decide (PySem.W.subIn K (.ref (He.ga K "LongDraw")) (.type "BaseException") = some true) && decide (PySem.W.typeIn K (.ref (He.ga K "LongDraw")) = some (.type "type"))))
def globs0 : List Str := ["makers_within", "check_chain", "is_chain", "is_pair", "is_maker", "is_row", "is_stage", "has_chain", "is_within", "is_number", "chain_end", "maker_of", "stage_behind", "first", "whole", "whole_row", "row_behind", "row_until", "row_unlike", "_law_start", "_law_drawn", "_law_kind", "_law_number", "_law_maker", "_law_stage", "_law_chain", "_law_any", "_law_makers", "law", "LongDraw"]
def globs1 : List Str := ["Meter", "Drawer", "Stage", "Count", "Row", "Reckon", "Keep", "Drop", "Take", "Each", "Until", "Unlike", "Both", "Then", "DrawError", "BadChain", "BadMany", "NoWhole", "BadText"]
def globs : List Str := globs0 ++ globs1
def frees0 : List Str := ["len", "range", "isinstance", "tuple", "list", "int", "str", "bool", "min", "all", "super", "enumerate", "zip", "ValueError"]
def frees : List Str := frees0
def cons_0 : List (Str × Int) := [("FIRST_TOO_LARGE", 1000000000000000000000000000000), ("MAKERS_AT_MOST", 4), ("STAGES_AT_MOST", 12), ("ROW_AT_MOST", 100), ("DRAWN_AT_MOST", 200), ("ASKED_AT_MOST", 1000), ("WHOLE_AT_MOST", 10000)]
def cons_ : List (Str × Int) := cons_0
def clss0 : List Str := ["Count", "Row", "Reckon", "Keep", "Drop", "Take", "Each", "Until", "Unlike", "Both", "Then", "Meter", "Drawer"]
def clss : List Str := clss0
def nodes0 : List Str := ["Count", "Row", "Reckon", "Keep", "Drop", "Take", "Each", "Until", "Unlike", "Both", "Then"]
def nodes : List Str := nodes0
def flds0 : List Str := ["number", "step", "meter", "place", "numbers", "at", "ahead", "ended", "factor", "term", "rest", "wheel", "left", "many", "n", "last", "other"]
def flds : List Str := flds0
def nas0 : List (Str × Str) := [("Meter", "counts"), ("Meter", "lost"), ("Meter", "left"), ("Drawer", "_meter"), ("Drawer", "_last"), ("Drawer", "_back"), ("Drawer", "_stopped")]
def nas : List (Str × Str) := nas0
def mths0 : List (Str × Str) := [("Meter", "enter"), ("Meter", "begin_next"), ("Meter", "note_drawn"), ("Meter", "note_undone"), ("Count", "draw"), ("Row", "draw"), ("Reckon", "work"), ("Keep", "work"), ("Drop", "work"), ("Take", "work"), ("Each", "work"), ("Until", "work"), ("Unlike", "work"), ("Both", "work"), ("Then", "work"), ("Drawer", "next"), ("Drawer", "drawn"), ("Drawer", "undone"), ("Drawer", "put_back"), ("Reckon", "draw"), ("Keep", "draw"), ("Drop", "draw"), ("Take", "draw"), ("Each", "draw"), ("Until", "draw"), ("Unlike", "draw"), ("Both", "draw"), ("Then", "draw")]
def mths : List (Str × Str) := mths0
def mkrs0 : List Str := ["Count", "Row", "Reckon", "Keep", "Drop", "Take", "Each", "Until", "Unlike", "Both", "Then", "Meter", "Drawer"]
def mkrs : List Str := mkrs0
def sups0 : List (Str × Str) := [("Reckon", "Reckon.__init__"), ("Keep", "Keep.__init__"), ("Drop", "Drop.__init__"), ("Take", "Take.__init__"), ("Each", "Each.__init__"), ("Until", "Until.__init__"), ("Unlike", "Unlike.__init__"), ("Both", "Both.__init__"), ("Then", "Then.__init__")]
def sups : List (Str × Str) := sups0
def fns0 : List He.DefD := [⟨("makers_within", none), "makers_within", "makers_within", defArgs s_makers_within, defBody s_makers_within, defScope s_makers_within, [], []⟩, ⟨("check_chain", none), "check_chain", "check_chain", defArgs s_check_chain, defBody s_check_chain, defScope s_check_chain, [], []⟩, ⟨("is_chain", none), "is_chain", "is_chain", defArgs s_is_chain, defBody s_is_chain, defScope s_is_chain, [], []⟩, ⟨("is_pair", none), "is_pair", "is_pair", defArgs s_is_pair, defBody s_is_pair, defScope s_is_pair, [], []⟩, ⟨("is_maker", none), "is_maker", "is_maker", defArgs s_is_maker, defBody s_is_maker, defScope s_is_maker, [], []⟩, ⟨("is_row", none), "is_row", "is_row", defArgs s_is_row, defBody s_is_row, defScope s_is_row, [], []⟩, ⟨("is_stage", none), "is_stage", "is_stage", defArgs s_is_stage, defBody s_is_stage, defScope s_is_stage, [], []⟩, ⟨("has_chain", none), "has_chain", "has_chain", defArgs s_has_chain, defBody s_has_chain, defScope s_has_chain, [], []⟩, ⟨("is_within", none), "is_within", "is_within", defArgs s_is_within, defBody s_is_within, defScope s_is_within, [], []⟩, ⟨("is_number", none), "is_number", "is_number", defArgs s_is_number, defBody s_is_number, defScope s_is_number, [], []⟩, ⟨("chain_end", none), "chain_end", "chain_end", defArgs s_chain_end, defBody s_chain_end, defScope s_chain_end, [], []⟩, ⟨("maker_of", none), "maker_of", "maker_of", defArgs s_maker_of, defBody s_maker_of, defScope s_maker_of, [], []⟩, ⟨("stage_behind", none), "stage_behind", "stage_behind", defArgs s_stage_behind, defBody s_stage_behind, defScope s_stage_behind, [], []⟩, ⟨("first", none), "first", "first", defArgs s_first, defBody s_first, defScope s_first, [], []⟩, ⟨("whole", none), "whole", "whole", defArgs s_whole, defBody s_whole, defScope s_whole, [], []⟩, ⟨("whole_row", none), "whole_row", "whole_row", defArgs s_whole_row, defBody s_whole_row, defScope s_whole_row, [], []⟩, ⟨("row_behind", none), "row_behind", "row_behind", defArgs s_row_behind, defBody s_row_behind, defScope s_row_behind, [], []⟩, ⟨("row_until", none), "row_until", "row_until", defArgs s_row_until, defBody s_row_until, defScope s_row_until, [], []⟩, ⟨("row_unlike", none), "row_unlike", "row_unlike", defArgs s_row_unlike, defBody s_row_unlike, defScope s_row_unlike, [], []⟩, ⟨("_law_start", none), "_law_start", "_law_start", defArgs s__law_start, defBody s__law_start, defScope s__law_start, [], []⟩, ⟨("_law_drawn", none), "_law_drawn", "_law_drawn", defArgs s__law_drawn, defBody s__law_drawn, defScope s__law_drawn, [], []⟩, ⟨("_law_kind", none), "_law_kind", "_law_kind", defArgs s__law_kind, defBody s__law_kind, defScope s__law_kind, [], []⟩, ⟨("_law_number", none), "_law_number", "_law_number", defArgs s__law_number, defBody s__law_number, defScope s__law_number, [], []⟩, ⟨("_law_maker", none), "_law_maker", "_law_maker", defArgs s__law_maker, defBody s__law_maker, defScope s__law_maker, [], []⟩, ⟨("_law_stage", none), "_law_stage", "_law_stage", defArgs s__law_stage, defBody s__law_stage, defScope s__law_stage, [], []⟩, ⟨("_law_chain", none), "_law_chain", "_law_chain", defArgs s__law_chain, defBody s__law_chain, defScope s__law_chain, [], []⟩, ⟨("_law_any", none), "_law_any", "_law_any", defArgs s__law_any, defBody s__law_any, defScope s__law_any, [], []⟩, ⟨("_law_makers", none), "_law_makers", "_law_makers", defArgs s__law_makers, defBody s__law_makers, defScope s__law_makers, [], []⟩, ⟨("law", none), "law", "law", defArgs s_law, defBody s_law, defScope s_law, [], []⟩, ⟨("Meter", some "__init__"), "__init__", "Meter.__init__", defArgs s_Meter___init__, defBody s_Meter___init__, defScope s_Meter___init__, [], []⟩]
def fns1 : List He.DefD := [⟨("Meter", some "enter"), "enter", "Meter.enter", defArgs s_Meter_enter, defBody s_Meter_enter, defScope s_Meter_enter, [], []⟩, ⟨("Meter", some "begin_next"), "begin_next", "Meter.begin_next", defArgs s_Meter_begin_next, defBody s_Meter_begin_next, defScope s_Meter_begin_next, [], []⟩, ⟨("Meter", some "note_drawn"), "note_drawn", "Meter.note_drawn", defArgs s_Meter_note_drawn, defBody s_Meter_note_drawn, defScope s_Meter_note_drawn, [], []⟩, ⟨("Meter", some "note_undone"), "note_undone", "Meter.note_undone", defArgs s_Meter_note_undone, defBody s_Meter_note_undone, defScope s_Meter_note_undone, [], []⟩, ⟨("Count", some "__init__"), "__init__", "Count.__init__", defArgs s_Count___init__, defBody s_Count___init__, defScope s_Count___init__, [], []⟩, ⟨("Count", some "draw"), "draw", "Count.draw", defArgs s_Count_draw, defBody s_Count_draw, defScope s_Count_draw, [], []⟩, ⟨("Row", some "__init__"), "__init__", "Row.__init__", defArgs s_Row___init__, defBody s_Row___init__, defScope s_Row___init__, [], []⟩, ⟨("Row", some "draw"), "draw", "Row.draw", defArgs s_Row_draw, defBody s_Row_draw, defScope s_Row_draw, [], []⟩, ⟨("Stage", some "__init__"), "__init__", "Stage.__init__", defArgs s_Stage___init__, defBody s_Stage___init__, defScope s_Stage___init__, [], []⟩, ⟨("Stage", some "draw"), "draw", "Stage.draw", defArgs s_Stage_draw, defBody s_Stage_draw, defScope s_Stage_draw, [], []⟩, ⟨("Stage", some "work"), "work", "Stage.work", defArgs s_Stage_work, defBody s_Stage_work, defScope s_Stage_work, [], []⟩, ⟨("Reckon", some "work"), "work", "Reckon.work", defArgs s_Reckon_work, defBody s_Reckon_work, defScope s_Reckon_work, [], []⟩, ⟨("Keep", some "work"), "work", "Keep.work", defArgs s_Keep_work, defBody s_Keep_work, defScope s_Keep_work, [], []⟩, ⟨("Drop", some "work"), "work", "Drop.work", defArgs s_Drop_work, defBody s_Drop_work, defScope s_Drop_work, [], []⟩, ⟨("Take", some "work"), "work", "Take.work", defArgs s_Take_work, defBody s_Take_work, defScope s_Take_work, [], []⟩, ⟨("Each", some "work"), "work", "Each.work", defArgs s_Each_work, defBody s_Each_work, defScope s_Each_work, [], []⟩, ⟨("Until", some "work"), "work", "Until.work", defArgs s_Until_work, defBody s_Until_work, defScope s_Until_work, [], []⟩, ⟨("Unlike", some "work"), "work", "Unlike.work", defArgs s_Unlike_work, defBody s_Unlike_work, defScope s_Unlike_work, [], []⟩, ⟨("Both", some "work"), "work", "Both.work", defArgs s_Both_work, defBody s_Both_work, defScope s_Both_work, [], []⟩, ⟨("Then", some "work"), "work", "Then.work", defArgs s_Then_work, defBody s_Then_work, defScope s_Then_work, [], []⟩, ⟨("Drawer", some "__init__"), "__init__", "Drawer.__init__", defArgs s_Drawer___init__, defBody s_Drawer___init__, defScope s_Drawer___init__, [], []⟩, ⟨("Drawer", some "next"), "next", "Drawer.next", defArgs s_Drawer_next, defBody s_Drawer_next, defScope s_Drawer_next, [], []⟩, ⟨("Drawer", some "drawn"), "drawn", "Drawer.drawn", defArgs s_Drawer_drawn, defBody s_Drawer_drawn, defScope s_Drawer_drawn, [], []⟩, ⟨("Drawer", some "undone"), "undone", "Drawer.undone", defArgs s_Drawer_undone, defBody s_Drawer_undone, defScope s_Drawer_undone, [], []⟩, ⟨("Drawer", some "put_back"), "put_back", "Drawer.put_back", defArgs s_Drawer_put_back, defBody s_Drawer_put_back, defScope s_Drawer_put_back, [], []⟩, ⟨("Reckon", some "draw"), "draw", "Stage.draw", defArgs s_Stage_draw, defBody s_Stage_draw, defScope s_Stage_draw, [], []⟩, ⟨("Keep", some "draw"), "draw", "Stage.draw", defArgs s_Stage_draw, defBody s_Stage_draw, defScope s_Stage_draw, [], []⟩, ⟨("Drop", some "draw"), "draw", "Stage.draw", defArgs s_Stage_draw, defBody s_Stage_draw, defScope s_Stage_draw, [], []⟩, ⟨("Take", some "draw"), "draw", "Stage.draw", defArgs s_Stage_draw, defBody s_Stage_draw, defScope s_Stage_draw, [], []⟩, ⟨("Each", some "draw"), "draw", "Stage.draw", defArgs s_Stage_draw, defBody s_Stage_draw, defScope s_Stage_draw, [], []⟩]
def fns2 : List He.DefD := [⟨("Until", some "draw"), "draw", "Stage.draw", defArgs s_Stage_draw, defBody s_Stage_draw, defScope s_Stage_draw, [], []⟩, ⟨("Unlike", some "draw"), "draw", "Stage.draw", defArgs s_Stage_draw, defBody s_Stage_draw, defScope s_Stage_draw, [], []⟩, ⟨("Both", some "draw"), "draw", "Stage.draw", defArgs s_Stage_draw, defBody s_Stage_draw, defScope s_Stage_draw, [], []⟩, ⟨("Then", some "draw"), "draw", "Stage.draw", defArgs s_Stage_draw, defBody s_Stage_draw, defScope s_Stage_draw, [], []⟩]
def fns : List He.DefD := fns0 ++ fns1 ++ fns2
def supD0 : List He.DefD := [⟨("Reckon", some "__init__"), "__init__", "Reckon.__init__", defArgs s_Reckon___init__, defBody s_Reckon___init__, defScope s_Reckon___init__, [], []⟩, ⟨("Keep", some "__init__"), "__init__", "Keep.__init__", defArgs s_Keep___init__, defBody s_Keep___init__, defScope s_Keep___init__, [], []⟩, ⟨("Drop", some "__init__"), "__init__", "Drop.__init__", defArgs s_Drop___init__, defBody s_Drop___init__, defScope s_Drop___init__, [], []⟩, ⟨("Take", some "__init__"), "__init__", "Take.__init__", defArgs s_Take___init__, defBody s_Take___init__, defScope s_Take___init__, [], []⟩, ⟨("Each", some "__init__"), "__init__", "Each.__init__", defArgs s_Each___init__, defBody s_Each___init__, defScope s_Each___init__, [], []⟩, ⟨("Until", some "__init__"), "__init__", "Until.__init__", defArgs s_Until___init__, defBody s_Until___init__, defScope s_Until___init__, [], []⟩, ⟨("Unlike", some "__init__"), "__init__", "Unlike.__init__", defArgs s_Unlike___init__, defBody s_Unlike___init__, defScope s_Unlike___init__, [], []⟩, ⟨("Both", some "__init__"), "__init__", "Both.__init__", defArgs s_Both___init__, defBody s_Both___init__, defScope s_Both___init__, [], []⟩, ⟨("Then", some "__init__"), "__init__", "Then.__init__", defArgs s_Then___init__, defBody s_Then___init__, defScope s_Then___init__, [], []⟩]
def supD : List He.DefD := supD0
def exB (K : PySem.W.Frag) : Bool := (globs.all fun x => (He.Fa.glo x).ok K) && ((frees.all fun x => (He.Fa.free x).ok K) && ((cons_.all fun q => (He.Fa.int q.1 q.2).ok K) && ((clss.all fun x => (He.Fa.cls x).ok K) && ((nodes.all fun x => flds.all fun f => (He.Fa.noat x f).ok K) && ((nas.all fun q => (He.Fa.noat q.1 q.2).ok K) &&
  ((mths.all fun q => (He.Fa.meth q.1 q.2).ok K) && ((mkrs.all fun x => (He.Fa.mkr x).ok K) && (longB K && ((He.Fa.exm "LongDraw" "LongDraw" true).ok K && (decide ((nodes.map (He.ga K)).Nodup) && ((sups.all fun q => supB K q) && stg2B K)))))))))))
abbrev AlZ : Type := Bool × List He.FnW × List He.FnW
def obsK (K : PySem.W.Frag) : AlZ := (exB K && fns.all fun d => d.ok K, fns.map fun d => He.fnW K d.at_, supD.map fun d => supW K d.at_)
def valZ : AlZ := (true, fns.map He.DefD.val, supD.map He.DefD.val)
def asZ (g : Addr → Option Obj) : List Addr := He.asD g 4 ++ [cStatics]
def exc2B (K : PySem.W.Frag) : Bool := (He.eqO (PySem.W.findIn K (.ref (He.ga K "NoWhole")) "__getattribute__") (some (some (.builtin "BaseException.__getattribute__"))) && (He.eqO (PySem.W.findIn K (.ref (He.ga K "NoWhole")) "__getattr__") (some none) && (decide (PySem.W.subIn K (.ref (He.ga K "NoWhole")) (.type "BaseException") = some true) && (PySem.W.hasDictIn K (He.ga K "NoWhole") && (He.eqO (PySem.W.findIn K (.ref (He.ga K "NoWhole")) "__class__") (some (some (.builtin "object.__class__"))) && (He.eqO (PySem.W.specialIn K (.builtin "object.__class__") "__get__") (some (some (.builtin "getset_descriptor.__get__"))) && (decide (PySem.W.takesIn K (.builtin "object.__class__") = some true) && (decide (PySem.W.mroIn K (He.ga K "NoWhole") (.type "object") = some true) && (decide (PySem.W.exmOne K (.ref (He.ga K "NoWhole")) (.ref (He.ga K "DrawError")) = some true) && (decide (PySem.W.kitOne K (.ref (He.ga K "NoWhole")) (.ref (He.ga K "BadChain")) = some false) && (decide (PySem.W.kitOne K (.ref (He.ga K "NoWhole")) (.ref (He.ga K "BadMany")) = some false) && (decide (PySem.W.kitOne K (.ref (He.ga K "NoWhole")) (.ref (He.ga K "NoWhole")) = some true) && (decide (PySem.W.kitOne K (.ref (He.ga K "NoWhole")) (.ref (He.ga K "BadText")) = some false) && (decide (PySem.W.kitOne K (.ref (He.ga K "NoWhole")) (.type "ValueError") = some true) && (PySem.W.excIn K (He.ga K "NoWhole") [Value.type "ValueError", Value.type "Exception", Value.type "BaseException", Value.type "object"] "ValueError.__new__" && (PySem.W.keepIn K (.ref (He.ga K "NoWhole")) && decide (PySem.W.typeIn K (.ref (He.ga K "NoWhole")) = some (.type "type"))))))))))))))))))
def excsB (K : PySem.W.Frag) : Bool := exc2B K
def tf : List He.Defn := [("law", none)]
def obsZ (g : Addr → Option Obj) (K : PySem.W.Frag) : AlZ × Bool := (obsK K, He.tabsB g tf K && excsB K)
abbrev kz (g : Addr → Option Obj) : PySem.W.Frag := He.frT g (asZ g)
/-- a def's code object, its table: empty, not in K -/
structure TabF (K : PySem.W.Frag) (h : Heap) (d : He.Defn) : Prop where
  hd : PySem.W.codeHdIn K (He.cT K d).1 (He.cT K d).2 = true
  out : K.lookup (He.cT K d).2 = none
  empty : h.get? (He.cT K d).2 = some { cls := .none, data := .fields #[] }
theorem saysZ {h : Heap} (e : obsZ h.get? (kz h.get?) = (valZ, true)) : obsK (kz h.get?) = valZ ∧ excsB (kz h.get?) = true ∧ ∀ d ∈ tf, TabF (kz h.get?) h d := by
  have e1 : obsK (kz h.get?) = valZ := congrArg (fun z : AlZ × Bool => z.1) e
  have e2 : (He.tabsB h.get? tf (kz h.get?) && excsB (kz h.get?)) = true := congrArg (fun z : AlZ × Bool => z.2) e
  obtain ⟨e3, e4⟩ := He.ba e2
  refine ⟨e1, e4, fun d hd => ?_⟩
  obtain ⟨h3, h4⟩ := He.ba (List.all_eq_true.mp e3 d hd)
  refine ⟨h3, ?_, ?_⟩
  · cases q : h.get? (He.cT (kz h.get?) d).2 with
    | none => rw [q] at h4; cases h4
    | some o => rw [q] at h4; exact He.frT_none q h4
  · cases q : h.get? (He.cT (kz h.get?) d).2 with
    | none => rw [q] at h4; cases h4
    | some o => rw [q] at h4; rw [He.emptyTab_eq h4]
def hkZ : PySem.W.Hook where
  α := AlZ × Bool
  obs := fun s => obsZ s.heap.get? (kz s.heap.get?)
  val := fun _ => (valZ, true)
  says := fun _ h => ∃ K : PySem.W.Frag, K.In h ∧ obsK K = valZ ∧ excsB K = true ∧ ∀ d ∈ tf, TabF K h d
  of := fun _ _ e => ⟨_, He.frT_in, saysZ e⟩
  keeps := fun _ _ _ ⟨K, hK, c, b, t⟩ k => ⟨K, PySem.W.Frag.In.keeps hK k, c, b, fun d hd => ⟨(t d hd).hd, (t d hd).out, k _ _ (t d hd).empty⟩⟩
def obZ (s : PySem.W.SharedT) : AlZ × Bool := obsZ (HandSHeadRun.getT s) (kz (HandSHeadRun.getT s))
theorem obZ_eq (s : PySem.W.SharedT) : obZ s = hkZ.obs s.abs := by
  have e : HandSHeadRun.getT s = s.abs.heap.get? := funext (HandSHeadRun.getT_eq s)
  show obsZ (HandSHeadRun.getT s) (kz (HandSHeadRun.getT s)) = obsZ s.abs.heap.get? (kz s.abs.heap.get?)
  rw [e]
abbrev theR : PySem.W.OpenRow := PySem.W.OpenLaw.row PySem.Challenge.rw_drawchain_k05_whole_drawn_as_whole_rows
def loose0 : List PySem.Str := ["DrawError", "BadChain", "BadMany", "NoWhole", "BadText", "FIRST_TOO_LARGE", "MAKERS_AT_MOST", "STAGES_AT_MOST", "ROW_AT_MOST", "makers_within", "check_chain", "is_chain", "is_pair", "is_maker", "is_row", "is_stage", "has_chain", "is_within", "is_number", "DRAWN_AT_MOST", "LongDraw", "Meter", "Count", "Row", "Stage", "Reckon", "Keep", "Drop", "Take", "Each"]
def loose1 : List PySem.Str := ["Until", "Unlike", "Both", "Then", "Drawer", "chain_end", "maker_of", "stage_behind", "ASKED_AT_MOST", "first", "WHOLE_AT_MOST", "whole", "whole_row", "row_behind", "row_until", "row_unlike", "_law_start", "_law_drawn", "_law_kind", "_law_number", "_law_maker", "_law_stage", "_law_chain", "_law_any", "_law_makers"]
def looses : List PySem.Str := loose0 ++ loose1
theorem run (w : World) : HandSHeadRun.RunEq theR (PySem.W.view theR.prog [63]) hkZ obZ 100000 looses w := by
  intro os
  kernel_rfl
end Dc

set_option Elab.async false
set_option linter.all false
set_option maxRecDepth 100000
set_option maxHeartbeats 2000000
namespace Dc
open PySem PySem.Spec PyProof.Rows L2
/-! ### methods by name -/
section
variable {X : Cx} {CX : CXT} {k : Nat} {x m : Str} {C : Addr} {ps : List Str} {sp : Sp} {E : XK} {e o : Expr} {es : List Expr} {t : TA} {ta : TE} {p pos apos : Pos}
theorem pe_cm {pl : Sem Bool} (he : PE X o ta) (G : CalM X.prog X.w X.K X.mg X.base CX k C m ps sp) (hr : Room k X.A) (hx : Passes CX X E) (ha : PA X (e :: es) t)
    (hst : starEach (e :: es) X.env = (false, eval e X.env) :: starEach es X.env := by rfl) (hpl : (backTo pos (starEach es X.env)).any (·.1) = false := by rfl)
    (ht : eval (.Call (.Attribute o m apos) (e :: es) [] pos) X.env = (do
      let ov ← eval o X.env
      standAt apos.atName
      let (f, first) ← holding [ov] (getMethod ov m pl)
      callWith pos f first (backTo pos (starEach (e :: es) X.env)) (backToKw pos (keywordEach [] X.env))) := by rfl) :
    PE X (.Call (.Attribute o m apos) (e :: es) [] pos) (tMeth C m sp [] E ta t) := by
  obtain ⟨f, fd, F, b, hm, c⟩ := G
  exact pe_meth he c hm F hr b .nil hx ha hst hpl ht
theorem pe_cm0 {pl : Sem Bool} (he : PE X o ta) (G : CalM X.prog X.w X.K X.mg X.base CX k C m ps sp) (hr : Room k X.A) (hx : Passes CX X E)
    (ht : eval (.Call (.Attribute o m apos) [] [] pos) X.env = (do
      let ov ← eval o X.env
      standAt apos.atName
      let (f, first) ← holding [ov] (getMethod ov m pl)
      callWith pos f first (backTo pos (starEach [] X.env)) (backToKw pos (keywordEach [] X.env))) := by rfl) :
    PE X (.Call (.Attribute o m apos) [] [] pos) (tMeth C m sp [] E ta tNil) := by
  obtain ⟨f, fd, F, b, hm, c⟩ := G
  exact pe_meth0 he c hm F hr b .nil hx ht
/-- o.m(), o an instance of one of the classes Cs, each of which keeps the same promise -/
def tDyn (Cs : Addr → Prop) (m : Str) (sp : Addr → Sp) (E : XK) (ta : TE) : TE := fun σ H Q => ta σ H fun x H1 => ∃ a C dx fs, x = .ref a ∧ Cs C ∧ H1 a = some (.ins C dx fs) ∧ fs.lookup m = none ∧ sp C [.ref a] H1 Q E
theorem pe_dyn0 {Cs : Addr → Prop} {sp : Addr → Sp} {pl : Sem Bool} (he : PE X o ta) (G : ∀ C, Cs C → CalM X.prog X.w X.K X.mg X.base CX k C m ps (sp C)) (hr : Room k X.A) (hx : Passes CX X E)
    (ht : eval (.Call (.Attribute o m apos) [] [] pos) X.env = (do
      let ov ← eval o X.env
      standAt apos.atName
      let (f, first) ← holding [ov] (getMethod ov m pl)
      callWith pos f first (backTo pos (starEach [] X.env)) (backToKw pos (keywordEach [] X.env))) := by rfl) :
    PE X (.Call (.Attribute o m apos) [] [] pos) (tDyn Cs m sp E ta) := by
  refine ⟨fun pins s σ H Q I h => ?_⟩
  refine PySem.W.methodCall_KW (pl := pl) (thn (he.run pins s σ H _ I h) fun u s1 ⟨x, H1, I1, rx, a, C, dx, fs, ex, hC, ea, l, q⟩ => ?_) ht
  subst ex
  obtain rfl : u = Value.ref a := rx
  obtain ⟨f, fd, F, b, hm, c⟩ := G C hC
  refine getmeth_ok I1 ea c hm l ?_
  exact PySem.W.callWith_K0 (first := [.ref a]) I1.kIn hm.kp (run_fn (us := [.ref a]) (vs := [.ref a]) (dvs := []) F hr b .nil hx I1 (.cons rfl .nil) q)
theorem pe_mk (G : CalI X.prog X.w X.K X.mg X.base CX k x C ps sp) (hr : Room (k + 1) X.A) (hx : Passes CX X E) (ha : PA X (e :: es) t) (hg : Gl X x := by rfl) (hdb : (x == ("__debug__" : Str)) = false := by decide)
    (he : starEach (e :: es) X.env = (false, eval e X.env) :: starEach es X.env := by rfl) (hpl : (backTo pos (starEach es X.env)).any (·.1) = false := by rfl) :
    PE X (.Call (.Name x p) (e :: es) [] pos) (tMake C sp [] E t) := by
  obtain ⟨f, fd, F, b, M, g⟩ := G
  exact pe_make M F hr hg g b .nil hx ha hdb he hpl
theorem pe_mk0 (G : CalI X.prog X.w X.K X.mg X.base CX k x C ps sp) (hr : Room (k + 1) X.A) (hx : Passes CX X E) (hg : Gl X x := by rfl) (hdb : (x == ("__debug__" : Str)) = false := by decide) :
    PE X (.Call (.Name x p) [] [] pos) (tMake C sp [] E tNil) := by
  obtain ⟨f, fd, F, b, M, g⟩ := G
  exact pe_make0 M F hr hg g b .nil hx hdb
end
section
variable {K : PySem.W.Frag} {σ : L2.St} {H : Hp} {i : Nat} {v x y : V} {ta tb te tv : TE} {Q : VK} {a C dx : Addr} {fs : List (Str × V)} {f m : Str} {sp : Sp} {E : XK} {t : TA} {D : Ends}
theorem rd_fld (h : ta σ H fun x H1 => ∃ a C dx fs v, x = .ref a ∧ H1 a = some (.ins C dx fs) ∧ Cls K C ∧ NoAttr K C f ∧ fs.lookup f = some v ∧ Q v H1) : tFld K ta f σ H Q := h
theorem rd_f (h : H a = some (.ins C dx fs)) (c : Cls K C) (n : NoAttr K C f) (l : fs.lookup f = some v) (q : Q v H) : ∃ a' C dx fs v, V.ref a = .ref a' ∧ H a' = some (.ins C dx fs) ∧ Cls K C ∧ NoAttr K C f ∧ fs.lookup f = some v ∧ Q v H := ⟨a, C, dx, fs, v, rfl, h, c, n, l, q⟩
/-- self.f -/
theorem rd_sf (hs : σ[i]? = some (some (.ref a))) (h : H a = some (.ins C dx fs)) (c : Cls K C) (n : NoAttr K C f) (l : fs.lookup f = some v) (q : Q v H) : tFld K (tVar i) f σ H Q := ⟨_, hs, a, C, dx, fs, v, rfl, h, c, n, l, q⟩
/-- o.f = e -/
theorem rd_fset (h : tv σ H fun y H1 => ta σ H1 fun x H2 => ∃ a C dx fs, x = .ref a ∧ H2 a = some (.ins C dx fs) ∧ Cls K C ∧ NoAttr K C f ∧ fs.length < 1000 ∧ D.nx σ (upd H2 a (.ins C dx (putF f y fs)))) : sFld K ta tv f D σ H := h
theorem rd_st (h : H a = some (.ins C dx fs)) (c : Cls K C) (n : NoAttr K C f) (l : fs.length < 1000) (q : D.nx σ (upd H a (.ins C dx (putF f y fs)))) :
    ∃ a' C dx fs, V.ref a = .ref a' ∧ H a' = some (.ins C dx fs) ∧ Cls K C ∧ NoAttr K C f ∧ fs.length < 1000 ∧ D.nx σ (upd H a' (.ins C dx (putF f y fs))) := ⟨a, C, dx, fs, rfl, h, c, n, l, q⟩
/-- o.f += e -/
theorem rd_faug {rd : V → V → Hp → VK → Prop} (hs : σ[i]? = some (some (.ref a))) (h : H a = some (.ins C dx fs)) (c : Cls K C) (n : NoAttr K C f) (l : fs.lookup f = some v)
    (q : tv σ H fun y H2 => rd v y H2 fun z H3 => ∃ dx2 fs2, H3 a = some (.ins C dx2 fs2) ∧ fs2.length < 1000 ∧ D.nx σ (upd H3 a (.ins C dx2 (putF f z fs2)))) : sFldAug K (tVar i) tv rd f D σ H := ⟨_, hs, a, C, dx, fs, v, rfl, h, c, n, l, q⟩
theorem rd_ri {g : Int → Int → Int} {i j : Int} (q : Q (.int (g i j)) H) : (fun (x y : V) (H : Hp) (Q : VK) => ∃ i j, x = .int i ∧ y = .int j ∧ Q (.int (g i j)) H) (.int i) (.int j) H Q := ⟨i, j, rfl, rfl, q⟩
theorem rd_meth (h : ta σ H fun x H1 => ∃ a dx fs, x = .ref a ∧ H1 a = some (.ins C dx fs) ∧ fs.lookup m = none ∧ t σ H1 fun vs H2 => sp (x :: (vs ++ [])) H2 Q E) : tMeth C m sp [] E ta t σ H Q := h
theorem rd_m (h : H a = some (.ins C dx fs)) (l : fs.lookup m = none) (q : t σ H fun vs H2 => sp (.ref a :: (vs ++ [])) H2 Q E) : ∃ a' dx fs, V.ref a = .ref a' ∧ H a' = some (.ins C dx fs) ∧ fs.lookup m = none ∧ t σ H fun vs H2 => sp (V.ref a :: (vs ++ [])) H2 Q E := ⟨a, dx, fs, rfl, h, l, q⟩
theorem rd_dyn {Cs : Addr → Prop} {sp : Addr → Sp} (h : ta σ H fun x H1 => ∃ a C dx fs, x = .ref a ∧ Cs C ∧ H1 a = some (.ins C dx fs) ∧ fs.lookup m = none ∧ sp C [.ref a] H1 Q E) : tDyn Cs m sp E ta σ H Q := h
theorem rd_d {Cs : Addr → Prop} {sp : Addr → Sp} (hC : Cs C) (h : H a = some (.ins C dx fs)) (l : fs.lookup m = none) (q : sp C [.ref a] H Q E) : ∃ a' C dx fs, V.ref a = .ref a' ∧ Cs C ∧ H a' = some (.ins C dx fs) ∧ fs.lookup m = none ∧ sp C [.ref a'] H Q E := ⟨a, C, dx, fs, rfl, hC, h, l, q⟩
theorem rd_make (h : t σ H fun vs H1 => ∀ x dx, H1 x = none → H1 dx = none → dx ≠ x → sp (.ref x :: (vs ++ [])) (upd (upd H1 dx (.own x)) x (.ins C dx [])) (fun v H2 => v = .non ∧ Q (.ref x) H2) E) : tMake C sp [] E t σ H Q := h
end
/-! ### l[i] += e -/
section
variable {X : Cx}
def gtL (K : PySem.W.Frag) : V → V → Hp → VK → Prop := fun o i H Q => ∃ (p : Addr) (xs : List V) (k : Nat) (v : V), o = .ref p ∧ i = .int (k : Int) ∧ SqL K H p xs ∧ xs[k]? = some v ∧ Q v H
theorem get_listK (K : PySem.W.Frag) (e : X.K = K := by rfl) : PGet X (gtL K) := by
  subst e
  intro pins s σ H o i u w Q I ro ri h
  obtain ⟨p, xs, k, v, rfl, rfl, hq, hv, q⟩ := h
  obtain rfl : u = Value.ref p := ro
  obtain ⟨t, rfl⟩ := ri
  obtain ⟨its, r, pl, hz⟩ := I.list hq
  obtain ⟨z, ez, rz⟩ := r.get hv
  have hl := r.length
  have hn := line63
  have hk : k < xs.length := (List.getElem?_eq_some_iff.mp hv).1
  exact wpAny_getItem_list pl.isList (by omega) (by omega) (by simpa using ez) ⟨v, H, I, rz, q⟩
end
/-! ### match -/
abbrev TP := V → Hp → (Option (List V) → Hp → Prop) → Prop
abbrev TPs := List V → Hp → (Option (List V) → Hp → Prop) → Prop
def PatEnd (X : Cx) (pins : List (Addr × Obj)) (σ : L2.St) (ns : List Str) (Q : Option (List V) → Hp → Prop) (r : Option (List (Str × Value))) (s' : Shared) : Prop :=
  match r with
  | none => ∃ H', Inv X pins σ H' s' ∧ Q none H'
  | some bs => ∃ vs H', Inv X pins σ H' s' ∧ bs.map (·.1) = ns ∧ Vals vs (bs.map (·.2)) ∧ Q (some vs) H'
/-- a pattern, the names that it binds -/
structure PPat (X : Cx) (p : Pattern) (ns : List Str) (t : TP) : Prop where
  run : ∀ (pins : List (Addr × Obj)) (s : Shared) (σ : L2.St) (H : Hp) (v : V) (u : Value) (Q : Option (List V) → Hp → Prop), Inv X pins σ H s → RelV v u → t v H Q → wpAny (model X.prog X.w) X.A (matchPattern p X.env u) (PatEnd X pins σ ns Q) X.xe s
structure PPats (X : Cx) (ps : List Pattern) (ns : List Str) (t : TPs) : Prop where
  run : ∀ (pins : List (Addr × Obj)) (s : Shared) (σ : L2.St) (H : Hp) (vs : List V) (us : List Value) (Q : Option (List V) → Hp → Prop), Inv X pins σ H s → Vals vs us → t vs H Q → wpAny (model X.prog X.w) X.A (matchEach ps X.env us) (PatEnd X pins σ ns Q) X.xe s
section
variable {X : Cx} {pos pos' : Pos}
/-- a written text -/
def tPStr (r : R2) (x : Str) : TP := fun v H Q => r v (.str x) H fun b H' => ∃ k, b = .bl k ∧ if k = true then Q (some []) H' else Q none H'
theorem pat_str {x : Str} {j : Nat} {r : R2} (ho : OpR X (compareOp .Eq) r) : PPat X (.MatchValue (.Constant (.str x) j pos) pos') [] (tPStr r x) := by
  refine ⟨fun pins s σ H v u Q I rv h => ?_⟩
  refine wpAny_matchPattern_Value ?_
  refine Calls.Constant_str ?_
  refine wpAny_mono (ho pins _ σ H v (.str x) u _ _ (I.tok _) rv ⟨_, rfl⟩ h) (fun c s1 hc => ?_) fun _ _ z => z
  obtain ⟨b, H1, I1, rb, k, rfl, q⟩ := hc
  cases rb
  refine wpAny_truthy_bool ?_
  cases k with
  | true => exact ⟨[], H1, I1, rfl, .nil, by simpa using q⟩
  | false => exact ⟨H1, I1, by simpa using q⟩
def tPCap : TP := fun v H Q => Q (some [v]) H
theorem pat_cap {n : Str} : PPat X (.MatchAs none (some n) pos) [n] tPCap :=
  ⟨fun pins s σ H v u Q I rv h => wpAny_matchPattern_Capture ⟨[v], H, I, rfl, .cons rv .nil, h⟩⟩
def tPWild : TP := fun v H Q => Q (some []) H
theorem pat_wild : PPat X (.MatchAs none none pos) [] tPWild :=
  ⟨fun pins s σ H v u Q I rv h => wpAny_matchPattern_Capture ⟨[], H, I, rfl, .nil, h⟩⟩
/-- one written text or another -/
def tPOr (t u : TP) : TP := fun v H Q => t v H fun r H1 => match r with | some vs => Q (some vs) H1 | none => u v H1 Q
structure PFst (X : Cx) (ps : List Pattern) (t : TP) : Prop where
  run : ∀ (pins : List (Addr × Obj)) (s : Shared) (σ : L2.St) (H : Hp) (v : V) (u : Value) (Q : Option (List V) → Hp → Prop), Inv X pins σ H s → RelV v u → t v H Q → wpAny (model X.prog X.w) X.A (matchFirst ps X.env u) (PatEnd X pins σ [] Q) X.xe s
def tPNo : TP := fun _ H Q => Q none H
theorem pf_nil : PFst X [] tPNo := ⟨fun pins s σ H v u Q I rv h => wpAny_matchFirst_nil ⟨H, I, h⟩⟩
theorem pf_cons {p : Pattern} {ps : List Pattern} {t u : TP} (h : PPat X p [] t) (hs : PFst X ps u) : PFst X (p :: ps) (tPOr t u) := by
  refine ⟨fun pins s σ H v w Q I rv q => ?_⟩
  refine wpAny_matchFirst_cons (wpAny_mono (h.run pins s σ H v w _ I rv q) (fun r s1 hr => ?_) fun _ _ z => z)
  cases r with
  | none =>
    obtain ⟨H1, I1, q1⟩ := hr
    exact hs.run pins s1 σ H1 v w Q I1 rv q1
  | some bs =>
    obtain ⟨vs, H1, I1, e, rr, q1⟩ := hr
    exact ⟨vs, H1, I1, e, rr, q1⟩
theorem pat_or {ps : List Pattern} {t : TP} (h : PFst X ps t) (hn : namesOfAll (ps.take 1) = [] := by rfl) : PPat X (.MatchOr ps pos) [] (fun v H Q => t v H fun r H1 => match r with | some _ => Q (some []) H1 | none => Q none H1) := by
  refine ⟨fun pins s σ H v w Q I rv q => ?_⟩
  refine wpAny_matchPattern_Or (wpAny_mono (h.run pins s σ H v w _ I rv q) (fun r s1 hr => ?_) fun _ _ z => z)
  cases r with
  | none => exact hr
  | some bs =>
    obtain ⟨vs, H1, I1, e, rr, q1⟩ := hr
    rw [hn]
    exact ⟨[], H1, I1, rfl, .nil, q1⟩
/-- the parts, one by one -/
def tPNil : TPs := fun _ H Q => Q (some []) H
def tPCons (t : TP) (u : TPs) : TPs := fun vs H Q => ∃ v r, vs = v :: r ∧ t v H fun b H1 => match b with | none => Q none H1 | some xs => u r H1 fun b2 H2 => match b2 with | none => Q none H2 | some ys => Q (some (xs ++ ys)) H2
theorem pp_nil : PPats X [] [] tPNil := ⟨fun pins s σ H vs us Q I rv h => wpAny_matchEach_nil ⟨[], H, I, rfl, .nil, h⟩⟩
theorem pp_cons {p : Pattern} {ps : List Pattern} {n1 n2 : List Str} {t : TP} {u : TPs} (h : PPat X p n1 t) (hs : PPats X ps n2 u) (hp : p.isStar = false := by rfl) : PPats X (p :: ps) (n1 ++ n2) (tPCons t u) := by
  refine ⟨fun pins s σ H vs us Q I rv q => ?_⟩
  obtain ⟨v, r, rfl, q⟩ := q
  cases rv with
  | cons r1 r2 =>
    refine wpAny_matchEach_cons (wpAny_mono (h.run pins s σ H v _ _ I r1 q) (fun b s1 hb => ?_) fun _ _ z => z) hp
    cases b with
    | none => exact hb
    | some bs =>
      obtain ⟨xs, H1, I1, e1, rr, q1⟩ := hb
      refine wpAny_mono (hs.run pins s1 σ H1 r _ _ I1 r2 q1) (fun b2 s2 hb2 => ?_) fun _ _ z => z
      cases b2 with
      | none => exact hb2
      | some bs2 =>
        obtain ⟨ys, H2, I2, e2, rr2, q2⟩ := hb2
        refine ⟨xs ++ ys, H2, I2, by rw [List.map_append, e1, e2], ?_, q2⟩
        rw [List.map_append]
        exact rr.append rr2
/-- a tuple of so many parts -/
def tPSeq (K : PySem.W.Frag) (n : Nat) (t : TPs) : TP := fun v H Q => ∃ a xs, v = .ref a ∧ SqT K H a xs ∧ (xs.length ≠ n → Q none H) ∧ (xs.length = n → t xs H Q)
theorem pat_seq {ps : List Pattern} {ns : List Str} {t : TPs} (hc : X.calm = true) (h : PPats X ps ns t) (hstar : ps.findIdx? (·.isStar) = none := by rfl) (hwild : (ps.all fun p => p.isWildcard || (p.isStar && p.names.isEmpty)) = false := by rfl) :
    PPat X (.MatchSequence ps pos) ns (tPSeq X.K ps.length t) := by
  refine ⟨fun pins s σ H v u Q I rv q => ?_⟩
  obtain ⟨a, xs, rfl, hq, q1, q2⟩ := q
  obtain rfl : u = Value.ref a := rv
  obtain ⟨its, rr, ht, hz⟩ := I.tuple hq
  have hfit : ((its.toArray).size : Int) < 2 ^ 63 := by
    have := rr.length
    have l := line63
    simp only [List.size_toArray]
    omega
  by_cases hl : xs.length = ps.length
  · refine PyProof.Rows.matchSeq_tuple_hit ht hfit (by simp [← hl, rr.length]) ?_ hstar hwild
    have e : ps.length = its.toArray.size := by simp [← hl, rr.length]
    rw [e]
    refine unpackItems_tuple (s := { s with toks := s.toks + 1 + 1 }) (I.ok.hd hc) ht fun h' hx => ?_
    have I1 : Inv X pins σ H { s with heap := h', toks := s.toks + 1 + 1 } := I.kept (t' := s.toks + 1 + 1) fun b o e => hx b o (Nat.ne_of_lt (Heap.lt_size e)) e
    exact h.run pins _ σ H xs _ Q I1 (by simpa using rr) (q2 hl)
  · refine PyProof.Rows.matchSeq_tuple_miss ht hfit (by simpa [← rr.length] using hl) ?_ hstar hwild
    exact ⟨H, I.tok _, q1 hl⟩
/-- what is bound goes to its slots -/
def setAll : L2.St → List Nat → List V → L2.St
  | σ, i :: is, v :: vs => setAll (σ.set i (some v)) is vs
  | σ, _, _ => σ
theorem assign_all {pins : List (Addr × Obj)} (hN : X.N.Nodup) : ∀ {ns : List Str} {is : List Nat} {bs : List (Str × Value)} {vs : List V} {σ : L2.St} {H : Hp} {s : Shared} {Q : Unit → Shared → Prop} {E : Value → Shared → Prop}, Inv X pins σ H s → bs.map (·.1) = ns → Vals vs (bs.map (·.2)) →
    (is.map fun i => X.N[i]?) = ns.map some → (∀ n ∈ ns, X.env.scope.names.lookup n = some .local) → (∀ s', Inv X pins (setAll σ is vs) H s' → Q () s') → wpAny (model X.prog X.w) X.A (assignInOrder (bs.map fun (n, _) => bindName X.env n) (bs.map (·.2))) Q E s
  | ns, is, [], vs, σ, H, s, Q, E, I, e, rv, hi, hl, q => by
    cases rv
    subst e
    cases is with
    | nil => exact wpAny_assignInOrder_none (q s I)
    | cons i is => cases hi
  | ns, is, (n, u) :: bs, vs, σ, H, s, Q, E, I, e, rv, hi, hl, q => by
    subst e
    cases is with
    | nil => cases hi
    | cons i is =>
      cases rv with
      | @cons v _ vs _ r1 r2 =>
        simp only [List.map_cons, List.cons.injEq] at hi
        refine wpAny_assignInOrder_more ?_
        show wpAny _ _ (bindName X.env n u) _ _ _
        unfold bindName
        refine wpAny_bind (wpAny_holding (wpAny_point ?_))
        refine wpAny_bind (store_ok (v := v) I hN hi.1 (.inl (hl n (by simp))) r1 (fun s1 I1 => wpAny_point ?_) (.inr (hl n (by simp))))
        exact assign_all hN I1 rfl r2 hi.2 (fun m hm => hl m (by simp at hm ⊢; exact .inr hm)) q
/-- the cases, in turn -/
structure PCs (X : Cx) (cs : List MatchCase) (t : V → TS) : Prop where
  run : ∀ (first : Bool) (pins : List (Addr × Obj)) (s : Shared) (σ : L2.St) (H : Hp) (v : V) (u : Value) (D : Ends), Inv X pins σ H s → RelV v u → t v D σ H → wpAny (model X.prog X.w) X.A (matchCases cs X.env u first) (SP X pins D) X.xe s
def tCNil : V → TS := fun _ D σ H => D.nx σ H
theorem pc_nil : PCs X [] tCNil := ⟨fun first pins s σ H v u D I rv h => wpAny_matchCases_nil ⟨σ, H, I, h⟩⟩
def tCase (pt : TP) (is : List Nat) (tb : TS) (rest : V → TS) : V → TS := fun v D σ H => pt v H fun r H1 => match r with | none => rest v D σ H1 | some vs => tb D (setAll σ is vs) H1
theorem pc_cons {p : Pattern} {body : List Stmt} {cs : List MatchCase} {ns : List Str} {is : List Nat} {pt : TP} {tb : TS} {rest : V → TS} (hN : X.N.Nodup) (hp : PPat X p ns pt) (hi : (is.map fun i => X.N[i]?) = ns.map some) (hl : ∀ n ∈ ns, X.env.scope.names.lookup n = some .local)
    (hb : PSs X body tb) (hr : PCs X cs rest) : PCs X (⟨p, none, body⟩ :: cs) (tCase pt is tb rest) := by
  refine ⟨fun first pins s σ H v u D I rv h => ?_⟩
  refine wpAny_matchCases_cons (wpAny_mono (hp.run pins s σ H v u _ I rv h) (fun r s1 hr1 => ?_) fun _ _ z => z)
  cases r with
  | none =>
    obtain ⟨H1, I1, q1⟩ := hr1
    exact hr.run false pins s1 σ H1 v u D I1 rv q1
  | some bs =>
    obtain ⟨vs, H1, I1, e, rr, q1⟩ := hr1
    exact assign_all hN I1 e rr hi hl fun s2 I2 => hb.run pins s2 _ H1 D I2 q1
theorem all_local {ns : List Str} (h : (ns.all fun n => decide (X.env.scope.names.lookup n = some .local)) = true) : ∀ n ∈ ns, X.env.scope.names.lookup n = some .local := fun n hn => of_decide_eq_true (List.all_eq_true.mp h n hn)
def tMatch (te : TE) (cs : V → TS) : TS := fun D σ H => te σ H fun v H1 => cs v D σ H1
theorem ps_match {e : Expr} {te : TE} {cs : List MatchCase} {t : V → TS} (he : PE X e te) (hc : PCs X cs t) : PS X (.Match e cs pos) (tMatch te t) := by
  refine ⟨fun pins s σ H D I h => ?_⟩
  refine wpAny_Match (wpAny_mono (he.run pins s σ H _ I h) (fun u s1 hu => ?_) fun _ _ z => z)
  obtain ⟨v, H1, I1, rv, q⟩ := hu
  exact hc.run true pins s1 σ H1 v u D I1 rv q
end
section
variable {K : PySem.W.Frag} {H : Hp} {a : Addr} {v : V} {xs : List V} {Q : Option (List V) → Hp → Prop} {t : TPs} {n : Nat} {σ : L2.St} {D : Ends} {te : TE} {cs : V → TS}
theorem rd_match (h : te σ H fun v H1 => cs v D σ H1) : tMatch te cs D σ H := h
theorem rd_case {pt : TP} {is : List Nat} {tb : TS} {rest : V → TS} (h : pt v H fun r H1 => match r with | none => rest v D σ H1 | some vs => tb D (setAll σ is vs) H1) : tCase pt is tb rest v D σ H := h
theorem rd_cnil (h : D.nx σ H) : tCNil v D σ H := h
theorem rd_pstr {x : Str} {r : R2} (h : r v (.str x) H fun b H' => ∃ k, b = .bl k ∧ if k = true then Q (some []) H' else Q none H') : tPStr r x v H Q := h
theorem rd_pcap (h : Q (some [v]) H) : tPCap v H Q := h
theorem rd_pwild (h : Q (some []) H) : tPWild v H Q := h
theorem rd_por {t u : TP} (h : t v H fun r H1 => match r with | some vs => Q (some vs) H1 | none => u v H1 Q) : tPOr t u v H Q := h
theorem rd_pno (h : Q none H) : tPNo v H Q := h
theorem rd_pnil (h : Q (some []) H) : tPNil xs H Q := h
theorem rd_pcons {t : TP} {u : TPs} (h : t v H fun b H1 => match b with | none => Q none H1 | some ys => u xs H1 fun b2 H2 => match b2 with | none => Q none H2 | some zs => Q (some (ys ++ zs)) H2) : tPCons t u (v :: xs) H Q := ⟨v, xs, rfl, h⟩
theorem rd_pmiss (h : SqT K H a xs) (e : xs.length ≠ n) (q : Q none H) : tPSeq K n t (.ref a) H Q := ⟨a, xs, rfl, h, fun _ => q, fun z => absurd z e⟩
theorem rd_phit (h : SqT K H a xs) (e : xs.length = n) (q : t xs H Q) : tPSeq K n t (.ref a) H Q := ⟨a, xs, rfl, h, fun z => absurd e z, fun _ => q⟩
end
/-! ### d.setdefault(k, x), k a tuple -/
def rSetdT : V → List V → Hp → VK → Prop := fun x xs H Q => ∃ (a : Addr) (kvs : List (List L2.Key × V)) (k : List L2.Key) (b : Addr) (d : V), x = .ref a ∧ xs = [.ref b, d] ∧ H a = some (.dT kvs) ∧ H b = some (.tup (k.map kV)) ∧ kvs.length < sizeLine ∧
  (∀ v, valV kvs k = some v → Q v H) ∧ (valV kvs k = none → Q d (upd H a (.dT (putK kvs k d))))
theorem mt_setdT {X : Cx} (hu : X.A.units + 1 < cLine) : MtR X "dict.setdefault" rSetdT := by
  intro pins s σ H x xs v us Q I rx rxs h
  obtain ⟨a, kvs, k, b, d, rfl, rfl, ha, hb, hlen, q1, q2⟩ := h
  cases rx
  obtain ⟨u1, u2, rfl, r1, r2⟩ := vals2 rxs
  cases r1
  obtain ⟨z, hd, xs', rel, dd⟩ := dt_of I.hok ha
  have hz : xs'.length ≤ sizeLine := by rw [← Paired.length rel]; exact z
  have hl : (putK kvs k d).length ≤ sizeLine := by have := length_putK kvs k d; omega
  refine call_setdefault_heap (knd := tupleKind (mixKind X.prog X.w)) (hsz := hz) (tupleKind_room_in1 hu) (key_of I.hok hb) hd dd (fun p hp => ?_) (fun hn h' dd' hs => ?_)
  · have r := rel.val k
    rw [hp] at r
    obtain ⟨v0, ev, rv⟩ : ∃ v0, valV kvs k = some v0 ∧ RelV v0 p.2 := by
      cases ev : valV kvs k with
      | none => rw [ev] at r; exact (show False from r).elim
      | some v0 => rw [ev] at r; exact ⟨v0, rfl, r⟩
    exact ⟨v0, H, I.tok _, rv, q1 v0 ev⟩
  · have r := rel.val k
    rw [hn] at r
    have e : valV kvs k = none := by
      cases ev : valV kvs k with
      | none => rfl
      | some v0 => rw [ev] at r; exact (show False from r).elim
    obtain ⟨q, es, ep, hq, h2, h3, h4, _, h5⟩ := dd'
    refine ⟨d, upd H a (.dT (putK kvs k d)), d_write I (by rw [ha]; exact True.intro) hs ⟨q, hq⟩ ⟨hl, hd, _, (rel.put k hb r2).keeps fun c ys ec => ?_, q, es, ep, hq, h2, h3, h4, h5⟩, r2, q2 e⟩
    rw [upd_ne (ne_of ec ha (fun z => nomatch z))]
    exact ec
theorem rd_setdT {a b : Addr} {kvs : List (List L2.Key × V)} {k : List L2.Key} {d : V} {H : Hp} {Q : VK} (ha : H a = some (.dT kvs)) (hb : H b = some (.tup (k.map kV))) (hl : kvs.length < sizeLine)
    (q1 : ∀ v, valV kvs k = some v → Q v H) (q2 : valV kvs k = none → Q d (upd H a (.dT (putK kvs k d)))) : rSetdT (.ref a) [.ref b, d] H Q := ⟨a, kvs, k, b, d, rfl, rfl, ha, hb, hl, q1, q2⟩
end Dc

set_option Elab.async false
set_option linter.all false
set_option maxRecDepth 100000
set_option maxHeartbeats 2000000
namespace Dc
open PySem PySem.Spec PyProof.Rows L2
/-! ### defs that may let an exception out -/
theorem okX {P : Program} {w : World} {K : PySem.W.Frag} {mg : Str → Option Value} {base : Heap} {x qual : Str} {params : Arguments} {body : List Stmt} {scope : Scope} {f : Addr} {fd : FuncData}
    {N ps : List Str} {k : Nat} {sp : Sp} (F : FunD K x qual params body scope [] [] f fd) (S : FnScope N ps scope) (len : ∀ vs H Q E, sp vs H Q E → vs.length = ps.length)
    (hbody : ∀ (cdv : Value) (A : Around) (outer : List Env) (s : Shared) (H : Hp) (vs : List V) (Q : VK) (E : XK), Room k (A.deeper (envOfC qual scope s.heap.objs.size f cdv)) → sp vs H Q E →
      Passes (L2.CX P w) (cxOf (L2.CX P w) P w K mg base N qual scope f cdv A outer s H E) E →
      Takes (cxOf (L2.CX P w) P w K mg base N qual scope f cdv A outer s H E) (fun cls d _ H => E cls d H) →
      PassesOwn (model P w) (A.deeper (envOfC qual scope s.heap.objs.size f cdv)) (envOfC qual scope s.heap.objs.size f cdv) (cxOf (L2.CX P w) P w K mg base N qual scope f cdv A outer s H E).xe →
      ∃ t, PSs (cxOf (L2.CX P w) P w K mg base N qual scope f cdv A outer s H E) body t ∧ t { nx := fun _ H' => Q .non H', rt := Q } (start N vs) H) : FnOk P w K mg base (L2.CX P w) (k + 1) f fd ps sp := by
  refine F.ok S len fun cdv A outer s H vs Q E hr h => ?_
  have tk : Takes (cxOf (L2.CX P w) P w K mg base N qual scope f cdv A outer s H E) (fun cls d _ H => E cls d H) := takes_of rfl rfl rfl rfl
  exact hbody cdv A outer s H vs Q E hr h (passes_call tk fun _ _ _ _ h => h) tk (passes_of rfl)
/-- behind a callee that lets nothing out -/
theorem passX0 {X : Cx} : Passes (L2.CX X.prog X.w) X E0 := fun _ _ _ _ _ _ _ ⟨_, _, _, _, _, _, _, _, _, _, _, _, h⟩ => h.elim
theorem rd_augS {to ti te : TE} {tget : V → V → Hp → VK → Prop} {tip : TIp} {tset : TSet} {D : Ends} {σ : L2.St} {H : Hp} (h : to σ H fun o H1 => ti σ H1 fun i H2 => tget o i H2 fun x H3 => te σ H3 fun y H4 => tip x y H4 fun z H5 => tset o i z H5 fun H6 => D.nx σ H6) : tAugS to ti te tget tip tset D σ H := h
end Dc

set_option Elab.async false
set_option linter.all false
set_option maxRecDepth 100000
set_option maxHeartbeats 2000000
namespace Dc
open PySem PySem.Spec PyProof.Rows L2
/-! a list that a def only reads may be held as it stands -/
theorem updF_none {H : Hp} {a b : Addr} {u u' : HO} (h : H a = some u) (n : H b = none) : upd H a u' b = none := by
  rw [upd_ne (fun z => by rw [z, h] at n; cases n)]
  exact n
theorem updF_ne {H : Hp} {a b : Addr} {u u' v : HO} (h : H a = some u) (n : H b = some v) (d : v ≠ u) : upd H a u' b = some v := by
  rw [upd_ne (fun z => by rw [z, h] at n; exact d (Option.some.inj n).symm)]
  exact n
theorem updF_back {H : Hp} {a b : Addr} {u' : HO} (n : upd H a u' b = none) : H b = none ∧ b ≠ a := by
  by_cases z : b = a
  · rw [z, upd_same] at n; cases n
  · rw [upd_ne z] at n; exact ⟨n, z⟩
def spFz (sp : Sp) : Sp := fun vs H Q E => sp vs H Q E ∨ ∃ a xs, H a = some (.lst xs) ∧ ∀ o, sp vs (upd H a (.frz o (.lst xs))) Q E
theorem fnFrz {P : Program} {w : World} {K : PySem.W.Frag} {mg : Str → Option Value} {base : Heap} {k : Nat} {f : Addr} {fd : FuncData} {ps : List Str} {sp : Sp} (F : FnOk P w K mg base CX0 k f fd ps sp) : FnOk P w K mg base CX0 k f fd ps (spFz sp) := by
  refine ⟨fun vs H Q E h => ?_, fun A outer s H args us vs Q E hr e0 hb rv h => ?_⟩
  · rcases h with h | ⟨a, xs, _, h⟩
    · exact F.len vs H Q E h
    · exact F.len vs _ Q E (h { cls := .none, data := .fields #[] })
  · rcases h with h | ⟨a, xs, ha, h⟩
    · exact F.run A outer s H args us vs Q E hr e0 hb rv h
    · obtain ⟨hz, its, n, r, ho⟩ := e0.hok a _ ha
      generalize hob : ({ cls := .type "list", data := .seq its.toArray n } : Obj) = ob at ho
      have hok : HOk P w (upd H a (.frz ob (.lst xs))) s.heap := fun b u hb2 => by
        have st : ∀ b u, H b = some u → ObjOk P w (upd H a (.frz ob (.lst xs))) s.heap b u := fun b u hu => (e0.hok b u hu).stay (fun _ _ _ z => z) (fun d z => updF_ne ha z (fun y => by cases y)) (fun d ys z => updF_ne ha z (fun y => by cases y))
        by_cases hb3 : b = a
        · rw [hb3, upd_same] at hb2
          cases hb2
          rw [hb3]
          exact ⟨ho, st a _ ha⟩
        · rw [upd_ne hb3] at hb2
          exact st b u hb2
      have e1 : Env0 P w K mg base A outer s (upd H a (.frz ob (.lst xs))) := ⟨e0.frames, e0.mod, fun b o q => ⟨(e0.bs b o q).1, updF_none ha (e0.bs b o q).2⟩, e0.bsz, e0.funs, fun b q => updF_none ha (e0.frf b q), hok, e0.bare⟩
      refine codeAny_mono (F.run A outer s _ args us vs Q E hr e1 hb rv (h ob)) fun r s' hq => ?_
      cases r with
      | error e => exact hq
      | ok fl =>
        cases fl with
        | ret u =>
          obtain ⟨v, H', os, bare, un, hok', rv', q⟩ := hq
          refine ⟨v, H', os, bare, ⟨fun b o z n => un.keep b o z (updF_none ha n), fun b o z n => un.slot b o z (updF_none ha n), fun b o z n => un.free b o z (updF_none ha n), un.there, fun b ys z => un.tups b ys (updF_ne ha z (fun y => by cases y)), fun b o u z => un.frzs b o u (updF_ne ha z (fun y => by cases y)), fun b ps z => un.tbls b ps (updF_ne ha z (fun y => by cases y))⟩, hok', rv', q⟩
        | next => exact hq
        | brk => exact hq
        | cont => exact hq
end Dc

set_option Elab.async false
set_option linter.all false
set_option maxRecDepth 100000
set_option maxHeartbeats 2000000
namespace Dc
open PySem PySem.Spec PyProof.Rows L2
/-! ### chains as data -/
inductive Mkr where
  | count (b s : Int)
  | row (ns : List Int)
inductive Kd where
  | add (n : Int) | times (n : Int) | keep (r w : Int) | drop (k : Int) | take (k : Int) | each (k : Int) | «until» (n : Int) | unlike
/-- a chain, its stages from the maker on -/
inductive Ch where
  | mkr (m : Mkr)
  | st (c : Ch) (k : Kd)
  | both (c o : Ch)
  | thn (c o : Ch)
def numOk (n : Int) : Prop := -(10 ^ 30) < n ∧ n < 10 ^ 30
def Mkr.ok : Mkr → Prop
  | .count b s => numOk b ∧ numOk s
  | .row ns => ns.length ≤ 100 ∧ ∀ n ∈ ns, numOk n
def Mkr.isRow : Mkr → Prop
  | .count _ _ => False
  | .row _ => True
def Kd.ok : Kd → Prop
  | .add n => numOk n
  | .times n => numOk n ∧ -(2 ^ 64) < n ∧ n < 2 ^ 64
  | .keep r w => 2 ≤ w ∧ w ≤ 1000 ∧ 0 ≤ r ∧ r < w
  | .drop k => 0 ≤ k ∧ k ≤ 100
  | .take k => 0 ≤ k ∧ k ≤ 100
  | .each k => 1 ≤ k ∧ k ≤ 10
  | .until n => numOk n
  | .unlike => True
def Ch.ok : Ch → Prop
  | .mkr m => m.ok
  | .st c k => c.ok ∧ k.ok
  | .both c o => c.ok ∧ o.ok
  | .thn c o => c.ok ∧ o.ok
def Ch.rows : Ch → Prop
  | .mkr m => m.isRow
  | .st c _ => c.rows
  | .both c o => c.rows ∧ o.rows
  | .thn c o => c.rows ∧ o.rows
/-- how many makers, how many stages in all, how many stages of its own -/
def Ch.nm : Ch → Nat
  | .mkr _ => 1
  | .st c _ => c.nm
  | .both c o => c.nm + o.nm
  | .thn c o => c.nm + o.nm
def Ch.ns : Ch → Nat
  | .mkr _ => 0
  | .st c _ => c.ns + 1
  | .both c o => c.ns + o.ns + 1
  | .thn c o => c.ns + o.ns + 1
def Ch.len : Ch → Nat
  | .mkr _ => 0
  | .st c _ => c.len + 1
  | .both c _ => c.len + 1
  | .thn c _ => c.len + 1
theorem Ch.nm_pos : ∀ c : Ch, 1 ≤ c.nm
  | .mkr _ => Nat.le_refl _
  | .st c _ => c.nm_pos
  | .both c o => by have := c.nm_pos; show 1 ≤ c.nm + o.nm; omega
  | .thn c o => by have := c.nm_pos; show 1 ≤ c.nm + o.nm; omega
theorem Ch.len_le : ∀ c : Ch, c.len ≤ c.ns
  | .mkr _ => Nat.le_refl _
  | .st c _ => by have := c.len_le; show c.len + 1 ≤ c.ns + 1; omega
  | .both c o => by have := c.len_le; show c.len + 1 ≤ c.ns + o.ns + 1; omega
  | .thn c o => by have := c.len_le; show c.len + 1 ≤ c.ns + o.ns + 1; omega
/-! ### chains in the heap -/
def Kd.vals : Kd → List V
  | .add n => [.str "add", .int n]
  | .times n => [.str "times", .int n]
  | .keep r w => [.str "keep", .int r, .int w]
  | .drop k => [.str "drop", .int k]
  | .take k => [.str "take", .int k]
  | .each k => [.str "each", .int k]
  | .until n => [.str "until", .int n]
  | .unlike => [.str "unlike"]
def Kd.name : Kd → Str
  | .add _ => "add"
  | .times _ => "times"
  | .keep _ _ => "keep"
  | .drop _ => "drop"
  | .take _ => "take"
  | .each _ => "each"
  | .until _ => "until"
  | .unlike => "unlike"
theorem Kd.at0 (k : Kd) : atI k.vals 0 = some (.str k.name) := by cases k <;> rfl
def MkAt (H : Hp) (a : Addr) : Mkr → Prop
  | .count b s => H a = some (.tup [.str "count", .int b, .int s])
  | .row ns => ∃ r, H a = some (.tup [.str "row", .ref r]) ∧ H r = some (.tup (ns.map V.int))
def StsAt (H : Hp) : Ch → Addr → List Addr → Prop
  | .mkr m, a, as => as = [] ∧ MkAt H a m
  | .st c k, a, as => ∃ as' x, as = as' ++ [x] ∧ StsAt H c a as' ∧ H x = some (.tup k.vals)
  | .both c o, a, as => ∃ as' x p, as = as' ++ [x] ∧ StsAt H c a as' ∧ H x = some (.tup [.str "both", .ref p]) ∧ ∃ m ss bs, H p = some (.tup [.ref m, .ref ss]) ∧ H ss = some (.tup (bs.map V.ref)) ∧ StsAt H o m bs
  | .thn c o, a, as => ∃ as' x p, as = as' ++ [x] ∧ StsAt H c a as' ∧ H x = some (.tup [.str "then", .ref p]) ∧ ∃ m ss bs, H p = some (.tup [.ref m, .ref ss]) ∧ H ss = some (.tup (bs.map V.ref)) ∧ StsAt H o m bs
def ChAt (H : Hp) (p : Addr) (c : Ch) : Prop := ∃ m ss bs, H p = some (.tup [.ref m, .ref ss]) ∧ H ss = some (.tup (bs.map V.ref)) ∧ StsAt H c m bs
/-- a stage, simple or with a chain -/
inductive Sg where
  | one (k : Kd)
  | both (o : Ch)
  | thn (o : Ch)
def SgAt (H : Hp) (x : Addr) : Sg → Prop
  | .one k => H x = some (.tup k.vals)
  | .both o => ∃ p, H x = some (.tup [.str "both", .ref p]) ∧ ChAt H p o
  | .thn o => ∃ p, H x = some (.tup [.str "then", .ref p]) ∧ ChAt H p o
def Ch.snoc (c : Ch) : Sg → Ch
  | .one k => .st c k
  | .both o => .both c o
  | .thn o => .thn c o
def Sg.ok : Sg → Prop
  | .one k => k.ok
  | .both o => o.ok
  | .thn o => o.ok
def Sg.rows : Sg → Prop
  | .one _ => True
  | .both o => o.rows
  | .thn o => o.rows
def Sg.nm : Sg → Nat
  | .one _ => 0
  | .both o => o.nm
  | .thn o => o.nm
def Sg.ns : Sg → Nat
  | .one _ => 0
  | .both o => o.ns
  | .thn o => o.ns
theorem StsAt.snoc {H : Hp} {c : Ch} {a x : Addr} {as : List Addr} {g : Sg} (h : StsAt H c a as) (hx : SgAt H x g) : StsAt H (c.snoc g) a (as ++ [x]) := by
  cases g with
  | one k => exact ⟨as, x, rfl, h, hx⟩
  | both o => obtain ⟨p, h1, h2⟩ := hx; exact ⟨as, x, p, rfl, h, h1, h2⟩
  | thn o => obtain ⟨p, h1, h2⟩ := hx; exact ⟨as, x, p, rfl, h, h1, h2⟩
theorem Ch.snoc_nm (c : Ch) (g : Sg) : (c.snoc g).nm = c.nm + g.nm := by cases g <;> rfl
theorem Ch.snoc_ns (c : Ch) (g : Sg) : (c.snoc g).ns = c.ns + g.ns + 1 := by cases g <;> rfl
theorem Ch.snoc_ok {c : Ch} {g : Sg} (h : c.ok) (h' : g.ok) : (c.snoc g).ok := by cases g <;> exact ⟨h, h'⟩
theorem Ch.snoc_rows {c : Ch} {g : Sg} (h : c.rows) (h' : g.rows) : (c.snoc g).rows := by cases g <;> first | exact h | exact ⟨h, h'⟩
theorem MkAt.fr {S : List Addr} {H H' : Hp} {a : Addr} {m : Mkr} (f : Fr S H H') (h : MkAt H a m) : MkAt H' a m := by
  cases m with
  | count b s => exact f.tp h
  | row ns => obtain ⟨r, h1, h2⟩ := h; exact ⟨r, f.tp h1, f.tp h2⟩
theorem StsAt.fr {S : List Addr} {H H' : Hp} (f : Fr S H H') : ∀ {c : Ch} {a : Addr} {as : List Addr}, StsAt H c a as → StsAt H' c a as
  | .mkr m, a, as, ⟨h1, h2⟩ => ⟨h1, h2.fr f⟩
  | .st c k, a, as, ⟨as', x, h1, h2, h3⟩ => ⟨as', x, h1, h2.fr f, f.tp h3⟩
  | .both c o, a, as, ⟨as', x, p, h1, h2, h3, m, ss, bs, h4, h5, h6⟩ => ⟨as', x, p, h1, h2.fr f, f.tp h3, m, ss, bs, f.tp h4, f.tp h5, h6.fr f⟩
  | .thn c o, a, as, ⟨as', x, p, h1, h2, h3, m, ss, bs, h4, h5, h6⟩ => ⟨as', x, p, h1, h2.fr f, f.tp h3, m, ss, bs, f.tp h4, f.tp h5, h6.fr f⟩
theorem ChAt.fr {S : List Addr} {H H' : Hp} {p : Addr} {c : Ch} (f : Fr S H H') (h : ChAt H p c) : ChAt H' p c := by
  obtain ⟨m, ss, bs, h1, h2, h3⟩ := h
  exact ⟨m, ss, bs, f.tp h1, f.tp h2, h3.fr f⟩
theorem SgAt.fr {S : List Addr} {H H' : Hp} {x : Addr} {g : Sg} (f : Fr S H H') (h : SgAt H x g) : SgAt H' x g := by
  cases g with
  | one k => exact f.tp h
  | both o => obtain ⟨p, h1, h2⟩ := h; exact ⟨p, f.tp h1, h2.fr f⟩
  | thn o => obtain ⟨p, h1, h2⟩ := h; exact ⟨p, f.tp h1, h2.fr f⟩
theorem StsAt.length {H : Hp} : ∀ {c : Ch} {a : Addr} {as : List Addr}, StsAt H c a as → as.length = c.len
  | .mkr m, a, as, ⟨h1, h2⟩ => by rw [h1]; rfl
  | .st c k, a, as, ⟨as', x, h1, h2, h3⟩ => by rw [h1, List.length_append, h2.length]; rfl
  | .both c o, a, as, ⟨as', x, p, h1, h2, _⟩ => by rw [h1, List.length_append, h2.length]; rfl
  | .thn c o, a, as, ⟨as', x, p, h1, h2, _⟩ => by rw [h1, List.length_append, h2.length]; rfl
end Dc

set_option Elab.async false
set_option linter.all false
set_option maxRecDepth 100000
set_option maxHeartbeats 2000000
namespace Dc
/-! ### drawing, as a function upon trees -/
/-- what a stage keeps -/
structure Ow where
  over : Bool
  told : Nat
  last : Option Int
  left : Int
/-- what drawing gives -/
inductive Rs where
  | num (n : Int)
  | fin
  | long
/-- numbers of makers drawn for this one, numbers undone -/
structure Mt where
  book : Nat
  lost : List Int
inductive Nd where
  | mkr (m : Mkr) (g : Nat)
  | st (k : Kd) (o : Ow) (c : Nd)
  | both (o : Ow) (c d : Nd)
  | thn (o : Ow) (c d : Nd)
def Ow.fin (o : Ow) : Rs → Ow
  | .num n => { o with told := o.told + 1, last := some n }
  | .fin => { o with over := true }
  | .long => o
/-- what a stage tells without drawing -/
def ahead : Kd → Ow → Option (Rs × Ow)
  | .take k, o => if (o.told : Int) = k then some (.fin, o) else none
  | .each _, o => if 0 < o.left then some (.num (o.last.getD 0), { o with left := o.left - 1 }) else none
  | _, _ => none
inductive Ps where
  | again (o : Ow)
  | tell (v : Int) (o : Ow)
  | stop
/-- what a stage does with a number -/
def pass : Kd → Ow → Int → Ps
  | .add a, o, n => .tell (n + a) o
  | .times a, o, n => .tell (n * a) o
  | .keep r w, o, n => if (n - r) % w = 0 then .tell n o else .again o
  | .drop k, o, n => if o.left + 1 ≤ k then .again { o with left := o.left + 1 } else .tell n { o with left := o.left + 1 }
  | .take _, o, n => .tell n o
  | .each k, o, n => .tell n { o with left := k - 1 }
  | .until a, o, n => if a ≤ n then .stop else .tell n o
  | .unlike, o, n => if 0 < o.told ∧ o.last = some n then .again o else .tell n o
def draw : Nat → Nd → Mt → Option (Rs × Nd × Mt)
  | 0, _, _ => none
  | _ + 1, .mkr (.row ns) g, μ =>
    if ns.length ≤ g then some (.fin, .mkr (.row ns) g, μ) else if μ.book = 200 then some (.long, .mkr (.row ns) g, μ)
    else some (.num (ns.getD g 0), .mkr (.row ns) (g + 1), { μ with book := μ.book + 1 })
  | _ + 1, .mkr (.count b s) g, μ =>
    if μ.book = 200 then some (.long, .mkr (.count b s) g, μ) else some (.num (b + g * s), .mkr (.count b s) (g + 1), { μ with book := μ.book + 1 })
  | f + 1, .st k o c, μ =>
    if o.over = true then some (.fin, .st k o c, μ) else
    match ahead k o with
    | some (r, o') => some (r, .st k (o'.fin r) c, μ)
    | none => match draw f c μ with
      | none => none
      | some (.num n, c', μ') => match pass k o n with
        | .again o' => draw f (.st k o' c') μ'
        | .tell v o' => some (.num v, .st k (o'.fin (.num v)) c', μ')
        | .stop => some (.fin, .st k (o.fin .fin) c', { μ' with lost := μ'.lost ++ [n] })
      | some (.fin, c', μ') => some (.fin, .st k (o.fin .fin) c', μ')
      | some (.long, c', μ') => some (.long, .st k o c', μ')
  | f + 1, .both o c d, μ =>
    if o.over = true then some (.fin, .both o c d, μ) else
    match draw f c μ with
    | none => none
    | some (.num a, c', μ1) => match draw f d μ1 with
      | none => none
      | some (.num b, d', μ2) => some (.num (a + b), .both (o.fin (.num (a + b))) c' d', μ2)
      | some (.fin, d', μ2) => some (.fin, .both (o.fin .fin) c' d', { μ2 with lost := μ2.lost ++ [a] })
      | some (.long, d', μ2) => some (.long, .both o c' d', μ2)
    | some (.fin, c', μ1) => some (.fin, .both (o.fin .fin) c' d, μ1)
    | some (.long, c', μ1) => some (.long, .both o c' d, μ1)
  | f + 1, .thn o c d, μ =>
    if o.over = true then some (.fin, .thn o c d, μ) else
    if o.left = 1 then match draw f d μ with
      | none => none
      | some (r, d', μ1) => some (r, .thn (o.fin r) c d', μ1)
    else match draw f c μ with
      | none => none
      | some (.fin, c', μ1) => match draw f d μ1 with
        | none => none
        | some (r, d', μ2) => some (r, .thn ({ o with left := 1 }.fin r) c' d', μ2)
      | some (.num n, c', μ1) => some (.num n, .thn (o.fin (.num n)) c' d, μ1)
      | some (.long, c', μ1) => some (.long, .thn o c' d, μ1)
/-! ### measures -/
def Nd.gv : Nd → List Int
  | .mkr _ g => [(g : Int)]
  | .st _ _ c => c.gv
  | .both _ c d => c.gv ++ d.gv
  | .thn _ c d => c.gv ++ d.gv
def Nd.sz : Nd → Nat
  | .mkr _ _ => 1
  | .st _ _ c => c.sz + 1
  | .both _ c d => c.sz + d.sz + 1
  | .thn _ c d => c.sz + d.sz + 1
def Nd.mx : Nd → Nat
  | .mkr _ _ => 0
  | .st (.each k) _ c => k.toNat + k.toNat * c.mx
  | .st _ _ c => c.mx
  | .both _ c _ => c.mx
  | .thn _ c d => c.mx + d.mx
def Nd.pot : Nd → Nat
  | .mkr _ _ => 0
  | .st (.each k) o c => o.left.toNat + k.toNat * c.pot
  | .st _ _ c => c.pot
  | .both _ c _ => c.pot
  | .thn _ c d => c.pot + d.pot
def Nd.ended : Nd → Prop
  | .mkr (.row ns) g => ns.length ≤ g
  | .mkr (.count _ _) _ => False
  | .st _ o _ => o.over = true
  | .both o _ _ => o.over = true
  | .thn o _ _ => o.over = true
def Kd.inv : Kd → Ow → Prop
  | .take k, o => (o.told : Int) ≤ k
  | .drop _, o => 0 ≤ o.left
  | .each k, o => 0 ≤ o.left ∧ o.left < k ∧ (0 < o.left → o.last.isSome = true)
  | .unlike, o => (0 < o.told ↔ o.last.isSome = true)
  | _, _ => True
def Nd.inv : Nd → Prop
  | .mkr (.row ns) g => g ≤ ns.length ∧ (Mkr.row ns).ok
  | .mkr (.count b s) _ => (Mkr.count b s).ok
  | .st k o c => k.ok ∧ k.inv o ∧ c.inv
  | .both _ c d => c.inv ∧ d.inv
  | .thn o c d => (o.left = 0 ∨ (o.left = 1 ∧ c.ended)) ∧ c.inv ∧ d.inv
/-- all makers have given at most B numbers -/
def Nd.le (B : Nat) : Nd → Prop
  | .mkr _ g => g ≤ B
  | .st _ _ c => c.le B
  | .both _ c d => c.le B ∧ d.le B
  | .thn _ c d => c.le B ∧ d.le B
theorem Nd.le.mono {B B' : Nat} (h : B ≤ B') : ∀ {x : Nd}, x.le B → x.le B'
  | .mkr _ g, q => Nat.le_trans q h
  | .st _ _ c, q => Nd.le.mono (x := c) h q
  | .both _ c d, q => ⟨Nd.le.mono (x := c) h q.1, Nd.le.mono (x := d) h q.2⟩
  | .thn _ c d, q => ⟨Nd.le.mono (x := c) h q.1, Nd.le.mono (x := d) h q.2⟩
/-- a new tree -/
def ow0 : Ow := ⟨false, 0, none, 0⟩
def Ch.nd : Ch → Nd
  | .mkr m => .mkr m 0
  | .st c k => .st k ow0 c.nd
  | .both c o => .both ow0 c.nd o.nd
  | .thn c o => .thn ow0 c.nd o.nd
theorem Ch.nd_inv : ∀ {c : Ch}, c.ok → c.nd.inv
  | .mkr (.row ns), h => ⟨Nat.zero_le _, h⟩
  | .mkr (.count b s), h => h
  | .st c k, h => by
    refine ⟨h.2, ?_, Ch.nd_inv h.1⟩
    have hk := h.2
    cases k with
    | take k => exact hk.1
    | drop k => exact Int.le_refl 0
    | each k => exact ⟨Int.le_refl 0, by have := hk.1; show (0 : Int) < k; omega, fun q => absurd q (by decide)⟩
    | unlike => show (0 < 0 ↔ false = true); simp
    | _ => trivial
  | .both c o, h => ⟨Ch.nd_inv h.1, Ch.nd_inv h.2⟩
  | .thn c o, h => ⟨.inl rfl, Ch.nd_inv h.1, Ch.nd_inv h.2⟩
theorem Nd.pot_le : ∀ {x : Nd}, x.inv → x.pot ≤ x.mx
  | .mkr _ _, _ => Nat.le_refl _
  | .st (.each k) o c, h => by
    have h1 := Nd.pot_le (x := c) h.2.2
    have h2 := h.2.1
    have h3 : k.toNat * c.pot ≤ k.toNat * c.mx := Nat.mul_le_mul_left _ h1
    show o.left.toNat + k.toNat * c.pot ≤ k.toNat + k.toNat * c.mx
    have : o.left.toNat ≤ k.toNat := by have := h2.1; have := h2.2.1; omega
    omega
  | .st (.add _) o c, h => Nd.pot_le (x := c) h.2.2
  | .st (.times _) o c, h => Nd.pot_le (x := c) h.2.2
  | .st (.keep _ _) o c, h => Nd.pot_le (x := c) h.2.2
  | .st (.drop _) o c, h => Nd.pot_le (x := c) h.2.2
  | .st (.take _) o c, h => Nd.pot_le (x := c) h.2.2
  | .st (.until _) o c, h => Nd.pot_le (x := c) h.2.2
  | .st .unlike o c, h => Nd.pot_le (x := c) h.2.2
  | .both _ c d, h => Nd.pot_le (x := c) h.1
  | .thn _ c d, h => by
    have h1 := Nd.pot_le (x := c) h.2.1
    have h2 := Nd.pot_le (x := d) h.2.2
    show c.pot + d.pot ≤ c.mx + d.mx
    omega
end Dc

set_option Elab.async false
set_option linter.all false
set_option maxRecDepth 100000
set_option maxHeartbeats 2000000
namespace Dc
/-! ### what drawing keeps -/
def Kd.potK : Kd → Ow → Nat → Nat
  | .each k, o, p => o.left.toNat + k.toNat * p
  | _, _, p => p
theorem pot_st (k : Kd) (o : Ow) (c : Nd) : (Nd.st k o c).pot = k.potK o c.pot := by cases k <;> rfl
def Kd.mxK : Kd → Nat → Nat
  | .each k, p => k.toNat + k.toNat * p
  | _, p => p
theorem mx_st (k : Kd) (o : Ow) (c : Nd) : (Nd.st k o c).mx = k.mxK c.mx := by cases k <;> rfl
theorem inv_fin {k : Kd} {o : Ow} (h : k.inv o) : k.inv (o.fin .fin) := by cases k <;> exact h
theorem potK_fin (k : Kd) (o : Ow) (p : Nat) : k.potK (o.fin .fin) p = k.potK o p := by cases k <;> rfl
theorem ahead_facts {k : Kd} {o o' : Ow} {r : Rs} (h : ahead k o = some (r, o')) (hi : k.inv o) :
    k.inv (o'.fin r) ∧ (∀ p, k.potK (o'.fin r) p ≤ k.potK o p) ∧ ((∃ v, r = .num v ∧ ∀ p, k.potK (o'.fin r) p < k.potK o p) ∨ (r = .fin ∧ (o'.fin r).over = true)) := by
  cases k with
  | take k =>
    simp only [ahead] at h
    split at h
    · cases h
      exact ⟨hi, fun p => Nat.le_refl _, .inr ⟨rfl, rfl⟩⟩
    · cases h
  | each k =>
    simp only [ahead] at h
    split at h
    · rename_i hl
      cases h
      obtain ⟨h1, h2, h3⟩ := hi
      refine ⟨⟨by show 0 ≤ o.left - 1; omega, by show o.left - 1 < k; omega, fun _ => rfl⟩, fun p => ?_, .inl ⟨_, rfl, fun p => ?_⟩⟩
      · show (o.left - 1).toNat + k.toNat * p ≤ o.left.toNat + k.toNat * p
        omega
      · show (o.left - 1).toNat + k.toNat * p < o.left.toNat + k.toNat * p
        omega
    · cases h
  | _ => cases h
theorem pass_again {k : Kd} {o o' : Ow} {n : Int} (h : pass k o n = .again o') (hi : k.inv o) : k.inv o' ∧ o'.over = o.over ∧ (∀ p, k.potK o' p = p) ∧ ∀ p, k.potK o p = p := by
  cases k with
  | keep r w =>
    simp only [pass] at h
    split at h
    · cases h
    · cases h; exact ⟨hi, rfl, fun _ => rfl, fun _ => rfl⟩
  | drop k =>
    simp only [pass] at h
    split at h
    · cases h; exact ⟨by have : 0 ≤ o.left := hi; show 0 ≤ o.left + 1; omega, rfl, fun _ => rfl, fun _ => rfl⟩
    · cases h
  | unlike =>
    simp only [pass] at h
    split at h
    · cases h; exact ⟨hi, rfl, fun _ => rfl, fun _ => rfl⟩
    · cases h
  | «until» a =>
    simp only [pass] at h
    split at h <;> cases h
  | _ => cases h
theorem pass_tell {k : Kd} {o o' : Ow} {n v : Int} (h : pass k o n = .tell v o') (ha : ahead k o = none) (hk : k.ok) (hi : k.inv o) : k.inv (o'.fin (.num v)) ∧ ∀ p p', p' < p → k.potK (o'.fin (.num v)) p' < k.potK o p := by
  cases k with
  | add a => cases h; exact ⟨trivial, fun p p' q => q⟩
  | times a => cases h; exact ⟨trivial, fun p p' q => q⟩
  | keep r w =>
    simp only [pass] at h
    split at h
    · cases h; exact ⟨trivial, fun p p' q => q⟩
    · cases h
  | drop k =>
    simp only [pass] at h
    split at h
    · cases h
    · cases h; exact ⟨by have : 0 ≤ o.left := hi; show 0 ≤ o.left + 1; omega, fun p p' q => q⟩
  | take k =>
    cases h
    simp only [ahead] at ha
    split at ha
    · cases ha
    · rename_i hne
      have : (o.told : Int) ≤ k := hi
      exact ⟨by show ((o.told + 1 : Nat) : Int) ≤ k; omega, fun p p' q => q⟩
  | each k =>
    cases h
    simp only [ahead] at ha
    split at ha
    · cases ha
    · rename_i hl
      obtain ⟨h1, h2, h3⟩ := hi
      have hk1 : 1 ≤ k := hk.1
      refine ⟨⟨by show 0 ≤ k - 1; omega, by show k - 1 < k; omega, fun _ => rfl⟩, fun p p' q => ?_⟩
      show (k - 1).toNat + k.toNat * p' < o.left.toNat + k.toNat * p
      have e : k.toNat * p' + k.toNat ≤ k.toNat * p := by
        have := Nat.mul_le_mul_left k.toNat (show p' + 1 ≤ p from q)
        rw [Nat.mul_add, Nat.mul_one] at this
        exact this
      omega
  | «until» a =>
    simp only [pass] at h
    split at h
    · cases h
    · cases h; exact ⟨trivial, fun p p' q => q⟩
  | unlike =>
    simp only [pass] at h
    split at h
    · cases h
    · cases h
      refine ⟨?_, fun p p' q => q⟩
      show (0 < o.told + 1 ↔ true = true)
      simp
structure DF (r : Rs) (x x' : Nd) (m m' : Mt) : Prop where
  inv : x'.inv
  sz : x'.sz = x.sz
  mx : x'.mx = x.mx
  gl : x'.gv.length = x.gv.length
  b1 : m.book ≤ m'.book
  b2 : m'.book ≤ 200
  p1 : m'.book = m.book → x'.pot ≤ x.pot
  p2 : ∀ v, r = .num v → m'.book = m.book → x'.pot < x.pot
  en : r = .fin → x'.ended
  le : ∀ B, x.le B → x'.le (B + (m'.book - m.book))
theorem DF.id_fin {x : Nd} {m : Mt} (h : x.inv) (hb : m.book ≤ 200) (he : x.ended) : DF .fin x x m m :=
  ⟨h, rfl, rfl, rfl, Nat.le_refl _, hb, fun _ => Nat.le_refl _, fun v e => (by cases e), fun _ => he, fun B q => Nd.le.mono (by omega) q⟩
theorem DF.id_long {x : Nd} {m : Mt} (h : x.inv) (hb : m.book ≤ 200) : DF .long x x m m :=
  ⟨h, rfl, rfl, rfl, Nat.le_refl _, hb, fun _ => Nat.le_refl _, fun v e => (by cases e), fun e => (by cases e), fun B q => Nd.le.mono (by omega) q⟩
theorem draw_facts : ∀ (f : Nat) (x : Nd) (m : Mt) (r : Rs) (x' : Nd) (m' : Mt), draw f x m = some (r, x', m') → x.inv → m.book ≤ 200 → DF r x x' m m'
  | 0, _, _, _, _, _, h, _, _ => by simp only [draw] at h; cases h
  | f + 1, .mkr (.row ns) g, m, r, x', m', h, hi, hb => by
    simp only [draw] at h
    split at h
    · rename_i hl
      cases h
      exact DF.id_fin hi hb hl
    · rename_i hl
      split at h
      · cases h
        exact DF.id_long hi hb
      · rename_i hb2
        cases h
        exact ⟨⟨by omega, hi.2⟩, rfl, rfl, rfl, by show m.book ≤ m.book + 1; omega, by show m.book + 1 ≤ 200; omega, fun e => absurd (show m.book + 1 = m.book from e) (by omega), fun v _ e => absurd (show m.book + 1 = m.book from e) (by omega), fun e => (by cases e),
          fun B q => by show g + 1 ≤ B + (m.book + 1 - m.book); have : g ≤ B := q; omega⟩
  | f + 1, .mkr (.count b s) g, m, r, x', m', h, hi, hb => by
    simp only [draw] at h
    split at h
    · cases h
      exact DF.id_long hi hb
    · rename_i hb2
      cases h
      exact ⟨hi, rfl, rfl, rfl, by show m.book ≤ m.book + 1; omega, by show m.book + 1 ≤ 200; omega, fun e => absurd (show m.book + 1 = m.book from e) (by omega), fun v _ e => absurd (show m.book + 1 = m.book from e) (by omega), fun e => (by cases e),
        fun B q => by show g + 1 ≤ B + (m.book + 1 - m.book); have : g ≤ B := q; omega⟩
  | f + 1, .st k o c, m, r, x', m', h, hi, hb => by
    simp only [draw] at h
    split at h
    · rename_i ho
      cases h
      exact DF.id_fin hi hb ho
    · rename_i ho
      obtain ⟨hk, hki, hc⟩ := hi
      split at h
      · rename_i r0 o' ha
        cases h
        obtain ⟨a1, a2, a3⟩ := ahead_facts ha hki
        refine ⟨⟨hk, a1, hc⟩, rfl, by rw [mx_st, mx_st], rfl, Nat.le_refl _, hb, fun _ => by rw [pot_st, pot_st]; exact a2 _, fun v e _ => ?_, fun e => ?_, fun B q => Nd.le.mono (x := .st k (o'.fin r) c) (by omega) q⟩
        · rcases a3 with ⟨w, _, q⟩ | ⟨e2, _⟩
          · rw [pot_st, pot_st]; exact q _
          · rw [e2] at e; cases e
        · rcases a3 with ⟨w, e2, q⟩ | ⟨_, q⟩
          · rw [e2] at e; cases e
          · exact q
      · rename_i ha
        split at h
        · cases h
        · rename_i n c' m1 hd
          have F := draw_facts f c m _ c' m1 hd hc hb
          split at h
          · rename_i o' hp
            obtain ⟨q1, q2, q3, q4⟩ := pass_again hp hki
            have G := draw_facts f (.st k o' c') m1 r x' m' h ⟨hk, q1, F.inv⟩ F.b2
            refine ⟨G.inv, by rw [G.sz]; show c'.sz + 1 = c.sz + 1; rw [F.sz], by rw [G.mx, mx_st, mx_st, F.mx], by rw [G.gl]; exact F.gl, Nat.le_trans F.b1 G.b1, G.b2, fun e => ?_, fun v e0 e => ?_, G.en, fun B q => ?_⟩
            · have e1 : m1.book = m.book := by have := F.b1; have := G.b1; omega
              have e2 : m'.book = m1.book := by omega
              have := F.p2 n rfl e1
              have := G.p1 e2
              rw [pot_st, q3] at this
              rw [pot_st, q4]
              omega
            · have e1 : m1.book = m.book := by have := F.b1; have := G.b1; omega
              have e2 : m'.book = m1.book := by omega
              have := F.p2 n rfl e1
              have := G.p1 e2
              rw [pot_st, q3] at this
              rw [pot_st, q4]
              omega
            · have z := G.le _ (show (Nd.st k o' c').le (B + (m1.book - m.book)) from F.le B q)
              exact Nd.le.mono (by have := F.b1; have := G.b1; omega) z
          · rename_i v o' hp
            cases h
            obtain ⟨q1, q2⟩ := pass_tell hp ha hk hki
            refine ⟨⟨hk, q1, F.inv⟩, by show c'.sz + 1 = c.sz + 1; rw [F.sz], by rw [mx_st, mx_st, F.mx], F.gl, F.b1, F.b2, fun e => ?_, fun v e0 e => ?_, fun e => (by cases e), F.le⟩
            · rw [pot_st, pot_st]; exact Nat.le_of_lt (q2 _ _ (F.p2 n rfl e))
            · rw [pot_st, pot_st]; exact q2 _ _ (F.p2 n rfl e)
          · rename_i hp
            cases h
            refine ⟨⟨hk, inv_fin hki, F.inv⟩, by show c'.sz + 1 = c.sz + 1; rw [F.sz], by rw [mx_st, mx_st, F.mx], F.gl, F.b1, F.b2, fun e => ?_, fun v e0 => (by cases e0), fun _ => rfl, F.le⟩
            have := F.p1 e
            have e2 : ∀ p, k.potK o p = p := by
              cases k with
              | each k => cases hp
              | _ => exact fun _ => rfl
            rw [pot_st, pot_st, potK_fin, e2, e2]
            exact this
        · rename_i c' m1 hd
          cases h
          have F := draw_facts f c m _ c' _ hd hc hb
          refine ⟨⟨hk, inv_fin hki, F.inv⟩, by show c'.sz + 1 = c.sz + 1; rw [F.sz], by rw [mx_st, mx_st, F.mx], F.gl, F.b1, F.b2, fun e => ?_, fun v e0 => (by cases e0), fun _ => rfl, F.le⟩
          have := F.p1 e
          rw [pot_st, pot_st, potK_fin]
          cases k with
          | each k => show o.left.toNat + k.toNat * c'.pot ≤ o.left.toNat + k.toNat * c.pot; have := Nat.mul_le_mul_left k.toNat this; omega
          | _ => exact this
        · rename_i c' m1 hd
          cases h
          have F := draw_facts f c m _ c' _ hd hc hb
          refine ⟨⟨hk, hki, F.inv⟩, by show c'.sz + 1 = c.sz + 1; rw [F.sz], by rw [mx_st, mx_st, F.mx], F.gl, F.b1, F.b2, fun e => ?_, fun v e0 => (by cases e0), fun e => (by cases e), F.le⟩
          have := F.p1 e
          rw [pot_st, pot_st]
          cases k with
          | each k => show o.left.toNat + k.toNat * c'.pot ≤ o.left.toNat + k.toNat * c.pot; have := Nat.mul_le_mul_left k.toNat this; omega
          | _ => exact this
  | f + 1, .both o c d, m, r, x', m', h, hi, hb => by
    simp only [draw] at h
    split at h
    · rename_i ho
      cases h
      exact DF.id_fin hi hb ho
    · obtain ⟨hc, hd⟩ := hi
      split at h
      · cases h
      · rename_i a c' m1 h1
        have F := draw_facts f c m _ c' m1 h1 hc hb
        have fin : ∀ {r0 : Rs} {d' : Nd} {m2 m3 : Mt} {o' : Ow} {r1 : Rs}, draw f d m1 = some (r0, d', m2) → m3.book = m2.book → (r1 = .fin → o'.over = true) → DF r1 (.both o c d) (.both o' c' d') m m3 := by
          intro r0 d' m2 m3 o' r1 h2 eb eo
          have G := draw_facts f d m1 _ d' m2 h2 hd F.b2
          refine ⟨⟨F.inv, G.inv⟩, by show c'.sz + d'.sz + 1 = _; rw [F.sz, G.sz]; rfl, F.mx, by show (c'.gv ++ d'.gv).length = (c.gv ++ d.gv).length; rw [List.length_append, List.length_append, F.gl, G.gl], by rw [eb]; exact Nat.le_trans F.b1 G.b1, by rw [eb]; exact G.b2, fun e => ?_, fun v _ e => ?_, eo, fun B q => ?_⟩
          · exact F.p1 (by rw [eb] at e; have := F.b1; have := G.b1; omega)
          · exact F.p2 a rfl (by rw [eb] at e; have := F.b1; have := G.b1; omega)
          · have := F.b1; have := G.b1
            rw [eb]
            exact ⟨Nd.le.mono (by omega) (F.le B q.1), Nd.le.mono (by omega) (G.le B q.2)⟩
        split at h
        · cases h
        · rename_i b d' m2 h2
          cases h
          exact fin h2 rfl fun e => by cases e
        · rename_i d' m2 h2
          cases h
          exact fin h2 rfl fun _ => rfl
        · rename_i d' m2 h2
          cases h
          exact fin h2 rfl fun e => by cases e
      · rename_i c' m1 h1
        cases h
        have F := draw_facts f c m _ c' _ h1 hc hb
        exact ⟨⟨F.inv, hd⟩, by show c'.sz + d.sz + 1 = _; rw [F.sz]; rfl, F.mx, by show (c'.gv ++ d.gv).length = (c.gv ++ d.gv).length; rw [List.length_append, List.length_append, F.gl], F.b1, F.b2, F.p1, fun v e => (by cases e), fun _ => rfl, fun B q => ⟨F.le B q.1, Nd.le.mono (by omega) q.2⟩⟩
      · rename_i c' m1 h1
        cases h
        have F := draw_facts f c m _ c' _ h1 hc hb
        exact ⟨⟨F.inv, hd⟩, by show c'.sz + d.sz + 1 = _; rw [F.sz]; rfl, F.mx, by show (c'.gv ++ d.gv).length = (c.gv ++ d.gv).length; rw [List.length_append, List.length_append, F.gl], F.b1, F.b2, F.p1, fun v e => (by cases e), fun e => (by cases e), fun B q => ⟨F.le B q.1, Nd.le.mono (by omega) q.2⟩⟩
  | f + 1, .thn o c d, m, r, x', m', h, hi, hb => by
    simp only [draw] at h
    split at h
    · rename_i ho
      cases h
      exact DF.id_fin hi hb ho
    · obtain ⟨hl, hc, hd⟩ := hi
      split at h
      · rename_i hone
        split at h
        · cases h
        · rename_i r0 d' m1 h1
          cases h
          have G := draw_facts f d m _ d' _ h1 hd hb
          have hce : c.ended := by
            rcases hl with e | ⟨_, e⟩
            · rw [e] at hone; cases hone
            · exact e
          refine ⟨⟨.inr ⟨?_, hce⟩, hc, G.inv⟩, by show c.sz + d'.sz + 1 = _; rw [G.sz]; rfl, by show c.mx + d'.mx = _; rw [G.mx]; rfl, by show (c.gv ++ d'.gv).length = (c.gv ++ d.gv).length; rw [List.length_append, List.length_append, G.gl], G.b1, G.b2, fun e => ?_, fun v e0 e => ?_, fun e => ?_, fun B q => ⟨Nd.le.mono (by omega) q.1, G.le B q.2⟩⟩
          · cases r <;> exact hone
          · have := G.p1 e; show c.pot + d'.pot ≤ c.pot + d.pot; omega
          · have := G.p2 v e0 e; show c.pot + d'.pot < c.pot + d.pot; omega
          · subst e; rfl
      · rename_i hone
        have hl0 : o.left = 0 := by
          rcases hl with e | ⟨e, _⟩
          · exact e
          · exact absurd e hone
        split at h
        · cases h
        · rename_i c' m1 h1
          have F := draw_facts f c m _ c' m1 h1 hc hb
          split at h
          · cases h
          · rename_i r0 d' m2 h2
            cases h
            have G := draw_facts f d m1 _ d' _ h2 hd F.b2
            refine ⟨⟨.inr ⟨?_, F.en rfl⟩, F.inv, G.inv⟩, by show c'.sz + d'.sz + 1 = _; rw [F.sz, G.sz]; rfl, by show c'.mx + d'.mx = _; rw [F.mx, G.mx]; rfl, by show (c'.gv ++ d'.gv).length = (c.gv ++ d.gv).length; rw [List.length_append, List.length_append, F.gl, G.gl], Nat.le_trans F.b1 G.b1, G.b2, fun e => ?_, fun v e0 e => ?_, fun e => ?_, fun B q => ?_⟩
            · cases r <;> rfl
            · have := F.b1; have := G.b1
              have := F.p1 (by omega); have := G.p1 (by omega); show c'.pot + d'.pot ≤ c.pot + d.pot; omega
            · have := F.b1; have := G.b1
              have := F.p1 (by omega); have := G.p2 v e0 (by omega); show c'.pot + d'.pot < c.pot + d.pot; omega
            · subst e; rfl
            · have := F.b1; have := G.b1
              exact ⟨Nd.le.mono (by omega) (F.le B q.1), Nd.le.mono (by omega) (G.le B q.2)⟩
        · rename_i n c' m1 h1
          cases h
          have F := draw_facts f c m _ c' _ h1 hc hb
          refine ⟨⟨.inl hl0, F.inv, hd⟩, by show c'.sz + d.sz + 1 = _; rw [F.sz]; rfl, by show c'.mx + d.mx = _; rw [F.mx]; rfl, by show (c'.gv ++ d.gv).length = (c.gv ++ d.gv).length; rw [List.length_append, List.length_append, F.gl], F.b1, F.b2, fun e => ?_, fun v e0 e => ?_, fun e => (by cases e), fun B q => ⟨F.le B q.1, Nd.le.mono (by omega) q.2⟩⟩
          · have := F.p1 e; show c'.pot + d.pot ≤ c.pot + d.pot; omega
          · have := F.p2 n rfl e; show c'.pot + d.pot < c.pot + d.pot; omega
        · rename_i c' m1 h1
          cases h
          have F := draw_facts f c m _ c' _ h1 hc hb
          refine ⟨⟨.inl hl0, F.inv, hd⟩, by show c'.sz + d.sz + 1 = _; rw [F.sz]; rfl, by show c'.mx + d.mx = _; rw [F.mx]; rfl, by show (c'.gv ++ d.gv).length = (c.gv ++ d.gv).length; rw [List.length_append, List.length_append, F.gl], F.b1, F.b2, fun e => ?_, fun v e0 => (by cases e0), fun e => (by cases e), fun B q => ⟨F.le B q.1, Nd.le.mono (by omega) q.2⟩⟩
          have := F.p1 e; show c'.pot + d.pot ≤ c.pot + d.pot; omega
end Dc

set_option Elab.async false
set_option linter.all false
set_option maxRecDepth 100000
set_option maxHeartbeats 2000000
namespace Dc
/-! ### drawing comes to an end -/
theorem draw_mkr (f g : Nat) (m : Mkr) (u : Mt) : draw (f + 1) (.mkr m g) u = draw 1 (.mkr m g) u := by cases m <;> rfl
theorem draw_st (f : Nat) (k : Kd) (o : Ow) (c : Nd) (m : Mt) : draw (f + 1) (.st k o c) m =
    if o.over = true then some (.fin, .st k o c, m) else
    match ahead k o with
    | some (r, o') => some (r, .st k (o'.fin r) c, m)
    | none => match draw f c m with
      | none => none
      | some (.num n, c', m') => match pass k o n with
        | .again o' => draw f (.st k o' c') m'
        | .tell v o' => some (.num v, .st k (o'.fin (.num v)) c', m')
        | .stop => some (.fin, .st k (o.fin .fin) c', { m' with lost := m'.lost ++ [n] })
      | some (.fin, c', m') => some (.fin, .st k (o.fin .fin) c', m')
      | some (.long, c', m') => some (.long, .st k o c', m') := rfl
theorem draw_both (f : Nat) (o : Ow) (c d : Nd) (m : Mt) : draw (f + 1) (.both o c d) m =
    if o.over = true then some (.fin, .both o c d, m) else
    match draw f c m with
    | none => none
    | some (.num a, c', m1) => match draw f d m1 with
      | none => none
      | some (.num b, d', m2) => some (.num (a + b), .both (o.fin (.num (a + b))) c' d', m2)
      | some (.fin, d', m2) => some (.fin, .both (o.fin .fin) c' d', { m2 with lost := m2.lost ++ [a] })
      | some (.long, d', m2) => some (.long, .both o c' d', m2)
    | some (.fin, c', m1) => some (.fin, .both (o.fin .fin) c' d, m1)
    | some (.long, c', m1) => some (.long, .both o c' d, m1) := rfl
theorem draw_thn (f : Nat) (o : Ow) (c d : Nd) (m : Mt) : draw (f + 1) (.thn o c d) m =
    if o.over = true then some (.fin, .thn o c d, m) else
    if o.left = 1 then match draw f d m with
      | none => none
      | some (r, d', m1) => some (r, .thn (o.fin r) c d', m1)
    else match draw f c m with
      | none => none
      | some (.fin, c', m1) => match draw f d m1 with
        | none => none
        | some (r, d', m2) => some (r, .thn ({ o with left := 1 }.fin r) c' d', m2)
      | some (.num n, c', m1) => some (.num n, .thn (o.fin (.num n)) c' d, m1)
      | some (.long, c', m1) => some (.long, .thn o c' d, m1) := rfl
theorem draw_succ : ∀ (f : Nat) (x : Nd) (m : Mt) (r : Rs × Nd × Mt), draw f x m = some r → draw (f + 1) x m = some r
  | 0, _, _, _, h => by simp only [draw] at h; cases h
  | f + 1, .mkr m g, u, r, h => by rw [draw_mkr] at h ⊢; exact h
  | f + 1, .st k o c, m, r, h => by
    rw [draw_st] at h
    rw [draw_st (f + 1)]
    split at h
    · rename_i ho
      rw [if_pos ho]; exact h
    · rename_i ho
      rw [if_neg ho]
      split at h
      · rename_i ha
        exact h
      · rename_i ha
        split at h
        · cases h
        · rename_i hd
          have := draw_succ f _ _ _ hd
          rw [this]
          show (match pass k o _ with | .again o' => _ | .tell v o' => _ | .stop => _) = _
          split at h
          · rename_i hp
            try rw [hp]
            exact draw_succ f _ _ _ h
          · rename_i hp
            (try rw [hp]); exact h
          · rename_i hp
            (try rw [hp]); exact h
        · rename_i hd
          rw [draw_succ f _ _ _ hd]; exact h
        · rename_i hd
          rw [draw_succ f _ _ _ hd]; exact h
  | f + 1, .both o c d, m, r, h => by
    rw [draw_both] at h
    rw [draw_both (f + 1)]
    split at h
    · rename_i ho
      rw [if_pos ho]; exact h
    · rename_i ho
      rw [if_neg ho]
      split at h
      · cases h
      · rename_i h1
        rw [draw_succ f _ _ _ h1]
        split at h
        · cases h
        · rename_i h2
          show (match draw (f + 1) d _ with | none => _ | some (.num b, d', m2) => _ | some (.fin, d', m2) => _ | some (.long, d', m2) => _) = _
          rw [draw_succ f _ _ _ h2]; exact h
        · rename_i h2
          show (match draw (f + 1) d _ with | none => _ | some (.num b, d', m2) => _ | some (.fin, d', m2) => _ | some (.long, d', m2) => _) = _
          rw [draw_succ f _ _ _ h2]; exact h
        · rename_i h2
          show (match draw (f + 1) d _ with | none => _ | some (.num b, d', m2) => _ | some (.fin, d', m2) => _ | some (.long, d', m2) => _) = _
          rw [draw_succ f _ _ _ h2]; exact h
      · rename_i h1
        rw [draw_succ f _ _ _ h1]; exact h
      · rename_i h1
        rw [draw_succ f _ _ _ h1]; exact h
  | f + 1, .thn o c d, m, r, h => by
    rw [draw_thn] at h
    rw [draw_thn (f + 1)]
    split at h
    · rename_i ho
      rw [if_pos ho]; exact h
    · rename_i ho
      rw [if_neg ho]
      split at h
      · rename_i hl
        rw [if_pos hl]
        split at h
        · cases h
        · rename_i h1
          rw [draw_succ f _ _ _ h1]; exact h
      · rename_i hl
        rw [if_neg hl]
        split at h
        · cases h
        · rename_i h1
          rw [draw_succ f _ _ _ h1]
          split at h
          · cases h
          · rename_i h2
            show (match draw (f + 1) d _ with | none => _ | some (r, d', m2) => _) = _
            rw [draw_succ f _ _ _ h2]; exact h
        · rename_i h1
          rw [draw_succ f _ _ _ h1]; exact h
        · rename_i h1
          rw [draw_succ f _ _ _ h1]; exact h
theorem draw_mono {f g : Nat} {x : Nd} {m : Mt} {r : Rs × Nd × Mt} (h : draw f x m = some r) (q : f ≤ g) : draw g x m = some r := by
  induction q with
  | refl => exact h
  | step _ ih => exact draw_succ _ _ _ _ ih
theorem ended_draw (f : Nat) {x : Nd} (m : Mt) (h : x.ended) : draw (f + 1) x m = some (.fin, x, m) := by
  cases x with
  | mkr k g =>
    cases k with
    | row ns => simp only [draw]; exact if_pos h
    | count b s => exact absurd h (fun q => q)
  | st k o c => rw [draw_st]; exact if_pos h
  | both o c d => rw [draw_both]; exact if_pos h
  | thn o c d => rw [draw_thn]; exact if_pos h
theorem draw_st_tot (c0 : Nat) (tot : ∀ (x : Nd) (m : Mt), x.sz ≤ c0 → x.inv → m.book ≤ 200 → ∃ f r, draw f x m = some r) :
    ∀ (n : Nat) (k : Kd) (o : Ow) (c : Nd) (m : Mt), c.sz ≤ c0 → (Nd.st k o c).inv → m.book ≤ 200 → (200 - m.book) * (c.mx + 1) + c.pot < n → ∃ f r, draw f (.st k o c) m = some r
  | 0, _, _, _, _, _, _, _, h => absurd h (Nat.not_lt_zero _)
  | n + 1, k, o, c, m, hs, hi, hb, hn => by
    cases ho : o.over with
    | true => exact ⟨1, _, ended_draw 0 m ho⟩
    | false =>
      have ho' : ¬ o.over = true := by rw [ho]; decide
      cases ha : ahead k o with
      | some p => exact ⟨1, _, by rw [draw_st, if_neg ho', ha]⟩
      | none =>
        obtain ⟨f, ⟨r, c', m'⟩, hd⟩ := tot c m hs hi.2.2 hb
        have F := draw_facts f c m r c' m' hd hi.2.2 hb
        cases r with
        | fin => exact ⟨f + 1, _, by rw [draw_st, if_neg ho', ha, hd]⟩
        | long => exact ⟨f + 1, _, by rw [draw_st, if_neg ho', ha, hd]⟩
        | num v =>
          cases hp : pass k o v with
          | tell w o' => exact ⟨f + 1, (_, _, _), by rw [draw_st, if_neg ho', ha, hd]; show (match pass k o v with | .again o' => _ | .tell v o' => _ | .stop => _) = _; rw [hp]⟩
          | stop => exact ⟨f + 1, (_, _, _), by rw [draw_st, if_neg ho', ha, hd]; show (match pass k o v with | .again o' => _ | .tell v o' => _ | .stop => _) = _; rw [hp]⟩
          | again o' =>
            obtain ⟨q1, q2, q3, q4⟩ := pass_again hp hi.2.1
            have less : (200 - m'.book) * (c'.mx + 1) + c'.pot < n := by
              have b1 := F.b1
              rw [F.mx]
              by_cases e : m'.book = m.book
              · have := F.p2 v rfl e
                rw [e]; omega
              · have h1 : c'.pot ≤ c'.mx := Nd.pot_le F.inv
                rw [F.mx] at h1
                have h2 := Nat.mul_le_mul_right (c.mx + 1) (show (200 - m'.book) + 1 ≤ 200 - m.book by have := F.b2; omega)
                rw [Nat.add_mul, Nat.one_mul] at h2
                omega
            obtain ⟨g, r, hg⟩ := draw_st_tot c0 tot n k o' c' m' (by rw [F.sz]; exact hs) ⟨hi.1, q1, F.inv⟩ F.b2 less
            refine ⟨f + g + 1, r, ?_⟩
            rw [draw_st, if_neg ho', ha, draw_mono hd (Nat.le_add_right f g)]
            show (match pass k o v with | .again o' => _ | .tell v o' => _ | .stop => _) = _
            rw [hp]
            exact draw_mono hg (Nat.le_add_left g f)
theorem draw_total_n : ∀ (n : Nat) (x : Nd) (m : Mt), x.sz ≤ n → x.inv → m.book ≤ 200 → ∃ f r, draw f x m = some r
  | 0, x, _, h, _, _ => by cases x <;> exact absurd h (Nat.not_succ_le_zero _)
  | n + 1, .mkr (.row ns) g, m, _, _, _ => by
    refine ⟨1, ?_⟩
    simp only [draw]
    split
    · exact ⟨_, rfl⟩
    · split <;> exact ⟨_, rfl⟩
  | n + 1, .mkr (.count b s) g, m, _, _, _ => by
    refine ⟨1, ?_⟩
    simp only [draw]
    split <;> exact ⟨_, rfl⟩
  | n + 1, .st k o c, m, hs, hi, hb => draw_st_tot n (draw_total_n n) _ k o c m (Nat.le_of_succ_le_succ hs) hi hb (Nat.lt_succ_self _)
  | n + 1, .both o c d, m, hs, hi, hb => by
    have hs' : c.sz + d.sz + 1 ≤ n + 1 := hs
    cases ho : o.over with
    | true => exact ⟨1, _, ended_draw 0 m ho⟩
    | false =>
      have ho' : ¬ o.over = true := by rw [ho]; decide
      obtain ⟨f, ⟨r, c', m'⟩, hd⟩ := draw_total_n n c m (by omega) hi.1 hb
      have F := draw_facts f c m r c' m' hd hi.1 hb
      cases r with
      | fin => exact ⟨f + 1, _, by rw [draw_both, if_neg ho', hd]⟩
      | long => exact ⟨f + 1, _, by rw [draw_both, if_neg ho', hd]⟩
      | num v =>
        obtain ⟨g, ⟨r2, d', m2⟩, he⟩ := draw_total_n n d m' (by omega) hi.2 F.b2
        have h1 := draw_mono hd (Nat.le_add_right f g)
        have h2 := draw_mono he (Nat.le_add_left g f)
        cases r2 with
        | num w => exact ⟨f + g + 1, (_, _, _), by rw [draw_both, if_neg ho', h1]; show (match draw (f + g) d m' with | none => _ | some (.num b, d', m2) => _ | some (.fin, d', m2) => _ | some (.long, d', m2) => _) = _; rw [h2]⟩
        | fin => exact ⟨f + g + 1, (_, _, _), by rw [draw_both, if_neg ho', h1]; show (match draw (f + g) d m' with | none => _ | some (.num b, d', m2) => _ | some (.fin, d', m2) => _ | some (.long, d', m2) => _) = _; rw [h2]⟩
        | long => exact ⟨f + g + 1, (_, _, _), by rw [draw_both, if_neg ho', h1]; show (match draw (f + g) d m' with | none => _ | some (.num b, d', m2) => _ | some (.fin, d', m2) => _ | some (.long, d', m2) => _) = _; rw [h2]⟩
  | n + 1, .thn o c d, m, hs, hi, hb => by
    have hs' : c.sz + d.sz + 1 ≤ n + 1 := hs
    cases ho : o.over with
    | true => exact ⟨1, _, ended_draw 0 m ho⟩
    | false =>
      have ho' : ¬ o.over = true := by rw [ho]; decide
      by_cases hl : o.left = 1
      · obtain ⟨g, ⟨r2, d', m2⟩, he⟩ := draw_total_n n d m (by omega) hi.2.2 hb
        exact ⟨g + 1, (_, _, _), by rw [draw_thn, if_neg ho', if_pos hl, he]⟩
      · obtain ⟨f, ⟨r, c', m'⟩, hd⟩ := draw_total_n n c m (by omega) hi.2.1 hb
        have F := draw_facts f c m r c' m' hd hi.2.1 hb
        cases r with
        | num v => exact ⟨f + 1, _, by rw [draw_thn, if_neg ho', if_neg hl, hd]⟩
        | long => exact ⟨f + 1, _, by rw [draw_thn, if_neg ho', if_neg hl, hd]⟩
        | fin =>
          obtain ⟨g, ⟨r2, d', m2⟩, he⟩ := draw_total_n n d m' (by omega) hi.2.2 F.b2
          have h1 := draw_mono hd (Nat.le_add_right f g)
          have h2 := draw_mono he (Nat.le_add_left g f)
          exact ⟨f + g + 1, (_, _, _), by rw [draw_thn, if_neg ho', if_neg hl, h1]; show (match draw (f + g) d m' with | none => _ | some (r, d', m2) => _) = _; rw [h2]⟩
theorem draw_total {x : Nd} {m : Mt} (h : x.inv) (hb : m.book ≤ 200) : ∃ f r, draw f x m = some r := draw_total_n _ x m (Nat.le_refl _) h hb
end Dc

set_option Elab.async false
set_option linter.all false
set_option maxRecDepth 100000
set_option maxHeartbeats 2000000
namespace Dc
open PySem PySem.Spec PyProof.Rows L2
/-! ### the program's stages in the heap -/
structure Cls' where
  count : Addr
  row : Addr
  reckon : Addr
  keep : Addr
  drop : Addr
  take : Addr
  each : Addr
  until' : Addr
  unlike : Addr
  both : Addr
  thn : Addr
  meter : Addr
  drawer : Addr
  long : Addr
inductive Tr where
  | mkr (a : Addr)
  | st (a : Addr) (t : Tr)
  | two (a : Addr) (t u : Tr)
def Tr.ad : Tr → Addr
  | .mkr a => a
  | .st a _ => a
  | .two a _ _ => a
def Tr.ads : Tr → List Addr
  | .mkr a => [a]
  | .st a t => a :: t.ads
  | .two a t u => a :: (t.ads ++ u.ads)
theorem Tr.ad_mem : ∀ t : Tr, t.ad ∈ t.ads
  | .mkr _ => List.mem_cons_self
  | .st _ _ => List.mem_cons_self
  | .two _ _ _ => List.mem_cons_self
def Tr.dj : Tr → Prop
  | .mkr _ => True
  | .st a t => a ∉ t.ads ∧ t.dj
  | .two a t u => a ∉ t.ads ∧ a ∉ u.ads ∧ (∀ b, b ∈ t.ads → b ∉ u.ads) ∧ t.dj ∧ u.dj
def Kd.cls (J : Cls') : Kd → Addr
  | .add _ => J.reckon
  | .times _ => J.reckon
  | .keep _ _ => J.keep
  | .drop _ => J.drop
  | .take _ => J.take
  | .each _ => J.each
  | .until _ => J.until'
  | .unlike => J.unlike
def Nd.cls (J : Cls') : Nd → Addr
  | .mkr (.count _ _) _ => J.count
  | .mkr (.row _) _ => J.row
  | .st k _ _ => k.cls J
  | .both _ _ _ => J.both
  | .thn _ _ _ => J.thn
def optV : Option Int → V
  | none => .non
  | some n => .int n
def Kd.flds (me : Addr) : Kd → Ow → List (Str × V) → Prop
  | .add n, _, fs => fs = ([("factor", .int 1), ("term", .int n)] : List (Str × V))
  | .times n, _, fs => fs = ([("factor", .int n), ("term", .int 0)] : List (Str × V))
  | .keep r w, _, fs => fs = ([("rest", .int r), ("wheel", .int w)] : List (Str × V))
  | .drop k, o, fs => ∃ l : Int, fs = ([("left", .int l)] : List (Str × V)) ∧ (o.over = false → 0 ≤ l ∧ ((l = 0 ∧ k ≤ o.left) ∨ l = k - o.left))
  | .take k, o, fs => ∃ l : Int, fs = ([("left", .int l)] : List (Str × V)) ∧ (o.over = false → l = k - o.told)
  | .each k, o, fs => ∃ (l : Int) (v : V), fs = ([("many", .int k), ("left", .int l), ("number", v)] : List (Str × V)) ∧ (o.over = false → l = o.left ∧ (0 < o.left → v = .int (o.last.getD 0)))
  | .until n, _, fs => fs = ([("n", .int n), ("meter", .ref me)] : List (Str × V))
  | .unlike, o, fs => ∃ v, fs = ([("last", v)] : List (Str × V)) ∧ (o.over = false → v = optV o.last)
/-- an object of class C, with these fields behind the two that all stages have -/
def ObAt (H : Hp) (a C : Addr) (ah : Addr) (e : Bool) (fs : List (Str × V)) : Prop := ∃ dx, H a = some (.ins C dx (("ahead", .ref ah) :: ("ended", .bl e) :: fs))
def MkrAt (J : Cls') (H : Hp) (me : Addr) (off : Nat) : Mkr → Nat → Addr → Prop
  | .count b s, g, a => ∃ dx, H a = some (.ins J.count dx [("number", .int (b + g * s)), ("step", .int s), ("meter", .ref me), ("place", .int off)])
  | .row ns, g, a => ∃ dx p, H a = some (.ins J.row dx [("numbers", .ref p), ("at", .int g), ("meter", .ref me), ("place", .int off)]) ∧ H p = some (.tup (ns.map .int))
def NdAt (J : Cls') (H : Hp) (me : Addr) : Nat → Nd → Tr → Prop
  | off, .mkr m g, .mkr a => MkrAt J H me off m g a
  | off, .st k o c, .st a t => (∃ fs, ObAt H a (k.cls J) t.ad o.over fs ∧ k.flds me o fs) ∧ NdAt J H me off c t
  | off, .both o c d, .two a t u => ObAt H a J.both t.ad o.over [("other", .ref u.ad), ("meter", .ref me)] ∧ NdAt J H me off c t ∧ NdAt J H me (off + c.gv.length) d u
  | off, .thn o c d, .two a t u => ObAt H a J.thn t.ad o.over [("other", .ref u.ad)] ∧ NdAt J H me off c t ∧ NdAt J H me (off + c.gv.length) d u
  | _, _, _ => False
section
variable {J : Cls'} {H H' : Hp} {me cs lo a : Addr} {S : List Addr} {off : Nat}
theorem ObAt.fr {C ah : Addr} {e : Bool} {fs : List (Str × V)} (h : ObAt H a C ah e fs) (f : Fr S H H') (n : a ∉ S) : ObAt H' a C ah e fs := let ⟨dx, e⟩ := h; ⟨dx, f.at e n⟩
theorem NdAt.fr (f : Fr S H H') : ∀ {off : Nat} {x : Nd} {t : Tr}, NdAt J H me off x t → (∀ b, b ∈ t.ads → b ∉ S) → NdAt J H' me off x t
  | off, .mkr (.count b s) g, .mkr a, h, n => let ⟨dx, e⟩ := h; ⟨dx, f.at e (n a List.mem_cons_self)⟩
  | off, .mkr (.row ns) g, .mkr a, h, n => let ⟨dx, p, e, q⟩ := h; ⟨dx, p, f.at e (n a List.mem_cons_self), f.tp q⟩
  | off, .st k o c, .st a t, h, n => by
    obtain ⟨⟨fs, q, z⟩, r⟩ := h
    exact ⟨⟨fs, q.fr f (n a List.mem_cons_self), z⟩, NdAt.fr f r fun b hb => n b (List.mem_cons_of_mem _ hb)⟩
  | off, .both o c d, .two a t u, h, n => by
    obtain ⟨q, r1, r2⟩ := h
    exact ⟨q.fr f (n a List.mem_cons_self), NdAt.fr f r1 fun b hb => n b (List.mem_cons_of_mem _ (List.mem_append_left _ hb)), NdAt.fr f r2 fun b hb => n b (List.mem_cons_of_mem _ (List.mem_append_right _ hb))⟩
  | off, .thn o c d, .two a t u, h, n => by
    obtain ⟨q, r1, r2⟩ := h
    exact ⟨q.fr f (n a List.mem_cons_self), NdAt.fr f r1 fun b hb => n b (List.mem_cons_of_mem _ (List.mem_append_left _ hb)), NdAt.fr f r2 fun b hb => n b (List.mem_cons_of_mem _ (List.mem_append_right _ hb))⟩
  | _, .mkr (.count _ _) _, .st _ _, h, _ => h.elim
  | _, .mkr (.row _) _, .st _ _, h, _ => h.elim
  | _, .mkr (.count _ _) _, .two _ _ _, h, _ => h.elim
  | _, .mkr (.row _) _, .two _ _ _, h, _ => h.elim
  | _, .st _ _ _, .mkr _, h, _ => h.elim
  | _, .st _ _ _, .two _ _ _, h, _ => h.elim
  | _, .both _ _ _, .mkr _, h, _ => h.elim
  | _, .both _ _ _, .st _ _, h, _ => h.elim
  | _, .thn _ _ _, .mkr _, h, _ => h.elim
  | _, .thn _ _ _, .st _ _, h, _ => h.elim
/-- the classes that draw -/
def DrawC (J : Cls') (C : Addr) : Prop := C = J.count ∨ C = J.row ∨ C = J.reckon ∨ C = J.keep ∨ C = J.drop ∨ C = J.take ∨ C = J.each ∨ C = J.until' ∨ C = J.unlike ∨ C = J.both ∨ C = J.thn
theorem Kd.flds_draw {k : Kd} {o : Ow} {fs : List (Str × V)} (h : k.flds me o fs) : fs.lookup ("draw" : Str) = none ∧ fs.lookup ("work" : Str) = none ∧ fs.length ≤ 3 := by
  cases k with
  | add _ => subst h; exact ⟨rfl, rfl, Nat.le_of_ble_eq_true rfl⟩
  | times _ => subst h; exact ⟨rfl, rfl, Nat.le_of_ble_eq_true rfl⟩
  | keep _ _ => subst h; exact ⟨rfl, rfl, Nat.le_of_ble_eq_true rfl⟩
  | drop _ => obtain ⟨l, rfl, _⟩ := h; exact ⟨rfl, rfl, Nat.le_of_ble_eq_true rfl⟩
  | take _ => obtain ⟨l, rfl, _⟩ := h; exact ⟨rfl, rfl, Nat.le_of_ble_eq_true rfl⟩
  | each _ => obtain ⟨l, v, rfl, _⟩ := h; exact ⟨rfl, rfl, by show 3 ≤ 3; omega⟩
  | «until» _ => subst h; exact ⟨rfl, rfl, Nat.le_of_ble_eq_true rfl⟩
  | unlike => obtain ⟨l, rfl, _⟩ := h; exact ⟨rfl, rfl, Nat.le_of_ble_eq_true rfl⟩
theorem Nd.cls_draw (J : Cls') : ∀ x : Nd, DrawC J (x.cls J)
  | .mkr (.count _ _) _ => .inl rfl
  | .mkr (.row _) _ => .inr (.inl rfl)
  | .st (.add _) _ _ => .inr (.inr (.inl rfl))
  | .st (.times _) _ _ => .inr (.inr (.inl rfl))
  | .st (.keep _ _) _ _ => .inr (.inr (.inr (.inl rfl)))
  | .st (.drop _) _ _ => .inr (.inr (.inr (.inr (.inl rfl))))
  | .st (.take _) _ _ => .inr (.inr (.inr (.inr (.inr (.inl rfl)))))
  | .st (.each _) _ _ => .inr (.inr (.inr (.inr (.inr (.inr (.inl rfl))))))
  | .st (.until _) _ _ => .inr (.inr (.inr (.inr (.inr (.inr (.inr (.inl rfl)))))))
  | .st .unlike _ _ => .inr (.inr (.inr (.inr (.inr (.inr (.inr (.inr (.inl rfl))))))))
  | .both _ _ _ => .inr (.inr (.inr (.inr (.inr (.inr (.inr (.inr (.inr (.inl rfl)))))))))
  | .thn _ _ _ => .inr (.inr (.inr (.inr (.inr (.inr (.inr (.inr (.inr (.inr rfl)))))))))
theorem lookup_tail {x : Str} {ah : Addr} {e : Bool} {fs : List (Str × V)} (h : fs.lookup x = none) (h1 : (x == "ahead") = false) (h2 : (x == "ended") = false) : ((("ahead" : Str), V.ref ah) :: (("ended" : Str), V.bl e) :: fs).lookup x = none := by
  rw [List.lookup_cons, h1, List.lookup_cons, h2]; exact h
theorem NdAt.obj : ∀ {off : Nat} {x : Nd} {t : Tr}, NdAt J H me off x t → ∃ dx fs, H t.ad = some (.ins (x.cls J) dx fs) ∧ fs.lookup ("draw" : Str) = none
  | off, .mkr (.count b s) g, .mkr a, h => let ⟨dx, e⟩ := h; ⟨dx, _, e, rfl⟩
  | off, .mkr (.row ns) g, .mkr a, h => let ⟨dx, p, e, q⟩ := h; ⟨dx, _, e, rfl⟩
  | off, .st k o c, .st a t, h => by
    obtain ⟨⟨fs, ⟨dx, e⟩, z⟩, r⟩ := h
    exact ⟨dx, _, e, lookup_tail (Kd.flds_draw z).1 (by decide) (by decide)⟩
  | off, .both o c d, .two a t u, h => by
    obtain ⟨⟨dx, e⟩, r1, r2⟩ := h
    exact ⟨dx, _, e, rfl⟩
  | off, .thn o c d, .two a t u, h => by
    obtain ⟨⟨dx, e⟩, r1, r2⟩ := h
    exact ⟨dx, _, e, rfl⟩
  | _, .mkr (.count _ _) _, .st _ _, h => h.elim
  | _, .mkr (.row _) _, .st _ _, h => h.elim
  | _, .mkr (.count _ _) _, .two _ _ _, h => h.elim
  | _, .mkr (.row _) _, .two _ _ _, h => h.elim
  | _, .st _ _ _, .mkr _, h => h.elim
  | _, .st _ _ _, .two _ _ _, h => h.elim
  | _, .both _ _ _, .mkr _, h => h.elim
  | _, .both _ _ _, .st _ _, h => h.elim
  | _, .thn _ _ _, .mkr _, h => h.elim
  | _, .thn _ _ _, .st _ _, h => h.elim
/-- the meter -/
def MetAt (J : Cls') (H : Hp) (me cs lo : Addr) (m : Mt) (gs : List Int) : Prop :=
  (∃ dx, H me = some (.ins J.meter dx [("counts", .ref cs), ("lost", .ref lo), ("left", .int (200 - m.book))])) ∧ H cs = some (.lst (gs.map .int)) ∧ H lo = some (.lst (m.lost.map .int))
theorem MetAt.fr {m : Mt} {gs : List Int} (h : MetAt J H me cs lo m gs) (f : Fr S H H') (n : ∀ b, b ∈ [me, cs, lo] → b ∉ S) : MetAt J H' me cs lo m gs := by
  obtain ⟨⟨dx, e⟩, h1, h2⟩ := h
  exact ⟨⟨dx, f.at e (n _ (by simp))⟩, f.at h1 (n _ (by simp)), f.at h2 (n _ (by simp))⟩
structure Sep (me cs lo : Addr) (t : Tr) : Prop where
  dj : t.dj
  hme : me ∉ t.ads
  hcs : cs ∉ t.ads
  hlo : lo ∉ t.ads
  n1 : me ≠ cs
  n2 : me ≠ lo
  n3 : cs ≠ lo
def Nd.dep : Nd → Nat
  | .mkr _ _ => 0
  | .st _ _ c => c.dep + 1
  | .both _ c d => max c.dep d.dep + 1
  | .thn _ c d => max c.dep d.dep + 1
def Ow.al (o : Ow) : Nat := if o.over = true then 0 else 1
def Nd.alive : Nd → Nat
  | .mkr _ _ => 0
  | .st _ o c => o.al + c.alive
  | .both o c d => o.al + c.alive + d.alive
  | .thn o c d => o.al + c.alive + d.alive
end
/-! ### numbers undone are few -/
theorem al_fin {o : Ow} : (o.fin .fin).al = 0 := rfl
theorem al_same {o o' : Ow} (h : o'.over = o.over) : o'.al = o.al := by unfold Ow.al; rw [h]
theorem al_one {o : Ow} (h : ¬ o.over = true) : o.al = 1 := if_neg h
theorem fin_al (o : Ow) (r : Rs) : (o.fin r).al ≤ o.al := by
  cases r with
  | fin => exact Nat.zero_le _
  | _ => exact Nat.le_refl _
theorem ahead_over {k : Kd} {o o' : Ow} {r : Rs} (h : ahead k o = some (r, o')) : o'.over = o.over := by
  cases k with
  | take k =>
    simp only [ahead] at h
    split at h <;> cases h
    rfl
  | each k =>
    simp only [ahead] at h
    split at h <;> cases h
    rfl
  | _ => cases h
theorem pass_over {k : Kd} {o : Ow} {n : Int} : (∀ o', pass k o n = .again o' → o'.over = o.over) ∧ ∀ v o', pass k o n = .tell v o' → o'.over = o.over := by
  refine ⟨fun o' h => ?_, fun v o' h => ?_⟩
  all_goals
    cases k <;> simp only [pass] at h
  all_goals first
    | (cases h; rfl)
    | cases h
    | (split at h <;> cases h <;> rfl)
    | (split at h <;> cases h)
theorem draw_lost : ∀ (f : Nat) (x : Nd) (m : Mt) (r : Rs) (x' : Nd) (m' : Mt), draw f x m = some (r, x', m') → m'.lost.length + x'.alive ≤ m.lost.length + x.alive ∧ x'.dep = x.dep
  | 0, _, _, _, _, _, h => by simp only [draw] at h; cases h
  | f + 1, .mkr (.row ns) g, m, r, x', m', h => by
    simp only [draw] at h
    split at h
    · cases h; exact ⟨Nat.le_refl _, rfl⟩
    · split at h <;> (cases h; exact ⟨Nat.le_refl _, rfl⟩)
  | f + 1, .mkr (.count b s) g, m, r, x', m', h => by
    simp only [draw] at h
    split at h <;> (cases h; exact ⟨Nat.le_refl _, rfl⟩)
  | f + 1, .st k o c, m, r, x', m', h => by
    rw [draw_st] at h
    split at h
    · cases h; exact ⟨Nat.le_refl _, rfl⟩
    · rename_i ho
      split at h
      · rename_i r0 o' ha
        cases h
        refine ⟨?_, rfl⟩
        have := fin_al o' r
        have := al_same (ahead_over ha)
        show _ + ((o'.fin r).al + c.alive) ≤ _ + (o.al + c.alive)
        omega
      · rename_i ha
        split at h
        · cases h
        · rename_i n c' m1 hd
          obtain ⟨F1, F2⟩ := draw_lost f c m _ c' m1 hd
          split at h
          · rename_i o' hp
            obtain ⟨G1, G2⟩ := draw_lost f (.st k o' c') m1 r x' m' h
            have := al_same (pass_over.1 o' hp)
            refine ⟨?_, by rw [G2]; show c'.dep + 1 = c.dep + 1; rw [F2]⟩
            have G1' : m'.lost.length + x'.alive ≤ m1.lost.length + (o'.al + c'.alive) := G1
            show _ ≤ _ + (o.al + c.alive)
            omega
          · rename_i v o' hp
            cases h
            have := al_same (pass_over.2 v o' hp)
            refine ⟨?_, by show c'.dep + 1 = c.dep + 1; rw [F2]⟩
            show _ + (o'.al + c'.alive) ≤ _ + (o.al + c.alive)
            omega
          · cases h
            refine ⟨?_, by show c'.dep + 1 = c.dep + 1; rw [F2]⟩
            show (m1.lost ++ [n]).length + (0 + c'.alive) ≤ _ + (o.al + c.alive)
            have := al_one ho
            simp only [List.length_append, List.length_singleton]
            omega
        · rename_i c' m1 hd
          cases h
          obtain ⟨F1, F2⟩ := draw_lost f c m _ c' _ hd
          refine ⟨?_, by show c'.dep + 1 = c.dep + 1; rw [F2]⟩
          show _ + (0 + c'.alive) ≤ _ + (o.al + c.alive)
          omega
        · rename_i c' m1 hd
          cases h
          obtain ⟨F1, F2⟩ := draw_lost f c m _ c' _ hd
          refine ⟨?_, by show c'.dep + 1 = c.dep + 1; rw [F2]⟩
          show _ + (o.al + c'.alive) ≤ _ + (o.al + c.alive)
          omega
  | f + 1, .both o c d, m, r, x', m', h => by
    rw [draw_both] at h
    split at h
    · cases h; exact ⟨Nat.le_refl _, rfl⟩
    · rename_i ho
      have := al_one ho
      split at h
      · cases h
      · rename_i a c' m1 h1
        obtain ⟨F1, F2⟩ := draw_lost f c m _ c' m1 h1
        split at h
        · cases h
        · rename_i b d' m2 h2
          obtain ⟨G1, G2⟩ := draw_lost f d m1 _ d' m2 h2
          cases h
          refine ⟨?_, by show max c'.dep d'.dep + 1 = max c.dep d.dep + 1; rw [F2, G2]⟩
          show _ + (o.al + c'.alive + d'.alive) ≤ _ + (o.al + c.alive + d.alive)
          omega
        · rename_i d' m2 h2
          obtain ⟨G1, G2⟩ := draw_lost f d m1 _ d' m2 h2
          cases h
          refine ⟨?_, by show max c'.dep d'.dep + 1 = max c.dep d.dep + 1; rw [F2, G2]⟩
          show (m2.lost ++ [a]).length + (0 + c'.alive + d'.alive) ≤ _ + (o.al + c.alive + d.alive)
          simp only [List.length_append, List.length_singleton]
          omega
        · rename_i d' m2 h2
          obtain ⟨G1, G2⟩ := draw_lost f d m1 _ d' _ h2
          cases h
          refine ⟨?_, by show max c'.dep d'.dep + 1 = max c.dep d.dep + 1; rw [F2, G2]⟩
          show _ + (o.al + c'.alive + d'.alive) ≤ _ + (o.al + c.alive + d.alive)
          omega
      · rename_i c' m1 h1
        obtain ⟨F1, F2⟩ := draw_lost f c m _ c' _ h1
        cases h
        refine ⟨?_, by show max c'.dep d.dep + 1 = max c.dep d.dep + 1; rw [F2]⟩
        show _ + (0 + c'.alive + d.alive) ≤ _ + (o.al + c.alive + d.alive)
        omega
      · rename_i c' m1 h1
        obtain ⟨F1, F2⟩ := draw_lost f c m _ c' _ h1
        cases h
        refine ⟨?_, by show max c'.dep d.dep + 1 = max c.dep d.dep + 1; rw [F2]⟩
        show _ + (o.al + c'.alive + d.alive) ≤ _ + (o.al + c.alive + d.alive)
        omega
  | f + 1, .thn o c d, m, r, x', m', h => by
    rw [draw_thn] at h
    split at h
    · cases h; exact ⟨Nat.le_refl _, rfl⟩
    · rename_i ho
      split at h
      · split at h
        · cases h
        · rename_i r0 d' m1 h1
          obtain ⟨G1, G2⟩ := draw_lost f d m _ d' m1 h1
          cases h
          refine ⟨?_, by show max c.dep d'.dep + 1 = max c.dep d.dep + 1; rw [G2]⟩
          have := fin_al o r
          show _ + ((o.fin r).al + c.alive + d'.alive) ≤ _ + (o.al + c.alive + d.alive)
          omega
      · split at h
        · cases h
        · rename_i c' m1 h1
          obtain ⟨F1, F2⟩ := draw_lost f c m _ c' m1 h1
          split at h
          · cases h
          · rename_i r0 d' m2 h2
            obtain ⟨G1, G2⟩ := draw_lost f d m1 _ d' _ h2
            cases h
            refine ⟨?_, by show max c'.dep d'.dep + 1 = max c.dep d.dep + 1; rw [F2, G2]⟩
            have := fin_al { o with left := 1 } r
            have e : Ow.al { o with left := 1 } = o.al := rfl
            show _ + ((Ow.fin { o with left := 1 } r).al + c'.alive + d'.alive) ≤ _ + (o.al + c.alive + d.alive)
            omega
        · rename_i n c' m1 h1
          obtain ⟨F1, F2⟩ := draw_lost f c m _ c' _ h1
          cases h
          refine ⟨?_, by show max c'.dep d.dep + 1 = max c.dep d.dep + 1; rw [F2]⟩
          show _ + (o.al + c'.alive + d.alive) ≤ _ + (o.al + c.alive + d.alive)
          omega
        · rename_i c' m1 h1
          obtain ⟨F1, F2⟩ := draw_lost f c m _ c' _ h1
          cases h
          refine ⟨?_, by show max c'.dep d.dep + 1 = max c.dep d.dep + 1; rw [F2]⟩
          show _ + (o.al + c'.alive + d.alive) ≤ _ + (o.al + c.alive + d.alive)
          omega
end Dc

set_option Elab.async false
set_option linter.all false
set_option maxRecDepth 100000
set_option maxHeartbeats 2000000
namespace Dc
open PySem PySem.Spec PyProof.Rows L2
local macro_rules | `(tactic| walk_at "ne") => `(tactic| first | assumption | (refine Ne.symm ?_; assumption) | exact ne_of (by assumption) (by assumption) (by intro q; cases q) | exact ne_of_none (by assumption) (by assumption) | exact Ne.symm (ne_of_none (by assumption) (by assumption)))
local macro_rules | `(tactic| walk_at "hp") => `(tactic| first | assumption | exact upd_same | (refine upd_keep ?_ (by assumption); walk_at "hp") | (refine upd_other ?_ ?_; · walk_at "ne"; · walk_at "hp"))
local macro_rules | `(tactic| walk_at "hl") => `(tactic| first | assumption | exact SqL.of (by walk_at "hp"))
local macro_rules | `(tactic| walk_at "ht") => `(tactic| first | assumption | exact SqT.of (by walk_at "hp"))
local macro_rules | `(tactic| walk_at "rd1") => `(tactic| first
  | ((with_reducible apply rd_var); exact rfl)
  | ((with_reducible apply rd_eq); exact rfl) | ((with_reducible apply rd_ne); exact rfl)
  | with_reducible first
  | refine iteT ?_ | refine iteF ?_ | refine rd_nF ?_ | refine rd_nT ?_ | refine rd_yes ?_ | refine rd_c ?_ | refine rd_op ?_ | refine rd_un ?_ | refine rd_test ?_ | refine rd_B ?_ | refine rd_bl ?_ | refine rd_seq ?_ | refine rd_next ?_ | refine rd_ifs ?_ | refine rd_asg ?_ | refine rd_name ?_ | refine rd_ret ?_ | refine rd_drop ?_
  | refine rd_call ?_ | refine rd_cons ?_ | refine rd_nil ?_ | refine rd_cb ?_ | refine rd_I0 ?_ | refine rd_U ?_ | refine rd_gsub ?_ | refine rd_lst ?_ | refine rd_tup ?_ | refine rd_if ?_ | refine rd_not ?_ | refine rd_rng1 ?_ | refine rd_itup ?_ | refine rd_ilst ?_ | refine rd_bm ?_ | refine rd_bm0 ?_ | refine rd_andV ?_ | refine rd_orV ?_ | refine rd_notV ?_)
local macro_rules | `(tactic| walk_at "rd") => `(tactic| repeat walk_at "rd1")
local macro_rules | `(tactic| walk_at "ci") => `(tactic| first | assumption | (show (0 : Int) < _; first | decide | omega) | exact ⟨by decide, by decide⟩ | exact Or.inr ⟨by decide, by decide⟩ | exact Or.inl ⟨by decide, by decide⟩ | exact ⟨by decide, by decide, by decide⟩ | exact Or.inl ⟨by omega, by omega⟩ | exact Or.inr ⟨by omega, by omega⟩)
local macro_rules | `(tactic| walk_at "ix") => `(tactic| first
  | ((with_reducible apply rd_ixL); (walk_at "hl"); exact rfl)
  | ((with_reducible apply rd_ixT); (walk_at "ht"); exact rfl)
  | ((with_reducible apply rd_lenL); (walk_at "hl"))
  | ((with_reducible apply rd_lenT); (walk_at "ht"))
  | ((with_reducible apply rd_tupOf); (walk_at "hl"))
  | ((with_reducible apply rd_listOf); (walk_at "hl"))
  | (with_reducible refine rd_min2 ?_)
  | ((with_reducible apply rd_I); (walk_at "ci"))
  | ((with_reducible apply rd_setL); (walk_at "hp"); exact rfl))
local macro_rules | `(tactic| walk_at "gs") => `(tactic| repeat first | walk_at "rd1" | walk_at "ix")
local macro_rules | `(tactic| walk_at "go") => `(tactic| repeat first | walk_at "rd1" | walk_at "ix" | with_reducible refine rd_and ?_ | with_reducible refine rd_or ?_)
local macro_rules | `(tactic| walk_at "fo") => `(tactic| (with_reducible refine rd_for ?_))
local macro_rules | `(tactic| walk_at "pm") => `(tactic| repeat first
  | with_reducible first | refine rd_pcons ?_ | refine rd_pstr ?_ | refine rd_pcap ?_ | refine rd_pwild ?_ | refine rd_pnil ?_ | refine rd_por ?_ | refine rd_pno ?_
  | ((with_reducible refine rd_eq rfl ?_); refine ⟨_, rfl, ?_⟩; first | refine rd_T rfl ?_ | refine rd_F (by decide) ?_)
  | dsimp only [List.nil_append, List.singleton_append, List.cons_append, setAll])
local macro_rules | `(tactic| walk_at "pc") => `(tactic| (refine rd_case ?_); (first | (refine rd_phit (SqT.of (by assumption)) rfl ?_) | (refine rd_pmiss (SqT.of (by assumption)) (by simp) ?_)); (walk_at "pm"))

/-! ### the meter -/
structure LongF (K : PySem.W.Frag) (mg : Str → Option Value) (J : Cls') : Prop where
  ex : PySem.W.excIn K J.long [Value.type "Exception", Value.type "BaseException", Value.type "object"] "Exception.__new__" = true
  g : mg "LongDraw" = some (.ref J.long)
  kp : PySem.W.keepIn K (.ref J.long) = true
  sub : PySem.W.subIn K (.ref J.long) (.type "BaseException") = some true
  ty : PySem.W.typeIn K (.ref J.long) = some (.type "type")
structure MetF (K : PySem.W.Frag) (J : Cls') : Prop where
  c : Cls K J.meter
  counts : NoAttr K J.meter "counts"
  lost : NoAttr K J.meter "lost"
  left : NoAttr K J.meter "left"
def spNote (J : Cls') : Sp := fun vs H Q E => ∃ (me cs lo : Addr) (m : Mt) (pre post : List Int) (g : Int), vs = [.ref me, .int (pre.length : Nat)] ∧ MetAt J H me cs lo m (pre ++ g :: post) ∧ me ≠ cs ∧ me ≠ lo ∧ cs ≠ lo ∧ m.book ≤ 200 ∧
  (m.book = 200 → E (.ref J.long) none H) ∧ (m.book ≠ 200 → ∀ H', MetAt J H' me cs lo { m with book := m.book + 1 } (pre ++ (g + 1) :: post) → Fr [me, cs] H H' → Q .non H')
def spUndone (J : Cls') : Sp := fun vs H Q _ => ∃ (me cs lo : Addr) (m : Mt) (gs : List Int) (n : Int), vs = [.ref me, .int n] ∧ MetAt J H me cs lo m gs ∧ me ≠ cs ∧ me ≠ lo ∧ cs ≠ lo ∧ m.lost.length ≤ 1000 ∧
  ∀ H', MetAt J H' me cs lo { m with lost := m.lost ++ [n] } gs → Fr [lo] H H' → Q .non H'
def spEnter (J : Cls') : Sp := fun vs H Q _ => ∃ (me cs lo : Addr) (m : Mt) (gs : List Int), vs = [.ref me] ∧ MetAt J H me cs lo m gs ∧ me ≠ cs ∧ me ≠ lo ∧ cs ≠ lo ∧ gs.length ≤ 1000 ∧
  ∀ H', MetAt J H' me cs lo m (gs ++ [0]) → Fr [cs] H H' → Q (.int gs.length) H'
def spBegin (J : Cls') : Sp := fun vs H Q _ => ∃ (me cs lo : Addr) (m : Mt) (gs : List Int), vs = [.ref me] ∧ MetAt J H me cs lo m gs ∧ me ≠ cs ∧ me ≠ lo ∧ cs ≠ lo ∧
  ∀ H', MetAt J H' me cs lo { m with book := 0 } gs → Fr [me] H H' → Q .non H'
section
variable {P : Program} {w : World} {K : PySem.W.Frag} {mg : Str → Option Value} {base : Heap} {J : Cls'} {f : Addr} {fd : FuncData}
theorem sc_Meter_note_drawn : FnScope ["self", "place"] ["self", "place"] (defScope s_Meter_note_drawn) := ⟨rfl, rfl, rfl, by decide +kernel, rfl, by decide +kernel, by decide +kernel⟩
theorem ok_Meter_note_drawn (T : Txt K mg) (M : MetF K J) (L : LongF K mg J) (F : FnP K "note_drawn" "Meter.note_drawn" s_Meter_note_drawn f fd) :
    FnOk P w K mg base (L2.CX P w) 1 f fd ["self", "place"] (spNote J) := by
  refine okX F sc_Meter_note_drawn (fun vs H Q E h => ?_) (fun cdv A outer s H vs Q E hr h px tk po => ?_)
  · obtain ⟨me, cs, lo, m, pre, post, g, rfl, _⟩ := h
    rfl
  · obtain ⟨me, cs, lo, m, pre, post, g, rfl, ⟨⟨dx, e0⟩, e1, e2⟩, n1, n2, n3, hb, kE, kN⟩ := h
    refine ⟨_, (pss_cons (ps_if (pt_cmpR op_eq (pe_fld (pv 0) rfl) pe_int (nomark _))
    (pss_one (ps_raise rfl tk (pmk_own PySem.F.excBase_Exception L.ex L.g L.kp (raises_own L.sub L.ty) (by rfl)))) pss_nil)
  (pss_cons (ps_fldaug (pv 0) pe_int in_sub)
  (pss_one (ps_augS (pe_fld (pv 0) rfl) (pv 1) (get_listK K) pe_int ip_add set_list)))), ?_⟩
    try dsimp only [cxOf, Cx.nox, Cx.wish]
    refine rd_at (σ' := [some (.ref me), some (.int (pre.length : Nat))]) rfl ?_
    walk_at "go"
    refine rd_sf rfl e0 M.c M.left rfl ?_
    walk_at "go"
    refine rd_dec (fun c => ?_) (fun c => ?_)
    · exact kE (by have := V.int.inj c; omega)
    · have c' : m.book ≠ 200 := fun z => c (by rw [z]; rfl)
      walk_at "go"
      refine rd_faug rfl e0 M.c M.left rfl ?_
      walk_at "go"
      refine ⟨_, _, rfl, rfl, dx, _, e0, by show 3 < 1000; omega, ?_⟩
      have e0' : upd H me (.ins J.meter dx [("counts", .ref cs), ("lost", .ref lo), ("left", .int (200 - m.book - 1))]) me = some (.ins J.meter dx [("counts", .ref cs), ("lost", .ref lo), ("left", .int (200 - m.book - 1))]) := upd_same
      dsimp only
      refine rd_augS ?_
      refine rd_sf rfl e0' M.c M.counts rfl ?_
      walk_at "go"
      have e1' := upd_other (u := .ins J.meter dx [("counts", .ref cs), ("lost", .ref lo), ("left", .int (200 - m.book - 1))]) n1.symm e1
      refine ⟨cs, _, pre.length, .int g, rfl, rfl, SqL.of e1', by simp, ?_⟩
      walk_at "go"
      refine ⟨_, _, rfl, rfl, ?_⟩
      refine rd_setL e1' (j := pre.length) ?_ ?_
      · have l : ((pre ++ g :: post).map V.int).length = pre.length + (post.length + 1) := by simp
        show ixN _ ((pre.length : Nat) : Int) = some pre.length
        unfold ixN
        simp [l]
        omega
      · refine kN c' _ ⟨⟨dx, ?_⟩, ?_, ?_⟩ ?_
        · rw [upd_other n1 upd_same]
          show some (HO.ins J.meter dx [("counts", .ref cs), ("lost", .ref lo), ("left", .int (200 - m.book - 1))]) = some (HO.ins J.meter dx [("counts", .ref cs), ("lost", .ref lo), ("left", .int (200 - (m.book + 1 : Nat)))])
          rw [show (200 : Int) - m.book - 1 = 200 - (m.book + 1 : Nat) by omega]
        · rw [upd_same]
          simp
        · exact upd_other n3.symm (upd_other n2.symm e2)
        · exact ((Fr.put (S := [me, cs]) (by simp) (nt e0)).putN (.inl (by simp)) (nt e1'))
theorem sc_Meter_note_undone : FnScope ["self", "number"] ["self", "number"] (defScope s_Meter_note_undone) := ⟨rfl, rfl, rfl, by decide +kernel, rfl, by decide +kernel, by decide +kernel⟩
theorem ok_Meter_note_undone (T : Txt K mg) (M : MetF K J) (F : FnP K "note_undone" "Meter.note_undone" s_Meter_note_undone f fd) :
    FnOk P w K mg base CX0 1 f fd ["self", "number"] (spUndone J) := by
  refine ok0 F sc_Meter_note_undone (fun vs H Q E h => ?_) (fun cdv A outer s H vs Q E hr h => ?_)
  · obtain ⟨me, cs, lo, m, gs, n, rfl, _⟩ := h
    rfl
  · obtain ⟨me, cs, lo, m, gs, n, rfl, ⟨⟨dx, e0⟩, e1, e2⟩, n1, n2, n3, hb, k⟩ := h
    refine ⟨_, (pss_one (ps_expr (pe_bm PySem.F.plainAttrs_list PySem.F.slot_list_append PySem.F.type_list_append mt_append (pe_fld (pv 0) rfl) (pa_cons (pv 1) pa_nil)))), ?_⟩
    try dsimp only [cxOf, Cx.nox, Cx.wish]
    refine rd_at (σ' := [some (.ref me), some (.int n)]) rfl ?_
    walk_at "go"
    refine rd_sf rfl e0 M.c M.lost rfl ?_
    refine ⟨tyl e2, ?_⟩
    walk_at "go"
    refine rd_append e2 ?_ ?_
    · rw [List.length_map]; exact Nat.lt_of_le_of_lt hb (by decide)
    · walk_at "go"
      refine k _ ⟨⟨dx, upd_other n2 e0⟩, upd_other n3 e1, ?_⟩ (Fr.put (S := [lo]) (by simp) (nt e2))
      rw [upd_same, List.map_append]
      rfl
theorem sc_Meter_enter : FnScope ["self"] ["self"] (defScope s_Meter_enter) := ⟨rfl, rfl, rfl, by decide +kernel, rfl, by decide +kernel, by decide +kernel⟩
theorem ok_Meter_enter (T : Txt K mg) (M : MetF K J) (F : FnP K "enter" "Meter.enter" s_Meter_enter f fd) :
    FnOk P w K mg base CX0 1 f fd ["self"] (spEnter J) := by
  refine ok0 F sc_Meter_enter (fun vs H Q E h => ?_) (fun cdv A outer s H vs Q E hr h => ?_)
  · obtain ⟨me, cs, lo, m, gs, rfl, _⟩ := h
    rfl
  · obtain ⟨me, cs, lo, m, gs, rfl, ⟨⟨dx, e0⟩, e1, e2⟩, n1, n2, n3, hb, k⟩ := h
    refine ⟨_, (pss_cons (ps_expr (pe_bm PySem.F.plainAttrs_list PySem.F.slot_list_append PySem.F.type_list_append mt_append (pe_fld (pv 0) rfl) (pa_cons pe_int pa_nil)))
  (pss_one (ps_ret (pe_op op_sub (pe_callB (call_len1K K) (by rfl) T.free_len (by decide +kernel) (pa_cons (pe_fld (pv 0) rfl) pa_nil)) pe_int)))), ?_⟩
    try dsimp only [cxOf, Cx.nox, Cx.wish]
    refine rd_at (σ' := [some (.ref me)]) rfl ?_
    walk_at "go"
    refine rd_sf rfl e0 M.c M.counts rfl ?_
    refine ⟨tyl e1, ?_⟩
    walk_at "go"
    refine rd_append e1 ?_ ?_
    · rw [List.length_map]; exact Nat.lt_of_le_of_lt hb (by decide)
    · walk_at "go"
      refine rd_sf rfl (upd_other n1 e0) M.c M.counts rfl ?_
      walk_at "go"
      have e : ((gs.map V.int ++ [V.int 0]).length : Int) - 1 = gs.length := by simp
      rw [e]
      refine k _ ⟨⟨dx, upd_other n1 e0⟩, ?_, upd_other n3.symm e2⟩ (Fr.put (S := [cs]) (by simp) (nt e1))
      rw [upd_same, List.map_append]
      rfl
theorem sc_Meter_begin_next : FnScope ["self"] ["self"] (defScope s_Meter_begin_next) := ⟨rfl, rfl, rfl, by decide +kernel, rfl, by decide +kernel, by decide +kernel⟩
theorem ok_Meter_begin_next (T : Txt K mg) (M : MetF K J) (F : FnP K "begin_next" "Meter.begin_next" s_Meter_begin_next f fd) :
    FnOk P w K mg base CX0 1 f fd ["self"] (spBegin J) := by
  refine ok0 F sc_Meter_begin_next (fun vs H Q E h => ?_) (fun cdv A outer s H vs Q E hr h => ?_)
  · obtain ⟨me, cs, lo, m, gs, rfl, _⟩ := h
    rfl
  · obtain ⟨me, cs, lo, m, gs, rfl, ⟨⟨dx, e0⟩, e1, e2⟩, n1, n2, n3, k⟩ := h
    refine ⟨_, (pss_one (ps_fld (pv 0) (pe_cint T.c_DRAWN_AT_MOST) rfl)), ?_⟩
    try dsimp only [cxOf, Cx.nox, Cx.wish]
    refine rd_at (σ' := [some (.ref me)]) rfl ?_
    walk_at "go"
    refine rd_fset ?_
    walk_at "go"
    refine rd_st e0 M.c M.left (by show 3 < 1000; omega) ?_
    exact k _ ⟨⟨dx, upd_same⟩, upd_other n1.symm e1, upd_other n2.symm e2⟩ (Fr.put (S := [me]) (by simp) (nt e0))
end
end Dc

set_option Elab.async false
set_option linter.all false
set_option maxRecDepth 100000
set_option maxHeartbeats 2000000
namespace Dc
open PySem PySem.Spec PyProof.Rows L2
local macro_rules | `(tactic| walk_at "ne") => `(tactic| first | assumption | (refine Ne.symm ?_; assumption) | exact ne_of (by assumption) (by assumption) (by intro q; cases q) | exact ne_of_none (by assumption) (by assumption) | exact Ne.symm (ne_of_none (by assumption) (by assumption)))
local macro_rules | `(tactic| walk_at "hp") => `(tactic| first | assumption | exact upd_same | (refine upd_keep ?_ (by assumption); walk_at "hp") | (refine upd_other ?_ ?_; · walk_at "ne"; · walk_at "hp"))
local macro_rules | `(tactic| walk_at "hl") => `(tactic| first | assumption | exact SqL.of (by walk_at "hp"))
local macro_rules | `(tactic| walk_at "ht") => `(tactic| first | assumption | exact SqT.of (by walk_at "hp"))
local macro_rules | `(tactic| walk_at "rd1") => `(tactic| first
  | ((with_reducible apply rd_var); exact rfl)
  | ((with_reducible apply rd_eq); exact rfl) | ((with_reducible apply rd_ne); exact rfl)
  | with_reducible first
  | refine iteT ?_ | refine iteF ?_ | refine rd_nF ?_ | refine rd_nT ?_ | refine rd_yes ?_ | refine rd_c ?_ | refine rd_op ?_ | refine rd_un ?_ | refine rd_test ?_ | refine rd_B ?_ | refine rd_bl ?_ | refine rd_seq ?_ | refine rd_next ?_ | refine rd_ifs ?_ | refine rd_asg ?_ | refine rd_name ?_ | refine rd_ret ?_ | refine rd_drop ?_
  | refine rd_call ?_ | refine rd_cons ?_ | refine rd_nil ?_ | refine rd_cb ?_ | refine rd_I0 ?_ | refine rd_U ?_ | refine rd_gsub ?_ | refine rd_lst ?_ | refine rd_tup ?_ | refine rd_if ?_ | refine rd_not ?_ | refine rd_rng1 ?_ | refine rd_itup ?_ | refine rd_ilst ?_ | refine rd_bm ?_ | refine rd_bm0 ?_ | refine rd_andV ?_ | refine rd_orV ?_ | refine rd_notV ?_)
local macro_rules | `(tactic| walk_at "rd") => `(tactic| repeat walk_at "rd1")
local macro_rules | `(tactic| walk_at "ci") => `(tactic| first | assumption | (show (0 : Int) < _; first | decide | omega) | exact ⟨by decide, by decide⟩ | exact Or.inr ⟨by decide, by decide⟩ | exact Or.inl ⟨by decide, by decide⟩ | exact ⟨by decide, by decide, by decide⟩ | exact Or.inl ⟨by omega, by omega⟩ | exact Or.inr ⟨by omega, by omega⟩)
local macro_rules | `(tactic| walk_at "ix") => `(tactic| first
  | ((with_reducible apply rd_ixL); (walk_at "hl"); exact rfl)
  | ((with_reducible apply rd_ixT); (walk_at "ht"); exact rfl)
  | ((with_reducible apply rd_lenL); (walk_at "hl"))
  | ((with_reducible apply rd_lenT); (walk_at "ht"))
  | ((with_reducible apply rd_tupOf); (walk_at "hl"))
  | ((with_reducible apply rd_listOf); (walk_at "hl"))
  | (with_reducible refine rd_min2 ?_)
  | ((with_reducible apply rd_I); (walk_at "ci"))
  | ((with_reducible apply rd_setL); (walk_at "hp"); exact rfl))
local macro_rules | `(tactic| walk_at "gs") => `(tactic| repeat first | walk_at "rd1" | walk_at "ix")
local macro_rules | `(tactic| walk_at "go") => `(tactic| repeat first | walk_at "rd1" | walk_at "ix" | with_reducible refine rd_and ?_ | with_reducible refine rd_or ?_)
local macro_rules | `(tactic| walk_at "fo") => `(tactic| (with_reducible refine rd_for ?_))
local macro_rules | `(tactic| walk_at "pm") => `(tactic| repeat first
  | with_reducible first | refine rd_pcons ?_ | refine rd_pstr ?_ | refine rd_pcap ?_ | refine rd_pwild ?_ | refine rd_pnil ?_ | refine rd_por ?_ | refine rd_pno ?_
  | ((with_reducible refine rd_eq rfl ?_); refine ⟨_, rfl, ?_⟩; first | refine rd_T rfl ?_ | refine rd_F (by decide) ?_)
  | dsimp only [List.nil_append, List.singleton_append, List.cons_append, setAll])
local macro_rules | `(tactic| walk_at "pc") => `(tactic| (refine rd_case ?_); (first | (refine rd_phit (SqT.of (by assumption)) rfl ?_) | (refine rd_pmiss (SqT.of (by assumption)) (by simp) ?_)); (walk_at "pm"))

/-! ### drawing, the program's -/
structure NodeF (K : PySem.W.Frag) (J : Cls') : Prop where
  c : ∀ C, DrawC J C → Cls K C
  na_number : ∀ C, DrawC J C → NoAttr K C "number"
  na_step : ∀ C, DrawC J C → NoAttr K C "step"
  na_meter : ∀ C, DrawC J C → NoAttr K C "meter"
  na_place : ∀ C, DrawC J C → NoAttr K C "place"
  na_numbers : ∀ C, DrawC J C → NoAttr K C "numbers"
  na_at : ∀ C, DrawC J C → NoAttr K C "at"
  na_ahead : ∀ C, DrawC J C → NoAttr K C "ahead"
  na_ended : ∀ C, DrawC J C → NoAttr K C "ended"
  na_factor : ∀ C, DrawC J C → NoAttr K C "factor"
  na_term : ∀ C, DrawC J C → NoAttr K C "term"
  na_rest : ∀ C, DrawC J C → NoAttr K C "rest"
  na_wheel : ∀ C, DrawC J C → NoAttr K C "wheel"
  na_left : ∀ C, DrawC J C → NoAttr K C "left"
  na_many : ∀ C, DrawC J C → NoAttr K C "many"
  na_n : ∀ C, DrawC J C → NoAttr K C "n"
  na_last : ∀ C, DrawC J C → NoAttr K C "last"
  na_other : ∀ C, DrawC J C → NoAttr K C "other"
/-- what is asked of a draw -/
structure Ask (J : Cls') (d : Nat) (me cs lo : Addr) (pre post : List Int) (t : Tr) (x : Nd) (m : Mt) (r : Rs) (x' : Nd) (m' : Mt) (H : Hp) (Q : VK) (E : XK) : Prop where
  sep : Sep me cs lo t
  nd : NdAt J H me pre.length x t
  mt : MetAt J H me cs lo m (pre ++ x.gv ++ post)
  inv : x.inv
  dep : x.dep ≤ d
  bk : m.book ≤ 200
  al : m.lost.length + x.alive ≤ 1000
  num : ∀ n, r = .num n → ∀ H', NdAt J H' me pre.length x' t → MetAt J H' me cs lo m' (pre ++ x'.gv ++ post) → Fr (t.ads ++ [me, cs, lo]) H H' → Q (.int n) H'
  fin : r = .fin → ∀ H', NdAt J H' me pre.length x' t → MetAt J H' me cs lo m' (pre ++ x'.gv ++ post) → Fr (t.ads ++ [me, cs, lo]) H H' → Q .non H'
  long : r = .long → ∀ H', MetAt J H' me cs lo m' (pre ++ x'.gv ++ post) → Fr (t.ads ++ [me, cs, lo]) H H' → E (.ref J.long) none H'
def spDraw (J : Cls') (d : Nat) (C : Addr) : Sp := fun vs H Q E => ∃ me cs lo pre post t x m f r x' m', vs = [.ref t.ad] ∧ x.cls J = C ∧ draw f x m = some (r, x', m') ∧ Ask J d me cs lo pre post t x m r x' m' H Q E
theorem spDraw.len {J : Cls'} {d : Nat} {C : Addr} {vs : List V} {H : Hp} {Q : VK} {E : XK} (h : spDraw J d C vs H Q E) : vs.length = 1 := by
  obtain ⟨_, _, _, _, _, _, _, _, _, _, _, _, rfl, _⟩ := h
  rfl
/-- the classes are set apart -/
structure Apart (J : Cls') : Prop where
  nd : [J.count, J.row, J.reckon, J.keep, J.drop, J.take, J.each, J.until', J.unlike, J.both, J.thn].Nodup
section
variable {P : Program} {w : World} {K : PySem.W.Frag} {mg : Str → Option Value} {base : Heap} {J : Cls'} {f : Addr} {fd : FuncData}
theorem Ask.n1 {d : Nat} {me cs lo : Addr} {pre post : List Int} {t : Tr} {x : Nd} {m : Mt} {r : Rs} {x' : Nd} {m' : Mt} {H : Hp} {Q : VK} {E : XK} (A : Ask J d me cs lo pre post t x m r x' m' H Q E) : True := trivial
theorem cls_count {J : Cls'} (D : Apart J) {x : Nd} (h : x.cls J = J.count) : ∃ b s g, x = .mkr (.count b s) g := by
  have nd := D.nd
  simp only [List.nodup_cons, List.mem_cons, List.not_mem_nil, or_false, not_or] at nd
  obtain ⟨⟨a1, a2, a3, a4, a5, a6, a7, a8, a9, a10⟩, _⟩ := nd
  cases x with
  | mkr k g =>
    cases k with
    | count b s => exact ⟨b, s, g, rfl⟩
    | row ns => exact absurd h.symm a1
  | st k o c => cases k <;> exact absurd h.symm (by assumption)
  | both o c d => exact absurd h.symm a9
  | thn o c d => exact absurd h.symm a10
theorem cls_row {J : Cls'} (D : Apart J) {x : Nd} (h : x.cls J = J.row) : ∃ ns g, x = .mkr (.row ns) g := by
  have nd := D.nd
  simp only [List.nodup_cons, List.mem_cons, List.not_mem_nil, or_false, not_or] at nd
  obtain ⟨⟨a1, _⟩, ⟨a2, a3, a4, a5, a6, a7, a8, a9, a10⟩, _⟩ := nd
  cases x with
  | mkr k g =>
    cases k with
    | count b s => exact absurd h a1
    | row ns => exact ⟨ns, g, rfl⟩
  | st k o c => cases k <;> exact absurd h.symm (by assumption)
  | both o c d => exact absurd h.symm a9
  | thn o c d => exact absurd h.symm a10
theorem Tr.of_mkr {me : Addr} {off : Nat} {m : Mkr} {g : Nat} {t : Tr} {H : Hp} (h : NdAt J H me off (.mkr m g) t) : ∃ a, t = .mkr a := by
  cases t with
  | mkr a => exact ⟨a, rfl⟩
  | st a t => cases m <;> exact h.elim
  | two a t u => cases m <;> exact h.elim
theorem draw_count_long {f g : Nat} {b s : Int} {m m' : Mt} {r : Rs} {x' : Nd} (hb : m.book = 200) (h : draw f (.mkr (.count b s) g) m = some (r, x', m')) : r = .long ∧ x' = .mkr (.count b s) g ∧ m' = m := by
  cases f with
  | zero => simp only [draw] at h; cases h
  | succ f => simp only [draw, if_pos hb] at h; cases h; exact ⟨rfl, rfl, rfl⟩
theorem draw_count_num {f g : Nat} {b s : Int} {m m' : Mt} {r : Rs} {x' : Nd} (hb : m.book ≠ 200) (h : draw f (.mkr (.count b s) g) m = some (r, x', m')) : r = .num (b + g * s) ∧ x' = .mkr (.count b s) (g + 1) ∧ m' = { m with book := m.book + 1 } := by
  cases f with
  | zero => simp only [draw] at h; cases h
  | succ f => simp only [draw, if_neg hb] at h; cases h; exact ⟨rfl, rfl, rfl⟩
theorem draw_row_fin {f g : Nat} {ns : List Int} {m m' : Mt} {r : Rs} {x' : Nd} (hl : ns.length ≤ g) (h : draw f (.mkr (.row ns) g) m = some (r, x', m')) : r = .fin ∧ x' = .mkr (.row ns) g ∧ m' = m := by
  cases f with
  | zero => simp only [draw] at h; cases h
  | succ f => simp only [draw, if_pos hl] at h; cases h; exact ⟨rfl, rfl, rfl⟩
theorem draw_row_long {f g : Nat} {ns : List Int} {m m' : Mt} {r : Rs} {x' : Nd} (hl : ¬ ns.length ≤ g) (hb : m.book = 200) (h : draw f (.mkr (.row ns) g) m = some (r, x', m')) : r = .long ∧ x' = .mkr (.row ns) g ∧ m' = m := by
  cases f with
  | zero => simp only [draw] at h; cases h
  | succ f => simp only [draw, if_neg hl, if_pos hb] at h; cases h; exact ⟨rfl, rfl, rfl⟩
theorem draw_row_num {f g : Nat} {ns : List Int} {m m' : Mt} {r : Rs} {x' : Nd} (hl : ¬ ns.length ≤ g) (hb : m.book ≠ 200) (h : draw f (.mkr (.row ns) g) m = some (r, x', m')) : r = .num (ns.getD g 0) ∧ x' = .mkr (.row ns) (g + 1) ∧ m' = { m with book := m.book + 1 } := by
  cases f with
  | zero => simp only [draw] at h; cases h
  | succ f => simp only [draw, if_neg hl, if_neg hb] at h; cases h; exact ⟨rfl, rfl, rfl⟩
theorem in2 {L : List Addr} {me cs lo b : Addr} (h : b ∈ [me, cs]) : b ∈ L ++ [me, cs, lo] := by
  simp only [List.mem_cons, List.not_mem_nil, or_false] at h
  rcases h with rfl | rfl <;> simp
theorem in1 {L : List Addr} {me cs lo b : Addr} (h : b ∈ [lo]) : b ∈ L ++ [me, cs, lo] := by
  simp only [List.mem_singleton] at h
  subst h; simp
theorem MetAt.put {H : Hp} {me cs lo a : Addr} {m : Mt} {gs : List Int} {o : HO} (h : MetAt J H me cs lo m gs) (n : a ≠ me ∧ a ≠ cs ∧ a ≠ lo) : MetAt J (upd H a o) me cs lo m gs := by
  obtain ⟨⟨dx, e⟩, h1, h2⟩ := h
  exact ⟨⟨dx, upd_other n.1.symm e⟩, upd_other n.2.1.symm h1, upd_other n.2.2.symm h2⟩
theorem sep_mkr {me cs lo a : Addr} (S : Sep me cs lo (.mkr a)) : a ≠ me ∧ a ≠ cs ∧ a ≠ lo := by
  have h1 := S.hme
  have h2 := S.hcs
  have h3 := S.hlo
  simp only [Tr.ads, List.mem_singleton] at h1 h2 h3
  exact ⟨fun z => h1 z.symm, fun z => h2 z.symm, fun z => h3 z.symm⟩
theorem sc_Count_draw : FnScope ["self", "number"] ["self"] (defScope s_Count_draw) := ⟨rfl, rfl, rfl, by decide +kernel, rfl, by decide +kernel, by decide +kernel⟩
theorem ok_Count_draw {d : Nat} (D : Apart J) (T : Txt K mg) (N : NodeF K J) (F : FnP K "draw" "Count.draw" s_Count_draw f fd)
    (G_note : CalM P w K mg base (L2.CX P w) 1 J.meter "note_drawn" ["self", "place"] (spNote J)) :
    FnOk P w K mg base (L2.CX P w) 2 f fd ["self"] (spDraw J d J.count) := by
  refine okX F sc_Count_draw (fun vs H Q E h => h.len) (fun cdv A outer s H vs Q E hr h px tk po => ?_)
  · obtain ⟨me, cs, lo, pre, post, t, x, m, f, r, x', m', rfl, hC, hd, G⟩ := h
    obtain ⟨b, st, g, rfl⟩ := cls_count D hC
    obtain ⟨a, rfl⟩ := Tr.of_mkr G.nd
    obtain ⟨dx, e⟩ := G.nd
    have ca := N.c _ (.inl rfl)
    obtain ⟨⟨dm, e0⟩, e1, e2⟩ := id G.mt
    refine ⟨_, (pss_cons (ps_expr (pe_cm (pe_fld (pv 0) rfl) G_note (hr.mono (by omega)) px (pa_cons (pe_fld (pv 0) rfl) pa_nil)))
  (pss_cons (ps_set (i := 1) sc_Count_draw.nd rfl (Or.inl rfl) (pe_fld (pv 0) rfl))
  (pss_cons (ps_fld (pv 0) (pe_op op_add (pv 1) (pe_fld (pv 0) rfl)) rfl)
  (pss_one (ps_ret (pv 1)))))), ?_⟩
    try dsimp only [cxOf, Cx.nox, Cx.wish]
    refine rd_at (σ' := [some (.ref a), none]) rfl ?_
    walk_at "go"
    refine rd_meth ?_
    refine rd_sf rfl e ca (N.na_meter _ (.inl rfl)) rfl ?_
    refine rd_m e0 rfl ?_
    walk_at "go"
    refine rd_sf rfl e ca (N.na_place _ (.inl rfl)) rfl ?_
    walk_at "go"
    refine ⟨me, cs, lo, m, pre, post, g, rfl, by simpa [Nd.gv] using G.mt, G.sep.n1, G.sep.n2, G.sep.n3, G.bk, fun hb => ?_, fun hb H' M' f' => ?_⟩
    · obtain ⟨rfl, rfl, rfl⟩ := draw_count_long hb hd
      exact G.long rfl _ G.mt (Fr.refl _ _)
    · obtain ⟨rfl, rfl, rfl⟩ := draw_count_num hb hd
      have na : a ∉ [me, cs] := by
        have h1 := G.sep.hme
        have h2 := G.sep.hcs
        simp only [Tr.ads, List.mem_singleton] at h1 h2
        simp only [List.mem_cons, List.not_mem_nil, or_false, not_or]
        exact ⟨fun z => h1 z.symm, fun z => h2 z.symm⟩
      have e' := f'.at e na
      walk_at "go"
      refine rd_sf rfl e' ca (N.na_number _ (.inl rfl)) rfl ?_
      walk_at "go"
      refine rd_fset ?_
      walk_at "go"
      refine rd_sf rfl e' ca (N.na_step _ (.inl rfl)) rfl ?_
      walk_at "go"
      refine rd_st e' ca (N.na_number _ (.inl rfl)) (by show 4 < 1000; omega) ?_
      walk_at "go"
      have es : b + (g : Int) * st + st = b + ((g + 1 : Nat) : Int) * st := by rw [Int.natCast_add, Int.add_mul]; omega
      exact G.num _ rfl _ ⟨dx, by rw [upd_same, ← es]; rfl⟩ (by have := M'.put (o := .ins J.count dx (putF "number" (.int (b + g * st + st)) [("number", .int (b + g * st)), ("step", .int st), ("meter", .ref me), ("place", .int pre.length)])) (sep_mkr G.sep); simpa [Nd.gv] using this) ((f'.mono fun b hb => in2 hb).putN (.inl (by simp [Tr.ads])) (nt e'))
theorem sc_Row_draw : FnScope ["self", "number"] ["self"] (defScope s_Row_draw) := ⟨rfl, rfl, rfl, by decide +kernel, rfl, by decide +kernel, by decide +kernel⟩
theorem ok_Row_draw {d : Nat} (D : Apart J) (T : Txt K mg) (N : NodeF K J) (F : FnP K "draw" "Row.draw" s_Row_draw f fd)
    (G_note : CalM P w K mg base (L2.CX P w) 1 J.meter "note_drawn" ["self", "place"] (spNote J)) :
    FnOk P w K mg base (L2.CX P w) 2 f fd ["self"] (spDraw J d J.row) := by
  refine okX F sc_Row_draw (fun vs H Q E h => h.len) (fun cdv A outer s H vs Q E hr h px tk po => ?_)
  · obtain ⟨me, cs, lo, pre, post, t, x, m, f, r, x', m', rfl, hC, hd, G⟩ := h
    obtain ⟨ns, g, rfl⟩ := cls_row D hC
    obtain ⟨a, rfl⟩ := Tr.of_mkr G.nd
    obtain ⟨dx, p, e, ep⟩ := G.nd
    have hC : DrawC J J.row := .inr (.inl rfl)
    have ca := N.c _ hC
    obtain ⟨⟨dm, e0⟩, e1, e2⟩ := id G.mt
    have gi : g ≤ ns.length := G.inv.1
    refine ⟨_, (pss_cons (ps_if (pt_cmpR op_eq (pe_fld (pv 0) rfl) (pe_callB (call_len1K K) (by rfl) T.free_len (by decide +kernel) (pa_cons (pe_fld (pv 0) rfl) pa_nil)) (nomark _))
    (pss_one (ps_ret pe_non)) pss_nil)
  (pss_cons (ps_expr (pe_cm (pe_fld (pv 0) rfl) G_note (hr.mono (by omega)) px (pa_cons (pe_fld (pv 0) rfl) pa_nil)))
  (pss_cons (ps_set (i := 1) sc_Row_draw.nd rfl (Or.inl rfl) (pe_ix (ix_tupK K) (pe_fld (pv 0) rfl) (pe_fld (pv 0) rfl) (fun _ _ => rfl)))
  (pss_cons (ps_fldaug (pv 0) pe_int in_add)
  (pss_one (ps_ret (pv 1))))))), ?_⟩
    try dsimp only [cxOf, Cx.nox, Cx.wish]
    refine rd_at (σ' := [some (.ref a), none]) rfl ?_
    walk_at "go"
    refine rd_sf rfl e ca (N.na_at _ hC) rfl ?_
    walk_at "go"
    refine rd_sf rfl e ca (N.na_numbers _ hC) rfl ?_
    walk_at "go"
    rw [List.length_map]
    refine rd_dec (fun c => ?_) (fun c => ?_)
    · have hl : ns.length ≤ g := by have := V.int.inj c; omega
      obtain ⟨rfl, rfl, rfl⟩ := draw_row_fin hl hd
      walk_at "go"
      exact G.fin rfl _ G.nd G.mt (Fr.refl _ _)
    · have hl : ¬ ns.length ≤ g := fun z => c (by rw [show g = ns.length by omega])
      walk_at "go"
      refine rd_meth ?_
      refine rd_sf rfl e ca (N.na_meter _ hC) rfl ?_
      refine rd_m e0 rfl ?_
      walk_at "go"
      refine rd_sf rfl e ca (N.na_place _ hC) rfl ?_
      walk_at "go"
      refine ⟨me, cs, lo, m, pre, post, g, rfl, by simpa [Nd.gv] using G.mt, G.sep.n1, G.sep.n2, G.sep.n3, G.bk, fun hb => ?_, fun hb H' M' f' => ?_⟩
      · obtain ⟨rfl, rfl, rfl⟩ := draw_row_long hl hb hd
        exact G.long rfl _ G.mt (Fr.refl _ _)
      · obtain ⟨rfl, rfl, rfl⟩ := draw_row_num hl hb hd
        have na := sep_mkr G.sep
        have e' := f'.at e (show a ∉ [me, cs] by simp [na.1, na.2.1])
        walk_at "go"
        refine rd_sf rfl e' ca (N.na_numbers _ hC) rfl ?_
        walk_at "go"
        refine rd_sf rfl e' ca (N.na_at _ hC) rfl ?_
        have hv : (ns.map V.int)[g]? = some (.int (ns.getD g 0)) := by
          rw [List.getElem?_map, List.getElem?_eq_getElem (by omega), List.getD_eq_getElem?_getD, List.getElem?_eq_getElem (by omega)]
          rfl
        refine rd_ixT (SqT.of (f'.tp ep)) (atI_nat hv) ?_
        walk_at "go"
        refine rd_faug rfl e' ca (N.na_at _ hC) rfl ?_
        walk_at "go"
        refine ⟨_, _, rfl, rfl, dx, _, e', by show 4 < 1000; omega, ?_⟩
        walk_at "go"
        refine G.num _ rfl _ ⟨dx, p, by rw [upd_same]; rfl, upd_other (fun z => ?_) (f'.tp ep)⟩ (by have := M'.put (o := .ins J.row dx (putF "at" (.int (g + 1)) [("numbers", .ref p), ("at", .int g), ("meter", .ref me), ("place", .int pre.length)])) na; simpa [Nd.gv] using this) ((f'.mono fun b hb => in2 hb).putN (.inl (by simp [Tr.ads])) (nt e'))
        rw [z] at ep
        rw [e] at ep
        cases ep
end
end Dc

set_option Elab.async false
set_option linter.all false
set_option maxRecDepth 100000
set_option maxHeartbeats 2000000
namespace Dc
open PySem PySem.Spec PyProof.Rows L2
local macro_rules | `(tactic| walk_at "ne") => `(tactic| first | assumption | (refine Ne.symm ?_; assumption) | exact ne_of (by assumption) (by assumption) (by intro q; cases q) | exact ne_of_none (by assumption) (by assumption) | exact Ne.symm (ne_of_none (by assumption) (by assumption)))
local macro_rules | `(tactic| walk_at "hp") => `(tactic| first | assumption | exact upd_same | (refine upd_keep ?_ (by assumption); walk_at "hp") | (refine upd_other ?_ ?_; · walk_at "ne"; · walk_at "hp"))
local macro_rules | `(tactic| walk_at "hl") => `(tactic| first | assumption | exact SqL.of (by walk_at "hp"))
local macro_rules | `(tactic| walk_at "ht") => `(tactic| first | assumption | exact SqT.of (by walk_at "hp"))
local macro_rules | `(tactic| walk_at "rd1") => `(tactic| first
  | ((with_reducible apply rd_var); exact rfl)
  | ((with_reducible apply rd_eq); exact rfl) | ((with_reducible apply rd_ne); exact rfl)
  | with_reducible first
  | refine iteT ?_ | refine iteF ?_ | refine rd_nF ?_ | refine rd_nT ?_ | refine rd_yes ?_ | refine rd_c ?_ | refine rd_op ?_ | refine rd_un ?_ | refine rd_test ?_ | refine rd_B ?_ | refine rd_bl ?_ | refine rd_seq ?_ | refine rd_next ?_ | refine rd_ifs ?_ | refine rd_asg ?_ | refine rd_name ?_ | refine rd_ret ?_ | refine rd_drop ?_
  | refine rd_call ?_ | refine rd_cons ?_ | refine rd_nil ?_ | refine rd_cb ?_ | refine rd_I0 ?_ | refine rd_U ?_ | refine rd_gsub ?_ | refine rd_lst ?_ | refine rd_tup ?_ | refine rd_if ?_ | refine rd_not ?_ | refine rd_rng1 ?_ | refine rd_itup ?_ | refine rd_ilst ?_ | refine rd_bm ?_ | refine rd_bm0 ?_ | refine rd_andV ?_ | refine rd_orV ?_ | refine rd_notV ?_)
local macro_rules | `(tactic| walk_at "rd") => `(tactic| repeat walk_at "rd1")
local macro_rules | `(tactic| walk_at "ci") => `(tactic| first | assumption | (show (0 : Int) < _; first | decide | omega) | exact ⟨by decide, by decide⟩ | exact Or.inr ⟨by decide, by decide⟩ | exact Or.inl ⟨by decide, by decide⟩ | exact ⟨by decide, by decide, by decide⟩ | exact Or.inl ⟨by omega, by omega⟩ | exact Or.inr ⟨by omega, by omega⟩)
local macro_rules | `(tactic| walk_at "ix") => `(tactic| first
  | ((with_reducible apply rd_ixL); (walk_at "hl"); exact rfl)
  | ((with_reducible apply rd_ixT); (walk_at "ht"); exact rfl)
  | ((with_reducible apply rd_lenL); (walk_at "hl"))
  | ((with_reducible apply rd_lenT); (walk_at "ht"))
  | ((with_reducible apply rd_tupOf); (walk_at "hl"))
  | ((with_reducible apply rd_listOf); (walk_at "hl"))
  | (with_reducible refine rd_min2 ?_)
  | ((with_reducible apply rd_I); (walk_at "ci"))
  | ((with_reducible apply rd_setL); (walk_at "hp"); exact rfl))
local macro_rules | `(tactic| walk_at "gs") => `(tactic| repeat first | walk_at "rd1" | walk_at "ix")
local macro_rules | `(tactic| walk_at "go") => `(tactic| repeat first | walk_at "rd1" | walk_at "ix" | with_reducible refine rd_and ?_ | with_reducible refine rd_or ?_)
local macro_rules | `(tactic| walk_at "fo") => `(tactic| (with_reducible refine rd_for ?_))
local macro_rules | `(tactic| walk_at "pm") => `(tactic| repeat first
  | with_reducible first | refine rd_pcons ?_ | refine rd_pstr ?_ | refine rd_pcap ?_ | refine rd_pwild ?_ | refine rd_pnil ?_ | refine rd_por ?_ | refine rd_pno ?_
  | ((with_reducible refine rd_eq rfl ?_); refine ⟨_, rfl, ?_⟩; first | refine rd_T rfl ?_ | refine rd_F (by decide) ?_)
  | dsimp only [List.nil_append, List.singleton_append, List.cons_append, setAll])
local macro_rules | `(tactic| walk_at "pc") => `(tactic| (refine rd_case ?_); (first | (refine rd_phit (SqT.of (by assumption)) rfl ?_) | (refine rd_pmiss (SqT.of (by assumption)) (by simp) ?_)); (walk_at "pm"))

def StageC (J : Cls') (C : Addr) : Prop := C = J.reckon ∨ C = J.keep ∨ C = J.drop ∨ C = J.take ∨ C = J.each ∨ C = J.until' ∨ C = J.unlike ∨ C = J.both ∨ C = J.thn
theorem StageC.draw {J : Cls'} {C : Addr} (h : StageC J C) : DrawC J C := .inr (.inr h)
def Nd.ovr : Nd → Bool
  | .mkr _ _ => false
  | .st _ o _ => o.over
  | .both o _ _ => o.over
  | .thn o _ _ => o.over
/-- not ended yet, or so it seems -/
def NdW (J : Cls') (H : Hp) (me : Addr) : Nat → Nd → Tr → Prop
  | off, .st k o c, .st a t => (∃ fs, ObAt H a (k.cls J) t.ad false fs ∧ k.flds me o fs) ∧ NdAt J H me off c t
  | off, .both _ c d, .two a t u => ObAt H a J.both t.ad false [("other", .ref u.ad), ("meter", .ref me)] ∧ NdAt J H me off c t ∧ NdAt J H me (off + c.gv.length) d u
  | off, .thn _ c d, .two a t u => ObAt H a J.thn t.ad false [("other", .ref u.ad)] ∧ NdAt J H me off c t ∧ NdAt J H me (off + c.gv.length) d u
  | _, _, _ => False
structure AskW (J : Cls') (d : Nat) (me cs lo : Addr) (pre post : List Int) (t : Tr) (x : Nd) (m : Mt) (r : Rs) (x' : Nd) (m' : Mt) (H : Hp) (Q : VK) (E : XK) : Prop where
  sep : Sep me cs lo t
  nd : NdW J H me pre.length x t
  ov : x.ovr = false
  mt : MetAt J H me cs lo m (pre ++ x.gv ++ post)
  inv : x.inv
  dep : x.dep ≤ d
  bk : m.book ≤ 200
  al : m.lost.length + x.alive ≤ 1000
  num : ∀ n, r = .num n → ∀ H', NdW J H' me pre.length x' t → MetAt J H' me cs lo m' (pre ++ x'.gv ++ post) → Fr (t.ads ++ [me, cs, lo]) H H' → Q (.int n) H'
  fin : r = .fin → ∀ H', NdW J H' me pre.length x' t → MetAt J H' me cs lo m' (pre ++ x'.gv ++ post) → Fr (t.ads ++ [me, cs, lo]) H H' → Q .non H'
  long : r = .long → ∀ H', MetAt J H' me cs lo m' (pre ++ x'.gv ++ post) → Fr (t.ads ++ [me, cs, lo]) H H' → E (.ref J.long) none H'
def spWork (J : Cls') (d : Nat) (C : Addr) : Sp := fun vs H Q E => ∃ me cs lo pre post t x m f r x' m', vs = [.ref t.ad] ∧ x.cls J = C ∧ draw f x m = some (r, x', m') ∧ AskW J d me cs lo pre post t x m r x' m' H Q E
theorem spWork.len {J : Cls'} {d : Nat} {C : Addr} {vs : List V} {H : Hp} {Q : VK} {E : XK} (h : spWork J d C vs H Q E) : vs.length = 1 := by
  obtain ⟨_, _, _, _, _, _, _, _, _, _, _, _, rfl, _⟩ := h
  rfl
/-- told a number, so not over -/
theorem draw_num_live : ∀ (f : Nat) (x : Nd) (m : Mt) (n : Int) (x' : Nd) (m' : Mt), draw f x m = some (.num n, x', m') → x'.ovr = false
  | 0, _, _, _, _, _, h => by simp only [draw] at h; cases h
  | f + 1, .mkr (.row ns) g, m, n, x', m', h => by
    simp only [draw] at h
    split at h
    · cases h
    · split at h <;> cases h
      rfl
  | f + 1, .mkr (.count b s) g, m, n, x', m', h => by
    simp only [draw] at h
    split at h <;> cases h
    rfl
  | f + 1, .st k o c, m, n, x', m', h => by
    rw [draw_st] at h
    split at h
    · cases h
    · rename_i ho
      have ho' : o.over = false := by cases q : o.over with | true => exact absurd q ho | false => rfl
      split at h
      · rename_i r0 o' ha
        cases h
        show (o'.fin (.num n)).over = false
        exact (ahead_over ha).trans ho'
      · split at h
        · cases h
        · rename_i v c' m1 hd
          split at h
          · exact draw_num_live f _ _ _ _ _ h
          · rename_i w o' hp
            cases h
            exact (pass_over.2 _ _ hp).trans ho'
          · cases h
        · cases h
        · cases h
  | f + 1, .both o c d, m, n, x', m', h => by
    rw [draw_both] at h
    split at h
    · cases h
    · rename_i ho
      have ho' : o.over = false := by cases q : o.over with | true => exact absurd q ho | false => rfl
      split at h
      · cases h
      · split at h <;> cases h
        exact ho'
      · cases h
      · cases h
  | f + 1, .thn o c d, m, n, x', m', h => by
    rw [draw_thn] at h
    split at h
    · cases h
    · rename_i ho
      have ho' : o.over = false := by cases q : o.over with | true => exact absurd q ho | false => rfl
      split at h
      · split at h <;> cases h
        exact ho'
      · split at h
        · cases h
        · split at h <;> cases h
          exact ho'
        · cases h
          exact ho'
        · cases h
section
variable {P : Program} {w : World} {K : PySem.W.Frag} {mg : Str → Option Value} {base : Heap} {J : Cls'} {f : Addr} {fd : FuncData} {H : Hp} {me cs lo : Addr}
theorem cls_stage (D : Apart J) {x : Nd} (h : StageC J (x.cls J)) : ∀ m g, x ≠ .mkr m g := by
  have nd := D.nd
  simp only [List.nodup_cons, List.mem_cons, List.not_mem_nil, or_false, not_or] at nd
  obtain ⟨⟨a1, a2, a3, a4, a5, a6, a7, a8, a9, a10⟩, ⟨b2, b3, b4, b5, b6, b7, b8, b9, b10⟩, _⟩ := nd
  rintro m g rfl
  cases m with
  | count b s => rcases h with h | h | h | h | h | h | h | h | h <;> exact absurd h (by assumption)
  | row ns => rcases h with h | h | h | h | h | h | h | h | h <;> exact absurd h (by assumption)
/-- ended or not, as it stands -/
theorem NdAt.top {off : Nat} {x : Nd} {t : Tr} (hm : ∀ m g, x ≠ .mkr m g) (h : NdAt J H me off x t) : ∃ dx ah fs, H t.ad = some (.ins (x.cls J) dx (("ahead", .ref ah) :: ("ended", .bl x.ovr) :: fs)) ∧ fs.lookup ("work" : Str) = none ∧ fs.length ≤ 3 := by
  cases x with
  | mkr m g => exact absurd rfl (hm m g)
  | st k o c =>
    cases t with
    | st a t =>
      obtain ⟨⟨fs, ⟨dx, e⟩, z⟩, r⟩ := h
      exact ⟨dx, _, fs, e, (Kd.flds_draw z).2⟩
    | mkr a => exact h.elim
    | two a t u => exact h.elim
  | both o c d =>
    cases t with
    | two a t u =>
      obtain ⟨⟨dx, e⟩, r1, r2⟩ := h
      exact ⟨dx, _, _, e, rfl, by show 2 ≤ 3; omega⟩
    | mkr a => exact h.elim
    | st a t => exact h.elim
  | thn o c d =>
    cases t with
    | two a t u =>
      obtain ⟨⟨dx, e⟩, r1, r2⟩ := h
      exact ⟨dx, _, _, e, rfl, by show 1 ≤ 3; omega⟩
    | mkr a => exact h.elim
    | st a t => exact h.elim
theorem NdAt.toW {off : Nat} {x : Nd} {t : Tr} (hm : ∀ m g, x ≠ .mkr m g) (ho : x.ovr = false) (h : NdAt J H me off x t) : NdW J H me off x t := by
  cases x with
  | mkr m g => exact absurd rfl (hm m g)
  | st k o c =>
    cases t with
    | st a t => rw [show NdAt J H me off (.st k o c) (.st a t) = ((∃ fs, ObAt H a (k.cls J) t.ad o.over fs ∧ k.flds me o fs) ∧ NdAt J H me off c t) from rfl, show o.over = false from ho] at h; exact h
    | mkr a => exact h.elim
    | two a t u => exact h.elim
  | both o c d =>
    cases t with
    | two a t u => rw [show NdAt J H me off (.both o c d) (.two a t u) = (ObAt H a J.both t.ad o.over [("other", .ref u.ad), ("meter", .ref me)] ∧ NdAt J H me off c t ∧ NdAt J H me (off + c.gv.length) d u) from rfl, show o.over = false from ho] at h; exact h
    | mkr a => exact h.elim
    | st a t => exact h.elim
  | thn o c d =>
    cases t with
    | two a t u => rw [show NdAt J H me off (.thn o c d) (.two a t u) = (ObAt H a J.thn t.ad o.over [("other", .ref u.ad)] ∧ NdAt J H me off c t ∧ NdAt J H me (off + c.gv.length) d u) from rfl, show o.over = false from ho] at h; exact h
    | mkr a => exact h.elim
    | st a t => exact h.elim
theorem NdW.at_ {off : Nat} {x : Nd} {t : Tr} (ho : x.ovr = false) (h : NdW J H me off x t) : NdAt J H me off x t := by
  cases x with
  | mkr m g => cases t <;> exact h.elim
  | st k o c =>
    cases t with
    | st a t => show (∃ fs, ObAt H a (k.cls J) t.ad o.over fs ∧ k.flds me o fs) ∧ NdAt J H me off c t; rw [show o.over = false from ho]; exact h
    | mkr a => exact h.elim
    | two a t u => exact h.elim
  | both o c d =>
    cases t with
    | two a t u => show ObAt H a J.both t.ad o.over [("other", .ref u.ad), ("meter", .ref me)] ∧ NdAt J H me off c t ∧ NdAt J H me (off + c.gv.length) d u; rw [show o.over = false from ho]; exact h
    | mkr a => exact h.elim
    | st a t => exact h.elim
  | thn o c d =>
    cases t with
    | two a t u => show ObAt H a J.thn t.ad o.over [("other", .ref u.ad)] ∧ NdAt J H me off c t ∧ NdAt J H me (off + c.gv.length) d u; rw [show o.over = false from ho]; exact h
    | mkr a => exact h.elim
    | st a t => exact h.elim
theorem NdW.top {off : Nat} {x : Nd} {t : Tr} (h : NdW J H me off x t) : ∃ dx ah fs, H t.ad = some (.ins (x.cls J) dx (("ahead", .ref ah) :: ("ended", .bl false) :: fs)) ∧ fs.length ≤ 3 := by
  cases x with
  | mkr m g => cases t <;> exact h.elim
  | st k o c =>
    cases t with
    | st a t =>
      obtain ⟨⟨fs, ⟨dx, e⟩, z⟩, r⟩ := h
      exact ⟨dx, _, fs, e, (Kd.flds_draw z).2.2⟩
    | mkr a => exact h.elim
    | two a t u => exact h.elim
  | both o c d =>
    cases t with
    | two a t u =>
      obtain ⟨⟨dx, e⟩, r1, r2⟩ := h
      exact ⟨dx, _, _, e, by show 2 ≤ 3; omega⟩
    | mkr a => exact h.elim
    | st a t => exact h.elim
  | thn o c d =>
    cases t with
    | two a t u =>
      obtain ⟨⟨dx, e⟩, r1, r2⟩ := h
      exact ⟨dx, _, _, e, by show 1 ≤ 3; omega⟩
    | mkr a => exact h.elim
    | st a t => exact h.elim
/-- self.ended = True -/
theorem NdW.end_ {off : Nat} {x : Nd} {t : Tr} (dj : t.dj) (ho : x.ovr = true) (h : NdW J H me off x t) {dx ah : Addr} {fs : List (Str × V)} (e : H t.ad = some (.ins (x.cls J) dx (("ahead", .ref ah) :: ("ended", .bl false) :: fs))) :
    NdAt J (upd H t.ad (.ins (x.cls J) dx (("ahead", .ref ah) :: ("ended", .bl true) :: fs))) me off x t := by
  cases x with
  | mkr m g => cases t <;> exact h.elim
  | st k o c =>
    cases t with
    | st a t =>
      obtain ⟨⟨fs', ⟨dx', e'⟩, z⟩, r⟩ := h
      have e : H a = some (.ins (k.cls J) dx (("ahead", .ref ah) :: ("ended", .bl false) :: fs)) := e
      rw [e'] at e
      cases e
      refine ⟨⟨fs, ⟨dx, ?_⟩, z⟩, r.fr (Fr.put (S := [a]) (by simp) (nt e')) fun b hb q => ?_⟩
      · show upd H a _ a = _
        rw [upd_same, show o.over = true from ho]; rfl
      · rw [List.mem_singleton] at q
        rw [q] at hb
        exact dj.1 hb
    | mkr a => exact h.elim
    | two a t u => exact h.elim
  | both o c d =>
    cases t with
    | two a t u =>
      obtain ⟨⟨dx', e'⟩, r1, r2⟩ := h
      have e : H a = some (.ins J.both dx (("ahead", .ref ah) :: ("ended", .bl false) :: fs)) := e
      rw [e'] at e
      cases e
      refine ⟨⟨dx, ?_⟩, r1.fr (Fr.put (S := [a]) (by simp) (nt e')) fun b hb q => ?_, r2.fr (Fr.put (S := [a]) (by simp) (nt e')) fun b hb q => ?_⟩
      · show upd H a _ a = _
        rw [upd_same, show o.over = true from ho]; rfl
      · rw [List.mem_singleton] at q
        rw [q] at hb
        exact dj.1 hb
      · rw [List.mem_singleton] at q
        rw [q] at hb
        exact dj.2.1 hb
    | mkr a => exact h.elim
    | st a t => exact h.elim
  | thn o c d =>
    cases t with
    | two a t u =>
      obtain ⟨⟨dx', e'⟩, r1, r2⟩ := h
      have e : H a = some (.ins J.thn dx (("ahead", .ref ah) :: ("ended", .bl false) :: fs)) := e
      rw [e'] at e
      cases e
      refine ⟨⟨dx, ?_⟩, r1.fr (Fr.put (S := [a]) (by simp) (nt e')) fun b hb q => ?_, r2.fr (Fr.put (S := [a]) (by simp) (nt e')) fun b hb q => ?_⟩
      · show upd H a _ a = _
        rw [upd_same, show o.over = true from ho]; rfl
      · rw [List.mem_singleton] at q
        rw [q] at hb
        exact dj.1 hb
      · rw [List.mem_singleton] at q
        rw [q] at hb
        exact dj.2.1 hb
    | mkr a => exact h.elim
    | st a t => exact h.elim
theorem draw_ovr {f : Nat} {x : Nd} {m m' : Mt} {r : Rs} {x' : Nd} (ho : x.ovr = true) (h : draw f x m = some (r, x', m')) : r = .fin ∧ x' = x ∧ m' = m := by
  cases f with
  | zero => simp only [draw] at h; cases h
  | succ f =>
    have he : x.ended := by
      cases x with
      | mkr m g => cases ho
      | st k o c => exact ho
      | both o c d => exact ho
      | thn o c d => exact ho
    rw [ended_draw f m he] at h
    cases h
    exact ⟨rfl, rfl, rfl⟩
theorem ended_ovr {x : Nd} (hm : ∀ m g, x ≠ .mkr m g) (h : x.ended) : x.ovr = true := by
  cases x with
  | mkr m g => exact absurd rfl (hm m g)
  | st k o c => exact h
  | both o c d => exact h
  | thn o c d => exact h
theorem Sep.ad {t : Tr} (S : Sep me cs lo t) : t.ad ≠ me ∧ t.ad ≠ cs ∧ t.ad ≠ lo :=
  ⟨fun z => S.hme (z ▸ t.ad_mem), fun z => S.hcs (z ▸ t.ad_mem), fun z => S.hlo (z ▸ t.ad_mem)⟩
theorem NdW.not_mkr {off : Nat} {x : Nd} {t : Tr} (h : NdW J H me off x t) : ∀ m g, x ≠ .mkr m g := by
  rintro m g rfl
  cases t <;> exact h.elim
theorem draw_cls : ∀ (f : Nat) (x : Nd) (m : Mt) (r : Rs) (x' : Nd) (m' : Mt), draw f x m = some (r, x', m') → x'.cls J = x.cls J
  | 0, _, _, _, _, _, h => by simp only [draw] at h; cases h
  | f + 1, .mkr (.row ns) g, m, r, x', m', h => by
    simp only [draw] at h
    split at h
    · cases h; rfl
    · split at h <;> (cases h; rfl)
  | f + 1, .mkr (.count b s) g, m, r, x', m', h => by
    simp only [draw] at h
    split at h <;> (cases h; rfl)
  | f + 1, .st k o c, m, r, x', m', h => by
    rw [draw_st] at h
    split at h
    · cases h; rfl
    · split at h
      · cases h; rfl
      · split at h
        · cases h
        · split at h
          · have z := draw_cls f _ _ _ _ _ h
            exact z
          · cases h; rfl
          · cases h; rfl
        · cases h; rfl
        · cases h; rfl
  | f + 1, .both o c d, m, r, x', m', h => by
    rw [draw_both] at h
    split at h
    · cases h; rfl
    · split at h
      · cases h
      · split at h <;> cases h <;> rfl
      · cases h; rfl
      · cases h; rfl
  | f + 1, .thn o c d, m, r, x', m', h => by
    rw [draw_thn] at h
    split at h
    · cases h; rfl
    · split at h
      · split at h <;> cases h
        rfl
      · split at h
        · cases h
        · split at h <;> cases h
          rfl
        · cases h; rfl
        · cases h; rfl
theorem sc_Stage_draw : FnScope ["self", "number"] ["self"] (defScope s_Stage_draw) := ⟨rfl, rfl, rfl, by decide +kernel, rfl, by decide +kernel, by decide +kernel⟩
theorem ok_Stage_draw {d : Nat} {C : Addr} (hC : StageC J C) (D : Apart J) (T : Txt K mg) (N : NodeF K J) (F : FnP K "draw" "Stage.draw" s_Stage_draw f fd)
    (G_work : ∀ C, StageC J C → CalM P w K mg base (L2.CX P w) (2 * d + 1) C "work" ["self"] (spWork J d C)) :
    FnOk P w K mg base (L2.CX P w) (2 * d + 2) f fd ["self"] (spDraw J d C) := by
  refine okX F sc_Stage_draw (fun vs H Q E h => h.len) (fun cdv A outer s H vs Q E hr h px tk po => ?_)
  · obtain ⟨me, cs, lo, pre, post, t, x, m, f, r, x', m', rfl, hx, hd, G⟩ := h
    have nm : ∀ m g, x ≠ .mkr m g := cls_stage D (hx ▸ hC)
    obtain ⟨dx, ah, fs, e, lk, lf⟩ := G.nd.top nm
    rw [hx] at e
    have hC' := hC.draw
    have ca := N.c _ hC'
    refine ⟨_, (pss_cons (ps_if (pt_val (pe_fld (pv 0) rfl))
    (pss_one (ps_ret pe_non)) pss_nil)
  (pss_cons (ps_set (i := 1) sc_Stage_draw.nd rfl (Or.inl rfl) (pe_dyn0 (pv 0) G_work (hr.mono (by omega)) px))
  (pss_cons (ps_if (pt_cmpR op_isN (pv 1) pe_non (nomark _))
    (pss_one (ps_fld (pv 0) pe_bl rfl)) pss_nil)
  (pss_one (ps_ret (pv 1)))))), ?_⟩
    try dsimp only [cxOf, Cx.nox, Cx.wish]
    refine rd_at (σ' := [some (.ref t.ad), none]) rfl ?_
    walk_at "go"
    refine rd_sf rfl e ca (N.na_ended _ hC') rfl ?_
    walk_at "go"
    refine rd_b (fun c => ?_) (fun c => ?_)
    · obtain ⟨rfl, rfl, rfl⟩ := draw_ovr c hd
      walk_at "go"
      exact G.fin rfl _ G.nd G.mt (Fr.refl _ _)
    · walk_at "go"
      refine rd_dyn ?_
      walk_at "go"
      refine rd_d hC e (lookup_tail lk (by decide) (by decide)) ?_
      have F' := draw_facts _ _ _ _ _ _ hd G.inv G.bk
      refine ⟨me, cs, lo, pre, post, t, x, m, f, r, x', m', rfl, hx, hd, ⟨G.sep, G.nd.toW nm c, c, G.mt, G.inv, G.dep, G.bk, G.al, fun n hn H' W' M' f' => ?_, fun hn H' W' M' f' => ?_, G.long⟩⟩
      · walk_at "go"
        refine ⟨rfl, ?_⟩
        walk_at "go"
        refine rd_F (fun z => by cases z) ?_
        walk_at "go"
        subst hn
        exact G.num n rfl _ (W'.at_ (draw_num_live _ _ _ _ _ _ hd)) M' f'
      · obtain ⟨dx', ah', fs', e', lf'⟩ := W'.top
        have hx' : x'.cls J = C := (draw_cls _ _ _ _ _ _ hd).trans hx
        walk_at "go"
        refine ⟨rfl, ?_⟩
        walk_at "go"
        refine rd_T rfl ?_
        walk_at "go"
        refine rd_fset ?_
        walk_at "go"
        rw [hx'] at e'
        refine rd_st e' ca (N.na_ended _ hC') (by show fs'.length + 1 + 1 < 1000; omega) ?_
        walk_at "go"
        have ho' : x'.ovr = true := ended_ovr W'.not_mkr (F'.en hn)
        refine G.fin hn _ ?_ (M'.put G.sep.ad) (f'.putN (.inl (List.mem_append_left _ t.ad_mem)) (nt e'))
        have z := W'.end_ G.sep.dj ho' (by rw [hx']; exact e')
        rw [hx'] at z
        exact z
end
end Dc

set_option Elab.async false
set_option linter.all false
set_option maxRecDepth 100000
set_option maxHeartbeats 2000000
namespace Dc
open PySem PySem.Spec PyProof.Rows L2
local macro_rules | `(tactic| walk_at "ne") => `(tactic| first | assumption | (refine Ne.symm ?_; assumption) | exact ne_of (by assumption) (by assumption) (by intro q; cases q) | exact ne_of_none (by assumption) (by assumption) | exact Ne.symm (ne_of_none (by assumption) (by assumption)))
local macro_rules | `(tactic| walk_at "hp") => `(tactic| first | assumption | exact upd_same | (refine upd_keep ?_ (by assumption); walk_at "hp") | (refine upd_other ?_ ?_; · walk_at "ne"; · walk_at "hp"))
local macro_rules | `(tactic| walk_at "hl") => `(tactic| first | assumption | exact SqL.of (by walk_at "hp"))
local macro_rules | `(tactic| walk_at "ht") => `(tactic| first | assumption | exact SqT.of (by walk_at "hp"))
local macro_rules | `(tactic| walk_at "rd1") => `(tactic| first
  | ((with_reducible apply rd_var); exact rfl)
  | ((with_reducible apply rd_eq); exact rfl) | ((with_reducible apply rd_ne); exact rfl)
  | with_reducible first
  | refine iteT ?_ | refine iteF ?_ | refine rd_nF ?_ | refine rd_nT ?_ | refine rd_yes ?_ | refine rd_c ?_ | refine rd_op ?_ | refine rd_un ?_ | refine rd_test ?_ | refine rd_B ?_ | refine rd_bl ?_ | refine rd_seq ?_ | refine rd_next ?_ | refine rd_ifs ?_ | refine rd_asg ?_ | refine rd_name ?_ | refine rd_ret ?_ | refine rd_drop ?_
  | refine rd_call ?_ | refine rd_cons ?_ | refine rd_nil ?_ | refine rd_cb ?_ | refine rd_I0 ?_ | refine rd_U ?_ | refine rd_gsub ?_ | refine rd_lst ?_ | refine rd_tup ?_ | refine rd_if ?_ | refine rd_not ?_ | refine rd_rng1 ?_ | refine rd_itup ?_ | refine rd_ilst ?_ | refine rd_bm ?_ | refine rd_bm0 ?_ | refine rd_andV ?_ | refine rd_orV ?_ | refine rd_notV ?_)
local macro_rules | `(tactic| walk_at "rd") => `(tactic| repeat walk_at "rd1")
local macro_rules | `(tactic| walk_at "ci") => `(tactic| first | assumption | (show (0 : Int) < _; first | decide | omega) | exact ⟨by decide, by decide⟩ | exact Or.inr ⟨by decide, by decide⟩ | exact Or.inl ⟨by decide, by decide⟩ | exact ⟨by decide, by decide, by decide⟩ | exact Or.inl ⟨by omega, by omega⟩ | exact Or.inr ⟨by omega, by omega⟩)
local macro_rules | `(tactic| walk_at "ix") => `(tactic| first
  | ((with_reducible apply rd_ixL); (walk_at "hl"); exact rfl)
  | ((with_reducible apply rd_ixT); (walk_at "ht"); exact rfl)
  | ((with_reducible apply rd_lenL); (walk_at "hl"))
  | ((with_reducible apply rd_lenT); (walk_at "ht"))
  | ((with_reducible apply rd_tupOf); (walk_at "hl"))
  | ((with_reducible apply rd_listOf); (walk_at "hl"))
  | (with_reducible refine rd_min2 ?_)
  | ((with_reducible apply rd_I); (walk_at "ci"))
  | ((with_reducible apply rd_setL); (walk_at "hp"); exact rfl))
local macro_rules | `(tactic| walk_at "gs") => `(tactic| repeat first | walk_at "rd1" | walk_at "ix")
local macro_rules | `(tactic| walk_at "go") => `(tactic| repeat first | walk_at "rd1" | walk_at "ix" | with_reducible refine rd_and ?_ | with_reducible refine rd_or ?_)
local macro_rules | `(tactic| walk_at "fo") => `(tactic| (with_reducible refine rd_for ?_))
local macro_rules | `(tactic| walk_at "pm") => `(tactic| repeat first
  | with_reducible first | refine rd_pcons ?_ | refine rd_pstr ?_ | refine rd_pcap ?_ | refine rd_pwild ?_ | refine rd_pnil ?_ | refine rd_por ?_ | refine rd_pno ?_
  | ((with_reducible refine rd_eq rfl ?_); refine ⟨_, rfl, ?_⟩; first | refine rd_T rfl ?_ | refine rd_F (by decide) ?_)
  | dsimp only [List.nil_append, List.singleton_append, List.cons_append, setAll])
local macro_rules | `(tactic| walk_at "pc") => `(tactic| (refine rd_case ?_); (first | (refine rd_phit (SqT.of (by assumption)) rfl ?_) | (refine rd_pmiss (SqT.of (by assumption)) (by simp) ?_)); (walk_at "pm"))

/-! ### the stages' work -/
def Step (f0 : Nat) (k : Kd) (o : Ow) (r : Rs) (x' : Nd) (m' : Mt) (c' : Nd) (m1 : Mt) : Rs → Prop
  | .num n => match pass k o n with
    | .again o' => draw f0 (.st k o' c') m1 = some (r, x', m')
    | .tell v o' => r = .num v ∧ x' = .st k (o'.fin (.num v)) c' ∧ m' = m1
    | .stop => r = .fin ∧ x' = .st k (o.fin .fin) c' ∧ m' = { m1 with lost := m1.lost ++ [n] }
  | .fin => r = .fin ∧ x' = .st k (o.fin .fin) c' ∧ m' = m1
  | .long => r = .long ∧ x' = .st k o c' ∧ m' = m1
theorem st_step {f : Nat} {k : Kd} {o : Ow} {c : Nd} {m m' : Mt} {r : Rs} {x' : Nd} (ho : o.over = false) (ha : ahead k o = none) (h : draw f (.st k o c) m = some (r, x', m')) :
    ∃ f0 rc c' m1, f = f0 + 1 ∧ draw f0 c m = some (rc, c', m1) ∧ Step f0 k o r x' m' c' m1 rc := by
  cases f with
  | zero => simp only [draw] at h; cases h
  | succ f =>
    rw [draw_st, if_neg (by rw [ho]; decide), ha] at h
    dsimp only at h
    cases hd : draw f c m with
    | none => rw [hd] at h; cases h
    | some p =>
      obtain ⟨rc, c', m1⟩ := p
      refine ⟨f, rc, c', m1, rfl, hd.symm ▸ rfl, ?_⟩
      rw [hd] at h
      cases rc with
      | num n =>
        dsimp only at h
        show (match pass k o n with
          | .again o' => draw f (.st k o' c') m1 = some (r, x', m')
          | .tell v o' => r = .num v ∧ x' = .st k (o'.fin (.num v)) c' ∧ m' = m1
          | .stop => r = .fin ∧ x' = .st k (o.fin .fin) c' ∧ m' = { m1 with lost := m1.lost ++ [n] })
        cases hp : pass k o n with
        | again o' => rw [hp] at h; exact h
        | tell v o' => rw [hp] at h; cases h; exact ⟨rfl, rfl, rfl⟩
        | stop => rw [hp] at h; cases h; exact ⟨rfl, rfl, rfl⟩
      | fin => cases h; exact ⟨rfl, rfl, rfl⟩
      | long => cases h; exact ⟨rfl, rfl, rfl⟩
/-- amid a stage's work -/
structure Mid (J : Cls') (d : Nat) (me cs lo : Addr) (pre post : List Int) (a : Addr) (tc : Tr) (ob : HO) (c : Nd) (m : Mt) (H0 H : Hp) : Prop where
  ob : H a = some ob
  nd : NdAt J H me pre.length c tc
  mt : MetAt J H me cs lo m (pre ++ c.gv ++ post)
  inv : c.inv
  dep : c.dep ≤ d
  bk : m.book ≤ 200
  al : m.lost.length + c.alive ≤ 999
  fr : Fr ((a :: tc.ads) ++ [me, cs, lo]) H0 H
theorem Sep.st {me cs lo a : Addr} {tc : Tr} (S : Sep me cs lo (.st a tc)) : Sep me cs lo tc :=
  ⟨S.dj.2, fun h => S.hme (List.mem_cons_of_mem _ h), fun h => S.hcs (List.mem_cons_of_mem _ h), fun h => S.hlo (List.mem_cons_of_mem _ h), S.n1, S.n2, S.n3⟩
theorem Sep.out {me cs lo a : Addr} {tc : Tr} (S : Sep me cs lo (.st a tc)) : a ∉ tc.ads ++ [me, cs, lo] := by
  have h1 := S.ad
  simp only [Tr.ad] at h1
  simp only [List.mem_append, List.mem_cons, List.not_mem_nil, or_false, not_or]
  exact ⟨S.dj.1, h1.1, h1.2.1, h1.2.2⟩
section
variable {P : Program} {w : World} {K : PySem.W.Frag} {mg : Str → Option Value} {base : Heap} {J : Cls'} {f : Addr} {fd : FuncData} {H H0 : Hp} {me cs lo a : Addr} {d : Nat} {pre post : List Int} {tc : Tr} {ob : HO} {c : Nd} {m : Mt}
theorem Mid.ask {f : Nat} {rc : Rs} {c' : Nd} {m1 : Mt} {Q : VK} {E : XK} (S : Sep me cs lo (.st a tc)) (M : Mid J d me cs lo pre post a tc ob c m H0 H) (hd : draw f c m = some (rc, c', m1))
    (hnum : ∀ n, rc = .num n → ∀ H', Mid J d me cs lo pre post a tc ob c' m1 H0 H' → Q (.int n) H') (hfin : rc = .fin → ∀ H', Mid J d me cs lo pre post a tc ob c' m1 H0 H' → Q .non H')
    (hlong : rc = .long → ∀ H', MetAt J H' me cs lo m1 (pre ++ c'.gv ++ post) → Fr ((a :: tc.ads) ++ [me, cs, lo]) H0 H' → E (.ref J.long) none H') : Ask J d me cs lo pre post tc c m rc c' m1 H Q E := by
  have F := draw_facts _ _ _ _ _ _ hd M.inv M.bk
  have L := draw_lost _ _ _ _ _ _ hd
  have fr : ∀ H', Fr (tc.ads ++ [me, cs, lo]) H H' → Fr ((a :: tc.ads) ++ [me, cs, lo]) H0 H' := fun H' f' => M.fr.tr (f'.mono fun b hb => List.mem_cons_of_mem _ hb)
  have mid : ∀ H', NdAt J H' me pre.length c' tc → MetAt J H' me cs lo m1 (pre ++ c'.gv ++ post) → Fr (tc.ads ++ [me, cs, lo]) H H' → Mid J d me cs lo pre post a tc ob c' m1 H0 H' :=
    fun H' n' t' f' => ⟨f'.at M.ob S.out, n', t', F.inv, by rw [L.2]; exact M.dep, F.b2, Nat.le_trans L.1 M.al, fr H' f'⟩
  exact ⟨S.st, M.nd, M.mt, M.inv, M.dep, M.bk, Nat.le_trans M.al (by omega), fun n e H' n' t' f' => hnum n e H' (mid H' n' t' f'), fun e H' n' t' f' => hfin e H' (mid H' n' t' f'), fun e H' t' f' => hlong e H' t' (fr H' f')⟩
/-- at the work's begin -/
theorem AskW.mid {k : Kd} {o : Ow} {x' : Nd} {m' : Mt} {r : Rs} {Q : VK} {E : XK} {dx : Addr} {fs : List (Str × V)} (G : AskW J (d + 1) me cs lo pre post (.st a tc) (.st k o c) m r x' m' H Q E) (e : H a = some (.ins (k.cls J) dx (("ahead", .ref tc.ad) :: ("ended", .bl false) :: fs))) :
    Mid J d me cs lo pre post a tc (.ins (k.cls J) dx (("ahead", .ref tc.ad) :: ("ended", .bl false) :: fs)) c m H H :=
  ⟨e, G.nd.2, G.mt, G.inv.2.2, by have : c.dep + 1 ≤ d + 1 := G.dep; omega, G.bk, by have h : m.lost.length + (o.al + c.alive) ≤ 1000 := G.al; rw [al_one (by rw [show o.over = false from G.ov]; decide)] at h; omega, Fr.refl _ _⟩
theorem NdW.st {off : Nat} {k : Kd} {o : Ow} {c : Nd} {t : Tr} (h : NdW J H me off (.st k o c) t) : ∃ a tc dx fs, t = .st a tc ∧ H a = some (.ins (k.cls J) dx (("ahead", .ref tc.ad) :: ("ended", .bl false) :: fs)) ∧ k.flds me o fs ∧ NdAt J H me off c tc := by
  cases t with
  | mkr a => exact h.elim
  | two a t u => exact h.elim
  | st a tc =>
    obtain ⟨⟨fs, ⟨dx, e⟩, z⟩, r⟩ := h
    exact ⟨a, tc, dx, fs, rfl, e, z, r⟩
/-- back to what is asked -/
theorem Mid.toW {k : Kd} {o : Ow} {dx : Addr} {fs : List (Str × V)} {c' : Nd} {m1 : Mt} {H' : Hp} (M : Mid J d me cs lo pre post a tc (.ins (k.cls J) dx (("ahead", .ref tc.ad) :: ("ended", .bl false) :: fs)) c' m1 H0 H') (h : k.flds me o fs) :
    NdW J H' me pre.length (.st k o c') (.st a tc) := ⟨⟨fs, ⟨dx, M.ob⟩, h⟩, M.nd⟩
theorem cls_reckon (D : Apart J) {x : Nd} (h : x.cls J = J.reckon) : ∃ k o c, x = .st k o c ∧ ((∃ n, k = .add n) ∨ ∃ n, k = .times n) := by
  have nd := D.nd
  simp only [List.nodup_cons, List.mem_cons, List.not_mem_nil, or_false, not_or] at nd
  obtain ⟨⟨a1, a2, a3, a4, a5, a6, a7, a8, a9, a10⟩, ⟨b2, b3, b4, b5, b6, b7, b8, b9, b10⟩, ⟨c3, c4, c5, c6, c7, c8, c9, c10⟩, _⟩ := nd
  cases x with
  | mkr k g => cases k <;> exact absurd h (by assumption)
  | st k o c =>
    cases k with
    | add n => exact ⟨_, o, c, rfl, .inl ⟨n, rfl⟩⟩
    | times n => exact ⟨_, o, c, rfl, .inr ⟨n, rfl⟩⟩
    | _ => exact absurd h.symm (by assumption)
  | both o c d => exact absurd h.symm (by assumption)
  | thn o c d => exact absurd h.symm (by assumption)
theorem sc_Reckon_work : FnScope ["self", "number"] ["self"] (defScope s_Reckon_work) := ⟨rfl, rfl, rfl, by decide +kernel, rfl, by decide +kernel, by decide +kernel⟩
theorem ok_Reckon_work (D : Apart J) (T : Txt K mg) (N : NodeF K J) (F : FnP K "work" "Reckon.work" s_Reckon_work f fd)
    (G_draw : ∀ C, DrawC J C → CalM P w K mg base (L2.CX P w) (2 * d + 2) C "draw" ["self"] (spDraw J d C)) :
    FnOk P w K mg base (L2.CX P w) (2 * d + 3) f fd ["self"] (spWork J (d + 1) J.reckon) := by
  refine okX F sc_Reckon_work (fun vs H Q E h => h.len) (fun cdv A outer s H vs Q E hr h px tk po => ?_)
  · obtain ⟨me, cs, lo, pre, post, t, x, m, f, r, x', m', rfl, hx, hd, G⟩ := h
    obtain ⟨k, o, c, rfl, hk⟩ := cls_reckon D hx
    have hC : DrawC J J.reckon := .inr (.inr (.inl rfl))
    have ca := N.c _ hC
    obtain ⟨a, tc, dx, fs, rfl, e, z, nc⟩ := G.nd.st
    obtain ⟨fa, te, ez, km, ha, hp⟩ : ∃ fa te : Int, fs = ([("factor", .int fa), ("term", .int te)] : List (Str × V)) ∧ (-(2 ^ 64) < fa ∧ fa < 2 ^ 64) ∧ ahead k o = none ∧ ∀ n, pass k o n = .tell (n * fa + te) o := by
      rcases hk with ⟨n, rfl⟩ | ⟨n, rfl⟩
      · exact ⟨1, n, z, by decide, rfl, fun v => by show Ps.tell _ _ = _; rw [Int.mul_one]⟩
      · exact ⟨n, 0, z, ⟨G.inv.1.2.1, G.inv.1.2.2⟩, rfl, fun v => by show Ps.tell _ _ = _; rw [Int.add_zero]⟩
    subst ez
    have M := G.mid e
    obtain ⟨f0, rc, c', m1, rfl, hc, st⟩ := st_step G.ov ha hd
    have ek : k.cls J = J.reckon := hx
    rw [ek] at e
    refine ⟨_, (pss_cons (ps_set (i := 1) sc_Reckon_work.nd rfl (Or.inl rfl) (pe_dyn0 (pe_fld (pv 0) rfl) G_draw (hr.mono (by omega)) px))
  (pss_cons (ps_if (pt_cmpR op_isN (pv 1) pe_non (nomark _))
    (pss_one (ps_ret pe_non)) pss_nil)
  (pss_one (ps_ret (pe_op op_add (pe_op op_mul (pv 1) (pe_fld (pv 0) rfl)) (pe_fld (pv 0) rfl)))))), ?_⟩
    try dsimp only [cxOf, Cx.nox, Cx.wish]
    refine rd_at (σ' := [some (.ref a), none]) rfl ?_
    walk_at "go"
    refine rd_dyn ?_
    walk_at "go"
    refine rd_sf rfl e ca (N.na_ahead _ hC) rfl ?_
    obtain ⟨dc, fc, ec, lc⟩ := nc.obj
    refine rd_d (c.cls_draw J) ec lc ?_
    refine ⟨me, cs, lo, pre, post, tc, c, m, f0, rc, c', m1, rfl, rfl, hc, M.ask G.sep hc (fun n hn H' M' => ?_) (fun hn H' M' => ?_) (fun hn H' M' f' => ?_)⟩
    · subst hn
      rw [show Step f0 k o r x' m' c' m1 (.num n) = (match pass k o n with
          | .again o' => draw f0 (.st k o' c') m1 = some (r, x', m')
          | .tell v o' => r = .num v ∧ x' = .st k (o'.fin (.num v)) c' ∧ m' = m1
          | .stop => r = .fin ∧ x' = .st k (o.fin .fin) c' ∧ m' = { m1 with lost := m1.lost ++ [n] }) from rfl, hp] at st
      obtain ⟨rfl, rfl, rfl⟩ := st
      have e' := M'.ob
      rw [ek] at e'
      walk_at "go"
      refine ⟨rfl, ?_⟩
      walk_at "go"
      refine rd_F (fun z => by cases z) ?_
      walk_at "go"
      refine rd_sf rfl e' ca (N.na_factor _ hC) rfl ?_
      refine rd_I ?_ ?_
      · exact .inr km
      · refine rd_sf rfl e' ca (N.na_term _ hC) rfl ?_
        walk_at "go"
        refine G.num _ rfl _ (M'.toW ?_) M'.mt M'.fr
        rcases hk with ⟨n, rfl⟩ | ⟨n, rfl⟩ <;> exact z
    · subst hn
      obtain ⟨rfl, rfl, rfl⟩ := st
      walk_at "go"
      refine ⟨rfl, ?_⟩
      walk_at "go"
      refine rd_T rfl ?_
      walk_at "go"
      refine G.fin rfl _ (M'.toW ?_) M'.mt M'.fr
      rcases hk with ⟨n, rfl⟩ | ⟨n, rfl⟩ <;> exact z
    · subst hn
      obtain ⟨rfl, rfl, rfl⟩ := st
      exact G.long rfl H' M' f'
end
end Dc

set_option Elab.async false
set_option linter.all false
set_option maxRecDepth 100000
set_option maxHeartbeats 2000000
namespace Dc
open PySem PySem.Spec PyProof.Rows L2
local macro_rules | `(tactic| walk_at "ne") => `(tactic| first | assumption | (refine Ne.symm ?_; assumption) | exact ne_of (by assumption) (by assumption) (by intro q; cases q) | exact ne_of_none (by assumption) (by assumption) | exact Ne.symm (ne_of_none (by assumption) (by assumption)))
local macro_rules | `(tactic| walk_at "hp") => `(tactic| first | assumption | exact upd_same | (refine upd_keep ?_ (by assumption); walk_at "hp") | (refine upd_other ?_ ?_; · walk_at "ne"; · walk_at "hp"))
local macro_rules | `(tactic| walk_at "hl") => `(tactic| first | assumption | exact SqL.of (by walk_at "hp"))
local macro_rules | `(tactic| walk_at "ht") => `(tactic| first | assumption | exact SqT.of (by walk_at "hp"))
local macro_rules | `(tactic| walk_at "rd1") => `(tactic| first
  | ((with_reducible apply rd_var); exact rfl)
  | ((with_reducible apply rd_eq); exact rfl) | ((with_reducible apply rd_ne); exact rfl)
  | with_reducible first
  | refine iteT ?_ | refine iteF ?_ | refine rd_nF ?_ | refine rd_nT ?_ | refine rd_yes ?_ | refine rd_c ?_ | refine rd_op ?_ | refine rd_un ?_ | refine rd_test ?_ | refine rd_B ?_ | refine rd_bl ?_ | refine rd_seq ?_ | refine rd_next ?_ | refine rd_ifs ?_ | refine rd_asg ?_ | refine rd_name ?_ | refine rd_ret ?_ | refine rd_drop ?_
  | refine rd_call ?_ | refine rd_cons ?_ | refine rd_nil ?_ | refine rd_cb ?_ | refine rd_I0 ?_ | refine rd_U ?_ | refine rd_gsub ?_ | refine rd_lst ?_ | refine rd_tup ?_ | refine rd_if ?_ | refine rd_not ?_ | refine rd_rng1 ?_ | refine rd_itup ?_ | refine rd_ilst ?_ | refine rd_bm ?_ | refine rd_bm0 ?_ | refine rd_andV ?_ | refine rd_orV ?_ | refine rd_notV ?_)
local macro_rules | `(tactic| walk_at "rd") => `(tactic| repeat walk_at "rd1")
local macro_rules | `(tactic| walk_at "ci") => `(tactic| first | assumption | (show (0 : Int) < _; first | decide | omega) | exact ⟨by decide, by decide⟩ | exact Or.inr ⟨by decide, by decide⟩ | exact Or.inl ⟨by decide, by decide⟩ | exact ⟨by decide, by decide, by decide⟩ | exact Or.inl ⟨by omega, by omega⟩ | exact Or.inr ⟨by omega, by omega⟩)
local macro_rules | `(tactic| walk_at "ix") => `(tactic| first
  | ((with_reducible apply rd_ixL); (walk_at "hl"); exact rfl)
  | ((with_reducible apply rd_ixT); (walk_at "ht"); exact rfl)
  | ((with_reducible apply rd_lenL); (walk_at "hl"))
  | ((with_reducible apply rd_lenT); (walk_at "ht"))
  | ((with_reducible apply rd_tupOf); (walk_at "hl"))
  | ((with_reducible apply rd_listOf); (walk_at "hl"))
  | (with_reducible refine rd_min2 ?_)
  | ((with_reducible apply rd_I); (walk_at "ci"))
  | ((with_reducible apply rd_setL); (walk_at "hp"); exact rfl))
local macro_rules | `(tactic| walk_at "gs") => `(tactic| repeat first | walk_at "rd1" | walk_at "ix")
local macro_rules | `(tactic| walk_at "go") => `(tactic| repeat first | walk_at "rd1" | walk_at "ix" | with_reducible refine rd_and ?_ | with_reducible refine rd_or ?_)
local macro_rules | `(tactic| walk_at "fo") => `(tactic| (with_reducible refine rd_for ?_))
local macro_rules | `(tactic| walk_at "pm") => `(tactic| repeat first
  | with_reducible first | refine rd_pcons ?_ | refine rd_pstr ?_ | refine rd_pcap ?_ | refine rd_pwild ?_ | refine rd_pnil ?_ | refine rd_por ?_ | refine rd_pno ?_
  | ((with_reducible refine rd_eq rfl ?_); refine ⟨_, rfl, ?_⟩; first | refine rd_T rfl ?_ | refine rd_F (by decide) ?_)
  | dsimp only [List.nil_append, List.singleton_append, List.cons_append, setAll])
local macro_rules | `(tactic| walk_at "pc") => `(tactic| (refine rd_case ?_); (first | (refine rd_phit (SqT.of (by assumption)) rfl ?_) | (refine rd_pmiss (SqT.of (by assumption)) (by simp) ?_)); (walk_at "pm"))

section
variable {P : Program} {w : World} {K : PySem.W.Frag} {mg : Str → Option Value} {base : Heap} {J : Cls'} {f : Addr} {fd : FuncData} {H H0 : Hp} {me cs lo a : Addr} {d : Nat} {pre post : List Int} {tc : Tr} {ob : HO} {c : Nd} {m : Mt}
theorem Apart.all (D : Apart J) : J.count ≠ J.row ∧ J.count ≠ J.reckon ∧ J.count ≠ J.keep ∧ J.count ≠ J.drop ∧ J.count ≠ J.take ∧ J.count ≠ J.each ∧ J.count ≠ J.until' ∧ J.count ≠ J.unlike ∧ J.count ≠ J.both ∧ J.count ≠ J.thn ∧ J.row ≠ J.reckon ∧ J.row ≠ J.keep ∧ J.row ≠ J.drop ∧ J.row ≠ J.take ∧ J.row ≠ J.each ∧ J.row ≠ J.until' ∧ J.row ≠ J.unlike ∧ J.row ≠ J.both ∧ J.row ≠ J.thn ∧ J.reckon ≠ J.keep ∧ J.reckon ≠ J.drop ∧ J.reckon ≠ J.take ∧ J.reckon ≠ J.each ∧ J.reckon ≠ J.until' ∧ J.reckon ≠ J.unlike ∧ J.reckon ≠ J.both ∧ J.reckon ≠ J.thn ∧ J.keep ≠ J.drop ∧ J.keep ≠ J.take ∧ J.keep ≠ J.each ∧ J.keep ≠ J.until' ∧ J.keep ≠ J.unlike ∧ J.keep ≠ J.both ∧ J.keep ≠ J.thn ∧ J.drop ≠ J.take ∧ J.drop ≠ J.each ∧ J.drop ≠ J.until' ∧ J.drop ≠ J.unlike ∧ J.drop ≠ J.both ∧ J.drop ≠ J.thn ∧ J.take ≠ J.each ∧ J.take ≠ J.until' ∧ J.take ≠ J.unlike ∧ J.take ≠ J.both ∧ J.take ≠ J.thn ∧ J.each ≠ J.until' ∧ J.each ≠ J.unlike ∧ J.each ≠ J.both ∧ J.each ≠ J.thn ∧ J.until' ≠ J.unlike ∧ J.until' ≠ J.both ∧ J.until' ≠ J.thn ∧ J.unlike ≠ J.both ∧ J.unlike ≠ J.thn ∧ J.both ≠ J.thn := by
  have nd := D.nd
  simp only [List.nodup_cons, List.mem_cons, List.not_mem_nil, or_false, not_or] at nd
  obtain ⟨⟨h0_1, h0_2, h0_3, h0_4, h0_5, h0_6, h0_7, h0_8, h0_9, h0_10⟩, ⟨h1_2, h1_3, h1_4, h1_5, h1_6, h1_7, h1_8, h1_9, h1_10⟩, ⟨h2_3, h2_4, h2_5, h2_6, h2_7, h2_8, h2_9, h2_10⟩, ⟨h3_4, h3_5, h3_6, h3_7, h3_8, h3_9, h3_10⟩, ⟨h4_5, h4_6, h4_7, h4_8, h4_9, h4_10⟩, ⟨h5_6, h5_7, h5_8, h5_9, h5_10⟩, ⟨h6_7, h6_8, h6_9, h6_10⟩, ⟨h7_8, h7_9, h7_10⟩, ⟨h8_9, h8_10⟩, h9_10, _⟩ := nd
  exact ⟨h0_1, h0_2, h0_3, h0_4, h0_5, h0_6, h0_7, h0_8, h0_9, h0_10, h1_2, h1_3, h1_4, h1_5, h1_6, h1_7, h1_8, h1_9, h1_10, h2_3, h2_4, h2_5, h2_6, h2_7, h2_8, h2_9, h2_10, h3_4, h3_5, h3_6, h3_7, h3_8, h3_9, h3_10, h4_5, h4_6, h4_7, h4_8, h4_9, h4_10, h5_6, h5_7, h5_8, h5_9, h5_10, h6_7, h6_8, h6_9, h6_10, h7_8, h7_9, h7_10, h8_9, h8_10, h9_10⟩
theorem cls_keep (D : Apart J) {x : Nd} (h : x.cls J = J.keep) : ∃ r w o c, x = .st (.keep r w) o c := by
  obtain ⟨h0_1, h0_2, h0_3, h0_4, h0_5, h0_6, h0_7, h0_8, h0_9, h0_10, h1_2, h1_3, h1_4, h1_5, h1_6, h1_7, h1_8, h1_9, h1_10, h2_3, h2_4, h2_5, h2_6, h2_7, h2_8, h2_9, h2_10, h3_4, h3_5, h3_6, h3_7, h3_8, h3_9, h3_10, h4_5, h4_6, h4_7, h4_8, h4_9, h4_10, h5_6, h5_7, h5_8, h5_9, h5_10, h6_7, h6_8, h6_9, h6_10, h7_8, h7_9, h7_10, h8_9, h8_10, h9_10⟩ := D.all
  cases x with
  | mkr k g => cases k <;> exact absurd h (by assumption)
  | st k o c =>
    cases k with
    | keep r w => exact ⟨r, w, o, c, rfl⟩
    | _ => first | exact absurd h.symm (by assumption) | exact absurd h (by assumption)
  | both o c d => first | exact absurd h.symm (by assumption) | exact absurd h (by assumption)
  | thn o c d => first | exact absurd h.symm (by assumption) | exact absurd h (by assumption)
theorem cls_drop (D : Apart J) {x : Nd} (h : x.cls J = J.drop) : ∃ k o c, x = .st (.drop k) o c := by
  obtain ⟨h0_1, h0_2, h0_3, h0_4, h0_5, h0_6, h0_7, h0_8, h0_9, h0_10, h1_2, h1_3, h1_4, h1_5, h1_6, h1_7, h1_8, h1_9, h1_10, h2_3, h2_4, h2_5, h2_6, h2_7, h2_8, h2_9, h2_10, h3_4, h3_5, h3_6, h3_7, h3_8, h3_9, h3_10, h4_5, h4_6, h4_7, h4_8, h4_9, h4_10, h5_6, h5_7, h5_8, h5_9, h5_10, h6_7, h6_8, h6_9, h6_10, h7_8, h7_9, h7_10, h8_9, h8_10, h9_10⟩ := D.all
  cases x with
  | mkr k g => cases k <;> exact absurd h (by assumption)
  | st k o c =>
    cases k with
    | drop k => exact ⟨k, o, c, rfl⟩
    | _ => first | exact absurd h.symm (by assumption) | exact absurd h (by assumption)
  | both o c d => first | exact absurd h.symm (by assumption) | exact absurd h (by assumption)
  | thn o c d => first | exact absurd h.symm (by assumption) | exact absurd h (by assumption)
theorem cls_take (D : Apart J) {x : Nd} (h : x.cls J = J.take) : ∃ k o c, x = .st (.take k) o c := by
  obtain ⟨h0_1, h0_2, h0_3, h0_4, h0_5, h0_6, h0_7, h0_8, h0_9, h0_10, h1_2, h1_3, h1_4, h1_5, h1_6, h1_7, h1_8, h1_9, h1_10, h2_3, h2_4, h2_5, h2_6, h2_7, h2_8, h2_9, h2_10, h3_4, h3_5, h3_6, h3_7, h3_8, h3_9, h3_10, h4_5, h4_6, h4_7, h4_8, h4_9, h4_10, h5_6, h5_7, h5_8, h5_9, h5_10, h6_7, h6_8, h6_9, h6_10, h7_8, h7_9, h7_10, h8_9, h8_10, h9_10⟩ := D.all
  cases x with
  | mkr k g => cases k <;> exact absurd h (by assumption)
  | st k o c =>
    cases k with
    | take k => exact ⟨k, o, c, rfl⟩
    | _ => first | exact absurd h.symm (by assumption) | exact absurd h (by assumption)
  | both o c d => first | exact absurd h.symm (by assumption) | exact absurd h (by assumption)
  | thn o c d => first | exact absurd h.symm (by assumption) | exact absurd h (by assumption)
theorem cls_each (D : Apart J) {x : Nd} (h : x.cls J = J.each) : ∃ k o c, x = .st (.each k) o c := by
  obtain ⟨h0_1, h0_2, h0_3, h0_4, h0_5, h0_6, h0_7, h0_8, h0_9, h0_10, h1_2, h1_3, h1_4, h1_5, h1_6, h1_7, h1_8, h1_9, h1_10, h2_3, h2_4, h2_5, h2_6, h2_7, h2_8, h2_9, h2_10, h3_4, h3_5, h3_6, h3_7, h3_8, h3_9, h3_10, h4_5, h4_6, h4_7, h4_8, h4_9, h4_10, h5_6, h5_7, h5_8, h5_9, h5_10, h6_7, h6_8, h6_9, h6_10, h7_8, h7_9, h7_10, h8_9, h8_10, h9_10⟩ := D.all
  cases x with
  | mkr k g => cases k <;> exact absurd h (by assumption)
  | st k o c =>
    cases k with
    | each k => exact ⟨k, o, c, rfl⟩
    | _ => first | exact absurd h.symm (by assumption) | exact absurd h (by assumption)
  | both o c d => first | exact absurd h.symm (by assumption) | exact absurd h (by assumption)
  | thn o c d => first | exact absurd h.symm (by assumption) | exact absurd h (by assumption)
theorem cls_until (D : Apart J) {x : Nd} (h : x.cls J = J.until') : ∃ n o c, x = .st (.until n) o c := by
  obtain ⟨h0_1, h0_2, h0_3, h0_4, h0_5, h0_6, h0_7, h0_8, h0_9, h0_10, h1_2, h1_3, h1_4, h1_5, h1_6, h1_7, h1_8, h1_9, h1_10, h2_3, h2_4, h2_5, h2_6, h2_7, h2_8, h2_9, h2_10, h3_4, h3_5, h3_6, h3_7, h3_8, h3_9, h3_10, h4_5, h4_6, h4_7, h4_8, h4_9, h4_10, h5_6, h5_7, h5_8, h5_9, h5_10, h6_7, h6_8, h6_9, h6_10, h7_8, h7_9, h7_10, h8_9, h8_10, h9_10⟩ := D.all
  cases x with
  | mkr k g => cases k <;> exact absurd h (by assumption)
  | st k o c =>
    cases k with
    | «until» n => exact ⟨n, o, c, rfl⟩
    | _ => first | exact absurd h.symm (by assumption) | exact absurd h (by assumption)
  | both o c d => first | exact absurd h.symm (by assumption) | exact absurd h (by assumption)
  | thn o c d => first | exact absurd h.symm (by assumption) | exact absurd h (by assumption)
theorem cls_unlike (D : Apart J) {x : Nd} (h : x.cls J = J.unlike) : ∃  o c, x = .st .unlike o c := by
  obtain ⟨h0_1, h0_2, h0_3, h0_4, h0_5, h0_6, h0_7, h0_8, h0_9, h0_10, h1_2, h1_3, h1_4, h1_5, h1_6, h1_7, h1_8, h1_9, h1_10, h2_3, h2_4, h2_5, h2_6, h2_7, h2_8, h2_9, h2_10, h3_4, h3_5, h3_6, h3_7, h3_8, h3_9, h3_10, h4_5, h4_6, h4_7, h4_8, h4_9, h4_10, h5_6, h5_7, h5_8, h5_9, h5_10, h6_7, h6_8, h6_9, h6_10, h7_8, h7_9, h7_10, h8_9, h8_10, h9_10⟩ := D.all
  cases x with
  | mkr k g => cases k <;> exact absurd h (by assumption)
  | st k o c =>
    cases k with
    | unlike  => exact ⟨o, c, rfl⟩
    | _ => first | exact absurd h.symm (by assumption) | exact absurd h (by assumption)
  | both o c d => first | exact absurd h.symm (by assumption) | exact absurd h (by assumption)
  | thn o c d => first | exact absurd h.symm (by assumption) | exact absurd h (by assumption)
theorem cls_both (D : Apart J) {x : Nd} (h : x.cls J = J.both) : ∃ o c d, x = .both o c d := by
  obtain ⟨h0_1, h0_2, h0_3, h0_4, h0_5, h0_6, h0_7, h0_8, h0_9, h0_10, h1_2, h1_3, h1_4, h1_5, h1_6, h1_7, h1_8, h1_9, h1_10, h2_3, h2_4, h2_5, h2_6, h2_7, h2_8, h2_9, h2_10, h3_4, h3_5, h3_6, h3_7, h3_8, h3_9, h3_10, h4_5, h4_6, h4_7, h4_8, h4_9, h4_10, h5_6, h5_7, h5_8, h5_9, h5_10, h6_7, h6_8, h6_9, h6_10, h7_8, h7_9, h7_10, h8_9, h8_10, h9_10⟩ := D.all
  cases x with
  | mkr k g => cases k <;> exact absurd h (by assumption)
  | st k o c => cases k <;> exact absurd h (by assumption)
  | both o c d => exact ⟨o, c, d, rfl⟩
  | thn o c d => first | exact absurd h.symm (by assumption) | exact absurd h (by assumption)
theorem cls_thn (D : Apart J) {x : Nd} (h : x.cls J = J.thn) : ∃ o c d, x = .thn o c d := by
  obtain ⟨h0_1, h0_2, h0_3, h0_4, h0_5, h0_6, h0_7, h0_8, h0_9, h0_10, h1_2, h1_3, h1_4, h1_5, h1_6, h1_7, h1_8, h1_9, h1_10, h2_3, h2_4, h2_5, h2_6, h2_7, h2_8, h2_9, h2_10, h3_4, h3_5, h3_6, h3_7, h3_8, h3_9, h3_10, h4_5, h4_6, h4_7, h4_8, h4_9, h4_10, h5_6, h5_7, h5_8, h5_9, h5_10, h6_7, h6_8, h6_9, h6_10, h7_8, h7_9, h7_10, h8_9, h8_10, h9_10⟩ := D.all
  cases x with
  | mkr k g => cases k <;> exact absurd h (by assumption)
  | st k o c => cases k <;> exact absurd h (by assumption)
  | both o c d => first | exact absurd h.symm (by assumption) | exact absurd h (by assumption)
  | thn o c d => exact ⟨o, c, d, rfl⟩

def resV : Rs → V
  | .num n => .int n
  | _ => .non
theorem step_again {f0 : Nat} {k : Kd} {o o' : Ow} {r : Rs} {x' : Nd} {m' : Mt} {c' : Nd} {m1 : Mt} {n : Int} (h : Step f0 k o r x' m' c' m1 (.num n)) (q : pass k o n = .again o') : draw f0 (.st k o' c') m1 = some (r, x', m') := by
  unfold Step at h
  dsimp only at h
  rw [q] at h
  exact h
theorem step_tell {f0 : Nat} {k : Kd} {o o' : Ow} {r : Rs} {x' : Nd} {m' : Mt} {c' : Nd} {m1 : Mt} {n v : Int} (h : Step f0 k o r x' m' c' m1 (.num n)) (q : pass k o n = .tell v o') : r = .num v ∧ x' = .st k (o'.fin (.num v)) c' ∧ m' = m1 := by
  unfold Step at h
  dsimp only at h
  rw [q] at h
  exact h
theorem step_stop {f0 : Nat} {k : Kd} {o : Ow} {r : Rs} {x' : Nd} {m' : Mt} {c' : Nd} {m1 : Mt} {n : Int} (h : Step f0 k o r x' m' c' m1 (.num n)) (q : pass k o n = .stop) : r = .fin ∧ x' = .st k (o.fin .fin) c' ∧ m' = { m1 with lost := m1.lost ++ [n] } := by
  unfold Step at h
  dsimp only at h
  rw [q] at h
  exact h
theorem Mid.askR {f : Nat} {rc : Rs} {c' : Nd} {m1 : Mt} {Q : VK} {E : XK} (S : Sep me cs lo (.st a tc)) (M : Mid J d me cs lo pre post a tc ob c m H0 H) (hd : draw f c m = some (rc, c', m1))
    (hgo : rc ≠ .long → ∀ H', Mid J d me cs lo pre post a tc ob c' m1 H0 H' → Q (resV rc) H')
    (hlong : rc = .long → ∀ H', MetAt J H' me cs lo m1 (pre ++ c'.gv ++ post) → Fr ((a :: tc.ads) ++ [me, cs, lo]) H0 H' → E (.ref J.long) none H') : Ask J d me cs lo pre post tc c m rc c' m1 H Q E := by
  refine M.ask S hd (fun n e H' M' => ?_) (fun e H' M' => ?_) hlong
  · have z := hgo (fun q => by rw [e] at q; cases q) H' M'
    rw [e] at z
    exact z
  · have z := hgo (fun q => by rw [e] at q; cases q) H' M'
    rw [e] at z
    exact z
theorem rd_NF {c A B : Prop} [Decidable c] (h : c) (q : B) : if (!decide c) = true then A else B := by rw [if_neg (by rw [decide_eq_true h]; decide)]; exact q
theorem rd_NT {c A B : Prop} [Decidable c] (h : ¬ c) (q : A) : if (!decide c) = true then A else B := by rw [if_pos (by rw [decide_eq_false h]; decide)]; exact q
theorem mod_iff {n r w : Int} (h0 : 0 ≤ r) (h1 : r < w) : (n - r) % w = 0 ↔ n % w = r := by
  have := Int.emod_eq_emod_iff_emod_sub_eq_zero (m := n) (n := w) (k := r)
  rw [Int.emod_eq_of_lt h0 h1] at this
  exact this.symm
theorem sc_Keep_work : FnScope ["self", "number"] ["self"] (defScope s_Keep_work) := ⟨rfl, rfl, rfl, by decide +kernel, rfl, by decide +kernel, by decide +kernel⟩
theorem ok_Keep_work (D : Apart J) (T : Txt K mg) (N : NodeF K J) (F : FnP K "work" "Keep.work" s_Keep_work f fd)
    (G_draw : ∀ C, DrawC J C → CalM P w K mg base (L2.CX P w) (2 * d + 2) C "draw" ["self"] (spDraw J d C)) :
    FnOk P w K mg base (L2.CX P w) (2 * d + 3) f fd ["self"] (spWork J (d + 1) J.keep) := by
  refine okX F sc_Keep_work (fun vs H Q E h => h.len) (fun cdv A outer s H vs Q E hr h px tk po => ?_)
  · obtain ⟨me, cs, lo, pre, post, t, x, m, f, r, x', m', rfl, hx, hd, G⟩ := h
    obtain ⟨rest, wh, o, c, rfl⟩ := cls_keep D hx
    have hC : DrawC J J.keep := .inr (.inr (.inr (.inl rfl)))
    have ca := N.c _ hC
    obtain ⟨a, tc, dx, fs, rfl, e, z, nc⟩ := G.nd.st
    obtain rfl := z
    have hw := G.inv.1
    have M := G.mid e
    obtain ⟨f0, rc, c', m1, rfl, hc, st⟩ := st_step G.ov rfl hd
    refine ⟨_, (pss_cons (ps_set (i := 1) sc_Keep_work.nd rfl (Or.inl rfl) (pe_dyn0 (pe_fld (pv 0) rfl) G_draw (hr.mono (by omega)) px))
  (pss_cons (ps_while po (PW.pt (pw_and (pt_cmpR op_notN (pv 1) pe_non (nomark _)) (pw_and1 (pt_cmpR op_ne (pe_op op_mod (pv 1) (pe_fld (pv 0) rfl)) (pe_fld (pv 0) rfl) (nomark _)))))
    (pss_one (ps_set (i := 1) sc_Keep_work.nd rfl (Or.inl rfl) (pe_dyn0 (pe_fld (pv 0) rfl) G_draw (hr.mono (by omega)) px))))
  (pss_one (ps_ret (pv 1))))), ?_⟩
    try dsimp only [cxOf, Cx.nox, Cx.wish]
    refine rd_at (σ' := [some (.ref a), none]) rfl ?_
    walk_at "go"
    refine rd_dyn ?_
    walk_at "go"
    refine rd_sf rfl e ca (N.na_ahead _ hC) rfl ?_
    obtain ⟨dc, fc, ec, lc⟩ := nc.obj
    refine rd_d (c.cls_draw J) ec lc ?_
    refine ⟨me, cs, lo, pre, post, tc, c, m, f0, rc, c', m1, rfl, rfl, hc, M.askR G.sep hc (fun hl H' M' => ?_) (fun hn H' M' f' => ?_)⟩
    · walk_at "go"
      refine ⟨fun f0 σ H' => ∃ rc c' m1, σ = [some (.ref a), some (resV rc)] ∧ rc ≠ .long ∧ Mid J d me cs lo pre post a tc (.ins J.keep dx [("ahead", .ref tc.ad), ("ended", .bl false), ("rest", .int rest), ("wheel", .int wh)]) c' m1 H H' ∧ Step f0 (.keep rest wh) o r x' m' c' m1 rc, ⟨f0, rc, c', m1, rfl, hl, M', st⟩, ?_⟩
      clear st M' hl H' hc m1 c' rc f0 hd
      rintro f0 σ H' ⟨rc, c', m1, rfl, hl, M', st⟩
      have e' := M'.ob
      walk_at "go"
      refine ⟨rfl, ?_⟩
      walk_at "go"
      cases rc with
      | long => exact absurd rfl hl
      | fin =>
        obtain ⟨rfl, rfl, rfl⟩ := st
        refine rd_NF rfl ?_
        walk_at "go"
        exact G.fin rfl _ (M'.toW rfl) M'.mt M'.fr
      | num n =>
        refine rd_NT (fun z => by cases z) ?_
        walk_at "go"
        refine rd_sf rfl e' ca (N.na_wheel _ hC) rfl ?_
        refine rd_I (by have := hw.1; omega) ?_
        walk_at "go"
        refine rd_sf rfl e' ca (N.na_rest _ hC) rfl ?_
        refine rd_ne rfl ?_
        walk_at "go"
        by_cases c0 : n % wh = rest
        · obtain ⟨rfl, rfl, rfl⟩ := step_tell (v := n) (o' := o) st (if_pos ((mod_iff hw.2.2.1 hw.2.2.2).mpr c0))
          refine rd_NF (by rw [c0]) ?_
          walk_at "go"
          exact G.num _ rfl _ (M'.toW rfl) M'.mt M'.fr
        · refine rd_NT (fun z => c0 (V.int.inj z)) ?_
          have ag := step_again (o' := o) st (if_neg fun z => c0 ((mod_iff hw.2.2.1 hw.2.2.2).mp z))
          obtain ⟨f1, rc1, c1, m1', rfl, hc1, st1⟩ := st_step G.ov rfl ag
          refine ⟨_, fun σ' H' z => ⟨f1, Nat.lt_succ_self _, z⟩, ?_⟩
          walk_at "go"
          refine rd_dyn ?_
          walk_at "go"
          refine rd_sf rfl e' ca (N.na_ahead _ hC) rfl ?_
          obtain ⟨dc, fc, ec, lc⟩ := M'.nd.obj
          refine rd_d (c'.cls_draw J) ec lc ?_
          refine ⟨me, cs, lo, pre, post, tc, c', m1, f1, rc1, c1, m1', rfl, rfl, hc1, M'.askR G.sep hc1 (fun hl H'' M'' => ?_) (fun hn H'' M'' f' => ?_)⟩
          · walk_at "go"
            exact ⟨rc1, c1, m1', rfl, hl, M'', st1⟩
          · subst hn
            obtain ⟨rfl, rfl, rfl⟩ := st1
            exact G.long rfl H'' M'' f'
    · subst hn
      obtain ⟨rfl, rfl, rfl⟩ := st
      exact G.long rfl H' M' f'
end
end Dc

set_option Elab.async false
set_option linter.all false
set_option maxRecDepth 100000
set_option maxHeartbeats 2000000
namespace Dc
open PySem PySem.Spec PyProof.Rows L2
local macro_rules | `(tactic| walk_at "ne") => `(tactic| first | assumption | (refine Ne.symm ?_; assumption) | exact ne_of (by assumption) (by assumption) (by intro q; cases q) | exact ne_of_none (by assumption) (by assumption) | exact Ne.symm (ne_of_none (by assumption) (by assumption)))
local macro_rules | `(tactic| walk_at "hp") => `(tactic| first | assumption | exact upd_same | (refine upd_keep ?_ (by assumption); walk_at "hp") | (refine upd_other ?_ ?_; · walk_at "ne"; · walk_at "hp"))
local macro_rules | `(tactic| walk_at "hl") => `(tactic| first | assumption | exact SqL.of (by walk_at "hp"))
local macro_rules | `(tactic| walk_at "ht") => `(tactic| first | assumption | exact SqT.of (by walk_at "hp"))
local macro_rules | `(tactic| walk_at "rd1") => `(tactic| first
  | ((with_reducible apply rd_var); exact rfl)
  | ((with_reducible apply rd_eq); exact rfl) | ((with_reducible apply rd_ne); exact rfl)
  | with_reducible first
  | refine iteT ?_ | refine iteF ?_ | refine rd_nF ?_ | refine rd_nT ?_ | refine rd_yes ?_ | refine rd_c ?_ | refine rd_op ?_ | refine rd_un ?_ | refine rd_test ?_ | refine rd_B ?_ | refine rd_bl ?_ | refine rd_seq ?_ | refine rd_next ?_ | refine rd_ifs ?_ | refine rd_asg ?_ | refine rd_name ?_ | refine rd_ret ?_ | refine rd_drop ?_
  | refine rd_call ?_ | refine rd_cons ?_ | refine rd_nil ?_ | refine rd_cb ?_ | refine rd_I0 ?_ | refine rd_U ?_ | refine rd_gsub ?_ | refine rd_lst ?_ | refine rd_tup ?_ | refine rd_if ?_ | refine rd_not ?_ | refine rd_rng1 ?_ | refine rd_itup ?_ | refine rd_ilst ?_ | refine rd_bm ?_ | refine rd_bm0 ?_ | refine rd_andV ?_ | refine rd_orV ?_ | refine rd_notV ?_)
local macro_rules | `(tactic| walk_at "rd") => `(tactic| repeat walk_at "rd1")
local macro_rules | `(tactic| walk_at "ci") => `(tactic| first | assumption | (show (0 : Int) < _; first | decide | omega) | exact ⟨by decide, by decide⟩ | exact Or.inr ⟨by decide, by decide⟩ | exact Or.inl ⟨by decide, by decide⟩ | exact ⟨by decide, by decide, by decide⟩ | exact Or.inl ⟨by omega, by omega⟩ | exact Or.inr ⟨by omega, by omega⟩)
local macro_rules | `(tactic| walk_at "ix") => `(tactic| first
  | ((with_reducible apply rd_ixL); (walk_at "hl"); exact rfl)
  | ((with_reducible apply rd_ixT); (walk_at "ht"); exact rfl)
  | ((with_reducible apply rd_lenL); (walk_at "hl"))
  | ((with_reducible apply rd_lenT); (walk_at "ht"))
  | ((with_reducible apply rd_tupOf); (walk_at "hl"))
  | ((with_reducible apply rd_listOf); (walk_at "hl"))
  | (with_reducible refine rd_min2 ?_)
  | ((with_reducible apply rd_I); (walk_at "ci"))
  | ((with_reducible apply rd_setL); (walk_at "hp"); exact rfl))
local macro_rules | `(tactic| walk_at "gs") => `(tactic| repeat first | walk_at "rd1" | walk_at "ix")
local macro_rules | `(tactic| walk_at "go") => `(tactic| repeat first | walk_at "rd1" | walk_at "ix" | with_reducible refine rd_and ?_ | with_reducible refine rd_or ?_)
local macro_rules | `(tactic| walk_at "fo") => `(tactic| (with_reducible refine rd_for ?_))
local macro_rules | `(tactic| walk_at "pm") => `(tactic| repeat first
  | with_reducible first | refine rd_pcons ?_ | refine rd_pstr ?_ | refine rd_pcap ?_ | refine rd_pwild ?_ | refine rd_pnil ?_ | refine rd_por ?_ | refine rd_pno ?_
  | ((with_reducible refine rd_eq rfl ?_); refine ⟨_, rfl, ?_⟩; first | refine rd_T rfl ?_ | refine rd_F (by decide) ?_)
  | dsimp only [List.nil_append, List.singleton_append, List.cons_append, setAll])
local macro_rules | `(tactic| walk_at "pc") => `(tactic| (refine rd_case ?_); (first | (refine rd_phit (SqT.of (by assumption)) rfl ?_) | (refine rd_pmiss (SqT.of (by assumption)) (by simp) ?_)); (walk_at "pm"))

section
variable {P : Program} {w : World} {K : PySem.W.Frag} {mg : Str → Option Value} {base : Heap} {J : Cls'} {f : Addr} {fd : FuncData} {H H0 : Hp} {me cs lo a : Addr} {d : Nat} {pre post : List Int} {tc : Tr} {ob : HO} {c : Nd} {m : Mt}
theorem st_ahead {f : Nat} {k : Kd} {o o' : Ow} {c : Nd} {m m' : Mt} {r r0 : Rs} {x' : Nd} (ho : o.over = false) (ha : ahead k o = some (r0, o')) (h : draw f (.st k o c) m = some (r, x', m')) : r = r0 ∧ x' = .st k (o'.fin r0) c ∧ m' = m := by
  cases f with
  | zero => simp only [draw] at h; cases h
  | succ f =>
    rw [draw_st, if_neg (by rw [ho]; decide), ha] at h
    cases h
    exact ⟨rfl, rfl, rfl⟩
theorem Mid.put (S : Sep me cs lo (.st a tc)) (M : Mid J d me cs lo pre post a tc ob c m H0 H) (ob' : HO) (h : fixd ob = false := by rfl) : Mid J d me cs lo pre post a tc ob' c m H0 (upd H a ob') :=
  ⟨upd_same, M.nd.fr (Fr.put (S := [a]) (by simp) (nt M.ob h)) (fun b hb q => by rw [List.mem_singleton] at q; rw [q] at hb; exact S.dj.1 hb), M.mt.put S.ad, M.inv, M.dep, M.bk, M.al, M.fr.putN (.inl List.mem_cons_self) (nt M.ob h)⟩
theorem sc_Unlike_work : FnScope ["self", "number"] ["self"] (defScope s_Unlike_work) := ⟨rfl, rfl, rfl, by decide +kernel, rfl, by decide +kernel, by decide +kernel⟩
theorem ok_Unlike_work (D : Apart J) (T : Txt K mg) (N : NodeF K J) (F : FnP K "work" "Unlike.work" s_Unlike_work f fd)
    (G_draw : ∀ C, DrawC J C → CalM P w K mg base (L2.CX P w) (2 * d + 2) C "draw" ["self"] (spDraw J d C)) :
    FnOk P w K mg base (L2.CX P w) (2 * d + 3) f fd ["self"] (spWork J (d + 1) J.unlike) := by
  refine okX F sc_Unlike_work (fun vs H Q E h => h.len) (fun cdv A outer s H vs Q E hr h px tk po => ?_)
  · obtain ⟨me, cs, lo, pre, post, t, x, m, f, r, x', m', rfl, hx, hd, G⟩ := h
    obtain ⟨o, c, rfl⟩ := cls_unlike D hx
    have hC : DrawC J J.unlike := .inr (.inr (.inr (.inr (.inr (.inr (.inr (.inr (.inl rfl))))))))
    have ca := N.c _ hC
    obtain ⟨a, tc, dx, fs, rfl, e, ⟨v, rfl, hv⟩, nc⟩ := G.nd.st
    obtain rfl := hv G.ov
    have hi : (0 < o.told ↔ o.last.isSome = true) := G.inv.2.1
    have M := G.mid e
    obtain ⟨f0, rc, c', m1, rfl, hc, st⟩ := st_step G.ov rfl hd
    refine ⟨_, (pss_cons (ps_set (i := 1) sc_Unlike_work.nd rfl (Or.inl rfl) (pe_dyn0 (pe_fld (pv 0) rfl) G_draw (hr.mono (by omega)) px))
  (pss_cons (ps_while po (PW.pt (pw_and (pt_cmpR op_notN (pv 1) pe_non (nomark _)) (pw_and1 (pt_cmpR op_eq (pv 1) (pe_fld (pv 0) rfl) (nomark _)))))
    (pss_one (ps_set (i := 1) sc_Unlike_work.nd rfl (Or.inl rfl) (pe_dyn0 (pe_fld (pv 0) rfl) G_draw (hr.mono (by omega)) px))))
  (pss_cons (ps_fld (pv 0) (pv 1) rfl)
  (pss_one (ps_ret (pv 1)))))), ?_⟩
    try dsimp only [cxOf, Cx.nox, Cx.wish]
    refine rd_at (σ' := [some (.ref a), none]) rfl ?_
    walk_at "go"
    refine rd_dyn ?_
    walk_at "go"
    refine rd_sf rfl e ca (N.na_ahead _ hC) rfl ?_
    obtain ⟨dc, fc, ec, lc⟩ := nc.obj
    refine rd_d (c.cls_draw J) ec lc ?_
    refine ⟨me, cs, lo, pre, post, tc, c, m, f0, rc, c', m1, rfl, rfl, hc, M.askR G.sep hc (fun hl H' M' => ?_) (fun hn H' M' f' => ?_)⟩
    · walk_at "go"
      refine ⟨fun f0 σ H' => ∃ rc c' m1, σ = [some (.ref a), some (resV rc)] ∧ rc ≠ .long ∧ Mid J d me cs lo pre post a tc (.ins J.unlike dx [("ahead", .ref tc.ad), ("ended", .bl false), ("last", optV o.last)]) c' m1 H H' ∧ Step f0 .unlike o r x' m' c' m1 rc, ⟨f0, rc, c', m1, rfl, hl, M', st⟩, ?_⟩
      clear st M' hl H' hc m1 c' rc f0 hd
      rintro f0 σ H' ⟨rc, c', m1, rfl, hl, M', st⟩
      have e' := M'.ob
      walk_at "go"
      refine ⟨rfl, ?_⟩
      walk_at "go"
      cases rc with
      | long => exact absurd rfl hl
      | fin =>
        obtain ⟨rfl, rfl, rfl⟩ := st
        refine rd_NF rfl ?_
        walk_at "go"
        refine rd_fset ?_
        walk_at "go"
        refine rd_st e' ca (N.na_last _ hC) (by show 3 < 1000; omega) ?_
        walk_at "go"
        have M2 := M'.put G.sep (.ins J.unlike dx [("ahead", .ref tc.ad), ("ended", .bl false), ("last", .non)])
        exact G.fin rfl _ (Mid.toW (k := .unlike) M2 ⟨_, rfl, fun z => by cases z⟩) M2.mt M2.fr
      | num n =>
        refine rd_NT (fun z => by cases z) ?_
        walk_at "go"
        refine rd_sf rfl e' ca (N.na_last _ hC) rfl ?_
        refine rd_eq (by cases o.last <;> rfl) ?_
        walk_at "go"
        by_cases c0 : o.last = some n
        · refine rd_T (by rw [c0]; rfl) ?_
          have ag := step_again (o' := o) st (if_pos ⟨hi.mpr (by rw [c0]; rfl), c0⟩)
          obtain ⟨f1, rc1, c1, m1', rfl, hc1, st1⟩ := st_step G.ov rfl ag
          refine ⟨_, fun σ' H' z => ⟨f1, Nat.lt_succ_self _, z⟩, ?_⟩
          walk_at "go"
          refine rd_dyn ?_
          walk_at "go"
          refine rd_sf rfl e' ca (N.na_ahead _ hC) rfl ?_
          obtain ⟨dc, fc, ec, lc⟩ := M'.nd.obj
          refine rd_d (c'.cls_draw J) ec lc ?_
          refine ⟨me, cs, lo, pre, post, tc, c', m1, f1, rc1, c1, m1', rfl, rfl, hc1, M'.askR G.sep hc1 (fun hl H'' M'' => ?_) (fun hn H'' M'' f' => ?_)⟩
          · walk_at "go"
            exact ⟨rc1, c1, m1', rfl, hl, M'', st1⟩
          · subst hn
            obtain ⟨rfl, rfl, rfl⟩ := st1
            exact G.long rfl H'' M'' f'
        · obtain ⟨rfl, rfl, rfl⟩ := step_tell (v := n) (o' := o) st (if_neg fun z => c0 z.2)
          refine rd_F (fun z => c0 ?_) ?_
          · cases q : o.last with
            | none => rw [q] at z; cases z
            | some l => rw [q] at z; cases z; rfl
          walk_at "go"
          refine rd_fset ?_
          walk_at "go"
          refine rd_st e' ca (N.na_last _ hC) (by show 3 < 1000; omega) ?_
          walk_at "go"
          have M2 := M'.put G.sep (.ins J.unlike dx [("ahead", .ref tc.ad), ("ended", .bl false), ("last", .int n)])
          exact G.num _ rfl _ (Mid.toW (k := .unlike) M2 ⟨_, rfl, fun z => rfl⟩) M2.mt M2.fr
    · subst hn
      obtain ⟨rfl, rfl, rfl⟩ := st
      exact G.long rfl H' M' f'
theorem sc_Until_work : FnScope ["self", "number"] ["self"] (defScope s_Until_work) := ⟨rfl, rfl, rfl, by decide +kernel, rfl, by decide +kernel, by decide +kernel⟩
theorem ok_Until_work (D : Apart J) (T : Txt K mg) (N : NodeF K J)
    (G_undone : CalM P w K mg base CX0 1 J.meter "note_undone" ["self", "number"] (spUndone J)) (F : FnP K "work" "Until.work" s_Until_work f fd)
    (G_draw : ∀ C, DrawC J C → CalM P w K mg base (L2.CX P w) (2 * d + 2) C "draw" ["self"] (spDraw J d C)) :
    FnOk P w K mg base (L2.CX P w) (2 * d + 3) f fd ["self"] (spWork J (d + 1) J.until') := by
  refine okX F sc_Until_work (fun vs H Q E h => h.len) (fun cdv A outer s H vs Q E hr h px tk po => ?_)
  · obtain ⟨me, cs, lo, pre, post, t, x, m, f, r, x', m', rfl, hx, hd, G⟩ := h
    obtain ⟨n0, o, c, rfl⟩ := cls_until D hx
    have hC : DrawC J J.until' := .inr (.inr (.inr (.inr (.inr (.inr (.inr (.inl rfl)))))))
    have ca := N.c _ hC
    obtain ⟨a, tc, dx, fs, rfl, e, rfl, nc⟩ := G.nd.st
    have M := G.mid e
    obtain ⟨f0, rc, c', m1, rfl, hc, st⟩ := st_step G.ov rfl hd
    refine ⟨_, (pss_cons (ps_set (i := 1) sc_Until_work.nd rfl (Or.inl rfl) (pe_dyn0 (pe_fld (pv 0) rfl) G_draw (hr.mono (by omega)) px))
  (pss_cons (ps_if (PW.pt (pw_or (pt_cmpR op_isN (pv 1) pe_non (nomark _)) (pw_or1 (pt_cmpR op_lt (pv 1) (pe_fld (pv 0) rfl) (nomark _)))))
    (pss_one (ps_ret (pv 1))) pss_nil)
  (pss_cons (ps_expr (pe_cm (pe_fld (pv 0) rfl) G_undone (hr.mono (by omega)) pass0 (pa_cons (pv 1) pa_nil)))
  (pss_one (ps_ret pe_non))))), ?_⟩
    try dsimp only [cxOf, Cx.nox, Cx.wish]
    refine rd_at (σ' := [some (.ref a), none]) rfl ?_
    walk_at "go"
    refine rd_dyn ?_
    walk_at "go"
    refine rd_sf rfl e ca (N.na_ahead _ hC) rfl ?_
    obtain ⟨dc, fc, ec, lc⟩ := nc.obj
    refine rd_d (c.cls_draw J) ec lc ?_
    refine ⟨me, cs, lo, pre, post, tc, c, m, f0, rc, c', m1, rfl, rfl, hc, M.ask G.sep hc (fun n hn H' M' => ?_) (fun hn H' M' => ?_) (fun hn H' M' f' => ?_)⟩
    · subst hn
      have e' := M'.ob
      walk_at "go"
      refine ⟨rfl, ?_⟩
      walk_at "go"
      refine rd_F (fun z => by cases z) ?_
      walk_at "go"
      refine rd_sf rfl e' ca (N.na_n _ hC) rfl ?_
      walk_at "go"
      refine rd_dec (fun c0 => ?_) (fun c0 => ?_)
      · obtain ⟨rfl, rfl, rfl⟩ := step_tell (v := n) (o' := o) st (if_neg (by omega))
        walk_at "go"
        exact G.num _ rfl _ (Mid.toW (k := .until n0) M' rfl) M'.mt M'.fr
      · obtain ⟨rfl, rfl, rfl⟩ := step_stop st (if_pos (by omega))
        walk_at "go"
        refine rd_meth ?_
        refine rd_sf rfl e' ca (N.na_meter _ hC) rfl ?_
        obtain ⟨⟨dm, e0⟩, _, _⟩ := id M'.mt
        refine rd_m e0 rfl ?_
        walk_at "go"
        refine ⟨me, cs, lo, m1, _, n, rfl, M'.mt, G.sep.n1, G.sep.n2, G.sep.n3, by have := M'.al; omega, fun H2 mt2 f2 => ?_⟩
        walk_at "go"
        refine G.fin rfl _ ⟨⟨_, ⟨dx, f2.at e' ?_⟩, rfl⟩, M'.nd.fr f2 fun b hb q => ?_⟩ mt2 (M'.fr.tr (f2.mono fun b hb => in1 hb))
        · have := G.sep.ad
          simp only [Tr.ad] at this
          simpa using this.2.2
        · rw [List.mem_singleton] at q
          rw [q] at hb
          exact G.sep.st.hlo hb
    · subst hn
      obtain ⟨rfl, rfl, rfl⟩ := st
      walk_at "go"
      refine ⟨rfl, ?_⟩
      walk_at "go"
      refine rd_T rfl ?_
      walk_at "go"
      exact G.fin rfl _ (Mid.toW (k := .until n0) M' rfl) M'.mt M'.fr
    · subst hn
      obtain ⟨rfl, rfl, rfl⟩ := st
      exact G.long rfl H' M' f'
theorem sc_Take_work : FnScope ["self"] ["self"] (defScope s_Take_work) := ⟨rfl, rfl, rfl, by decide +kernel, rfl, by decide +kernel, by decide +kernel⟩
theorem ok_Take_work (D : Apart J) (T : Txt K mg) (N : NodeF K J) (F : FnP K "work" "Take.work" s_Take_work f fd)
    (G_draw : ∀ C, DrawC J C → CalM P w K mg base (L2.CX P w) (2 * d + 2) C "draw" ["self"] (spDraw J d C)) :
    FnOk P w K mg base (L2.CX P w) (2 * d + 3) f fd ["self"] (spWork J (d + 1) J.take) := by
  refine okX F sc_Take_work (fun vs H Q E h => h.len) (fun cdv A outer s H vs Q E hr h px tk po => ?_)
  · obtain ⟨me, cs, lo, pre, post, t, x, m, f, r, x', m', rfl, hx, hd, G⟩ := h
    obtain ⟨kk, o, c, rfl⟩ := cls_take D hx
    have hC : DrawC J J.take := .inr (.inr (.inr (.inr (.inr (.inl rfl)))))
    have ca := N.c _ hC
    obtain ⟨a, tc, dx, fs, rfl, e, ⟨l, rfl, hl⟩, nc⟩ := G.nd.st
    obtain rfl := hl G.ov
    have M := G.mid e
    refine ⟨_, (pss_cons (ps_if (pt_cmpR op_eq (pe_fld (pv 0) rfl) pe_int (nomark _))
    (pss_one (ps_ret pe_non)) pss_nil)
  (pss_cons (ps_fldaug (pv 0) pe_int in_sub)
  (pss_one (ps_ret (pe_dyn0 (pe_fld (pv 0) rfl) G_draw (hr.mono (by omega)) px))))), ?_⟩
    try dsimp only [cxOf, Cx.nox, Cx.wish]
    refine rd_at (σ' := [some (.ref a)]) rfl ?_
    walk_at "go"
    refine rd_sf rfl e ca (N.na_left _ hC) rfl ?_
    walk_at "go"
    refine rd_dec (fun c0 => ?_) (fun c0 => ?_)
    · have c1 : (o.told : Int) = kk := by have := V.int.inj c0; omega
      have ha : ahead (.take kk) o = some (.fin, o) := if_pos c1
      obtain ⟨rfl, rfl, rfl⟩ := st_ahead G.ov ha hd
      walk_at "go"
      exact G.fin rfl _ (Mid.toW (k := .take kk) M ⟨_, rfl, fun z => by cases z⟩) M.mt M.fr
    · have c1 : ¬ (o.told : Int) = kk := fun z => c0 (by rw [z, Int.sub_self])
      have ha : ahead (.take kk) o = none := if_neg c1
      obtain ⟨f0, rc, c', m1, rfl, hc, st⟩ := st_step G.ov ha hd
      walk_at "go"
      refine rd_faug rfl e ca (N.na_left _ hC) rfl ?_
      walk_at "go"
      refine ⟨_, _, rfl, rfl, dx, _, e, by show 3 < 1000; omega, ?_⟩
      have M2 := M.put G.sep (.ins J.take dx [("ahead", .ref tc.ad), ("ended", .bl false), ("left", .int (kk - o.told - 1))])
      have e2 := M2.ob
      walk_at "go"
      refine rd_dyn ?_
      refine rd_sf rfl e2 ca (N.na_ahead _ hC) rfl ?_
      obtain ⟨dc, fc, ec, lc⟩ := M2.nd.obj
      refine rd_d (c.cls_draw J) ec lc ?_
      refine ⟨me, cs, lo, pre, post, tc, c, m, f0, rc, c', m1, rfl, rfl, hc, M2.ask G.sep hc (fun n hn H' M' => ?_) (fun hn H' M' => ?_) (fun hn H' M' f' => ?_)⟩
      · subst hn
        obtain ⟨rfl, rfl, rfl⟩ := step_tell (v := n) (o' := o) st rfl
        exact G.num _ rfl _ (Mid.toW (k := .take kk) M' ⟨_, rfl, fun _ => by show kk - o.told - 1 = kk - ((o.told + 1 : Nat) : Int); omega⟩) M'.mt M'.fr
      · subst hn
        obtain ⟨rfl, rfl, rfl⟩ := st
        exact G.fin rfl _ (Mid.toW (k := .take kk) M' ⟨_, rfl, fun z => by cases z⟩) M'.mt M'.fr
      · subst hn
        obtain ⟨rfl, rfl, rfl⟩ := st
        exact G.long rfl H' M' f'
end
end Dc

set_option Elab.async false
set_option linter.all false
set_option maxRecDepth 100000
set_option maxHeartbeats 2000000
namespace Dc
open PySem PySem.Spec PyProof.Rows L2
local macro_rules | `(tactic| walk_at "ne") => `(tactic| first | assumption | (refine Ne.symm ?_; assumption) | exact ne_of (by assumption) (by assumption) (by intro q; cases q) | exact ne_of_none (by assumption) (by assumption) | exact Ne.symm (ne_of_none (by assumption) (by assumption)))
local macro_rules | `(tactic| walk_at "hp") => `(tactic| first | assumption | exact upd_same | (refine upd_keep ?_ (by assumption); walk_at "hp") | (refine upd_other ?_ ?_; · walk_at "ne"; · walk_at "hp"))
local macro_rules | `(tactic| walk_at "hl") => `(tactic| first | assumption | exact SqL.of (by walk_at "hp"))
local macro_rules | `(tactic| walk_at "ht") => `(tactic| first | assumption | exact SqT.of (by walk_at "hp"))
local macro_rules | `(tactic| walk_at "rd1") => `(tactic| first
  | ((with_reducible apply rd_var); exact rfl)
  | ((with_reducible apply rd_eq); exact rfl) | ((with_reducible apply rd_ne); exact rfl)
  | with_reducible first
  | refine iteT ?_ | refine iteF ?_ | refine rd_nF ?_ | refine rd_nT ?_ | refine rd_yes ?_ | refine rd_c ?_ | refine rd_op ?_ | refine rd_un ?_ | refine rd_test ?_ | refine rd_B ?_ | refine rd_bl ?_ | refine rd_seq ?_ | refine rd_next ?_ | refine rd_ifs ?_ | refine rd_asg ?_ | refine rd_name ?_ | refine rd_ret ?_ | refine rd_drop ?_
  | refine rd_call ?_ | refine rd_cons ?_ | refine rd_nil ?_ | refine rd_cb ?_ | refine rd_I0 ?_ | refine rd_U ?_ | refine rd_gsub ?_ | refine rd_lst ?_ | refine rd_tup ?_ | refine rd_if ?_ | refine rd_not ?_ | refine rd_rng1 ?_ | refine rd_itup ?_ | refine rd_ilst ?_ | refine rd_bm ?_ | refine rd_bm0 ?_ | refine rd_andV ?_ | refine rd_orV ?_ | refine rd_notV ?_)
local macro_rules | `(tactic| walk_at "rd") => `(tactic| repeat walk_at "rd1")
local macro_rules | `(tactic| walk_at "ci") => `(tactic| first | assumption | (show (0 : Int) < _; first | decide | omega) | exact ⟨by decide, by decide⟩ | exact Or.inr ⟨by decide, by decide⟩ | exact Or.inl ⟨by decide, by decide⟩ | exact ⟨by decide, by decide, by decide⟩ | exact Or.inl ⟨by omega, by omega⟩ | exact Or.inr ⟨by omega, by omega⟩)
local macro_rules | `(tactic| walk_at "ix") => `(tactic| first
  | ((with_reducible apply rd_ixL); (walk_at "hl"); exact rfl)
  | ((with_reducible apply rd_ixT); (walk_at "ht"); exact rfl)
  | ((with_reducible apply rd_lenL); (walk_at "hl"))
  | ((with_reducible apply rd_lenT); (walk_at "ht"))
  | ((with_reducible apply rd_tupOf); (walk_at "hl"))
  | ((with_reducible apply rd_listOf); (walk_at "hl"))
  | (with_reducible refine rd_min2 ?_)
  | ((with_reducible apply rd_I); (walk_at "ci"))
  | ((with_reducible apply rd_setL); (walk_at "hp"); exact rfl))
local macro_rules | `(tactic| walk_at "gs") => `(tactic| repeat first | walk_at "rd1" | walk_at "ix")
local macro_rules | `(tactic| walk_at "go") => `(tactic| repeat first | walk_at "rd1" | walk_at "ix" | with_reducible refine rd_and ?_ | with_reducible refine rd_or ?_)
local macro_rules | `(tactic| walk_at "fo") => `(tactic| (with_reducible refine rd_for ?_))
local macro_rules | `(tactic| walk_at "pm") => `(tactic| repeat first
  | with_reducible first | refine rd_pcons ?_ | refine rd_pstr ?_ | refine rd_pcap ?_ | refine rd_pwild ?_ | refine rd_pnil ?_ | refine rd_por ?_ | refine rd_pno ?_
  | ((with_reducible refine rd_eq rfl ?_); refine ⟨_, rfl, ?_⟩; first | refine rd_T rfl ?_ | refine rd_F (by decide) ?_)
  | dsimp only [List.nil_append, List.singleton_append, List.cons_append, setAll])
local macro_rules | `(tactic| walk_at "pc") => `(tactic| (refine rd_case ?_); (first | (refine rd_phit (SqT.of (by assumption)) rfl ?_) | (refine rd_pmiss (SqT.of (by assumption)) (by simp) ?_)); (walk_at "pm"))

section
variable {P : Program} {w : World} {K : PySem.W.Frag} {mg : Str → Option Value} {base : Heap} {J : Cls'} {f : Addr} {fd : FuncData} {H H0 : Hp} {me cs lo a : Addr} {d : Nat} {pre post : List Int} {tc : Tr} {ob : HO} {c : Nd} {m : Mt}
theorem sc_Drop_work : FnScope ["self"] ["self"] (defScope s_Drop_work) := ⟨rfl, rfl, rfl, by decide +kernel, rfl, by decide +kernel, by decide +kernel⟩
theorem ok_Drop_work (D : Apart J) (T : Txt K mg) (N : NodeF K J) (F : FnP K "work" "Drop.work" s_Drop_work f fd)
    (G_draw : ∀ C, DrawC J C → CalM P w K mg base (L2.CX P w) (2 * d + 2) C "draw" ["self"] (spDraw J d C)) :
    FnOk P w K mg base (L2.CX P w) (2 * d + 3) f fd ["self"] (spWork J (d + 1) J.drop) := by
  refine okX F sc_Drop_work (fun vs H Q E h => h.len) (fun cdv A outer s H vs Q E hr h px tk po => ?_)
  · obtain ⟨me, cs, lo, pre, post, t, x, m, f, r, x', m', rfl, hx, hd, G⟩ := h
    obtain ⟨kk, o, c, rfl⟩ := cls_drop D hx
    have hC : DrawC J J.drop := .inr (.inr (.inr (.inr (.inl rfl))))
    have ca := N.c _ hC
    obtain ⟨a, tc, dx, fs, rfl, e, ⟨l, rfl, hv⟩, nc⟩ := G.nd.st
    have hl := hv G.ov
    have M := G.mid e
    have GN := G.num
    have GF := G.fin
    have GL := G.long
    have hov : o.over = false := G.ov
    have S := G.sep
    clear G nc hv e
    refine ⟨_, (pss_cons (ps_while po (pt_cmpR op_gt (pe_fld (pv 0) rfl) pe_int (nomark _))
    (pss_cons (ps_if (pt_cmpR op_isN (pe_dyn0 (pe_fld (pv 0) rfl) G_draw (hr.mono (by omega)) px) pe_non (nomark _))
      (pss_one (ps_ret pe_non)) pss_nil)
    (pss_one (ps_fldaug (pv 0) pe_int in_sub))))
  (pss_one (ps_ret (pe_dyn0 (pe_fld (pv 0) rfl) G_draw (hr.mono (by omega)) px)))), ?_⟩
    try dsimp only [cxOf, Cx.nox, Cx.wish]
    refine rd_at (σ' := [some (.ref a)]) rfl ?_
    walk_at "go"
    refine ⟨fun f0 σ H' => ∃ (o : Ow) (c : Nd) (m1 : Mt) (l : Int), σ = [some (.ref a)] ∧ o.over = false ∧ (0 ≤ l ∧ ((l = 0 ∧ kk ≤ o.left) ∨ l = kk - o.left)) ∧ Mid J d me cs lo pre post a tc (.ins J.drop dx [("ahead", .ref tc.ad), ("ended", .bl false), ("left", .int l)]) c m1 H H' ∧ draw f0 (.st (.drop kk) o c) m1 = some (r, x', m'), ⟨f, o, c, m, l, rfl, hov, hl, M, hd⟩, ?_⟩
    clear M hl hov hd l m hx c o f
    rintro f0 σ H' ⟨o, c, m1, l, rfl, hov, hl, M', hd⟩
    have e' := M'.ob
    obtain ⟨f1, rc1, c1, m1', rfl, hc1, st1⟩ := st_step hov rfl hd
    have hp : ∀ n, pass (.drop kk) o n = if o.left + 1 ≤ kk then .again { o with left := o.left + 1 } else .tell n { o with left := o.left + 1 } := fun n => rfl
    walk_at "go"
    refine rd_sf rfl e' ca (N.na_left _ hC) rfl ?_
    walk_at "go"
    refine rd_dec (fun c0 => ?_) (fun c0 => ?_)
    · refine ⟨_, fun σ' H' z => ⟨f1, Nat.lt_succ_self _, z⟩, ?_⟩
      walk_at "go"
      refine rd_dyn ?_
      refine rd_sf rfl e' ca (N.na_ahead _ hC) rfl ?_
      obtain ⟨dc, fc, ec, lc⟩ := M'.nd.obj
      refine rd_d (c.cls_draw J) ec lc ?_
      refine ⟨me, cs, lo, pre, post, tc, c, m1, f1, rc1, c1, m1', rfl, rfl, hc1, M'.ask S hc1 (fun n hn H'' M'' => ?_) (fun hn H'' M'' => ?_) (fun hn H'' M'' f' => ?_)⟩
      · subst hn
        have ag := step_again (o' := { o with left := o.left + 1 }) st1 (by rw [hp]; exact if_pos (by omega))
        have e2 := M''.ob
        walk_at "go"
        refine ⟨rfl, ?_⟩
        walk_at "go"
        refine rd_F (fun z => by cases z) ?_
        walk_at "go"
        refine rd_faug rfl e2 ca (N.na_left _ hC) rfl ?_
        walk_at "go"
        refine ⟨_, _, rfl, rfl, dx, _, e2, by show 3 < 1000; omega, ?_⟩
        exact ⟨{ o with left := o.left + 1 }, c1, m1', l - 1, rfl, hov, ⟨by omega, .inr (by show l - 1 = kk - (o.left + 1); omega)⟩, M''.put S (.ins J.drop dx [("ahead", .ref tc.ad), ("ended", .bl false), ("left", .int (l - 1))]), ag⟩
      · subst hn
        obtain ⟨rfl, rfl, rfl⟩ := st1
        walk_at "go"
        refine ⟨rfl, ?_⟩
        walk_at "go"
        refine rd_T rfl ?_
        walk_at "go"
        exact GF rfl _ (Mid.toW (k := .drop kk) M'' ⟨_, rfl, fun z => by cases z⟩) M''.mt M''.fr
      · subst hn
        obtain ⟨rfl, rfl, rfl⟩ := st1
        exact GL rfl H'' M'' f'
    · walk_at "go"
      refine rd_dyn ?_
      refine rd_sf rfl e' ca (N.na_ahead _ hC) rfl ?_
      obtain ⟨dc, fc, ec, lc⟩ := M'.nd.obj
      refine rd_d (c.cls_draw J) ec lc ?_
      refine ⟨me, cs, lo, pre, post, tc, c, m1, f1, rc1, c1, m1', rfl, rfl, hc1, M'.ask S hc1 (fun n hn H'' M'' => ?_) (fun hn H'' M'' => ?_) (fun hn H'' M'' f' => ?_)⟩
      · subst hn
        obtain ⟨rfl, rfl, rfl⟩ := step_tell (v := n) (o' := { o with left := o.left + 1 }) st1 (by rw [hp]; exact if_neg (by omega))
        exact GN _ rfl _ (Mid.toW (k := .drop kk) M'' ⟨_, rfl, fun _ => ⟨hl.1, .inl ⟨by omega, by show kk ≤ o.left + 1; omega⟩⟩⟩) M''.mt M''.fr
      · subst hn
        obtain ⟨rfl, rfl, rfl⟩ := st1
        exact GF rfl _ (Mid.toW (k := .drop kk) M'' ⟨_, rfl, fun z => by cases z⟩) M''.mt M''.fr
      · subst hn
        obtain ⟨rfl, rfl, rfl⟩ := st1
        exact GL rfl H'' M'' f'
theorem sc_Each_work : FnScope ["self"] ["self"] (defScope s_Each_work) := ⟨rfl, rfl, rfl, by decide +kernel, rfl, by decide +kernel, by decide +kernel⟩
theorem ok_Each_work (D : Apart J) (T : Txt K mg) (N : NodeF K J) (F : FnP K "work" "Each.work" s_Each_work f fd)
    (G_draw : ∀ C, DrawC J C → CalM P w K mg base (L2.CX P w) (2 * d + 2) C "draw" ["self"] (spDraw J d C)) :
    FnOk P w K mg base (L2.CX P w) (2 * d + 3) f fd ["self"] (spWork J (d + 1) J.each) := by
  refine okX F sc_Each_work (fun vs H Q E h => h.len) (fun cdv A outer s H vs Q E hr h px tk po => ?_)
  · obtain ⟨me, cs, lo, pre, post, t, x, m, f, r, x', m', rfl, hx, hd, G⟩ := h
    obtain ⟨kk, o, c, rfl⟩ := cls_each D hx
    have hC : DrawC J J.each := .inr (.inr (.inr (.inr (.inr (.inr (.inl rfl))))))
    have ca := N.c _ hC
    obtain ⟨a, tc, dx, fs, rfl, e, ⟨l, v, rfl, hl⟩, nc⟩ := G.nd.st
    obtain ⟨rfl, hv⟩ := hl G.ov
    obtain ⟨i1, i2, i3⟩ := G.inv.2.1
    have M := G.mid e
    refine ⟨_, (pss_cons (ps_if (pt_cmpR op_eq (pe_fld (pv 0) rfl) pe_int (nomark _))
    (pss_cons (ps_fld (pv 0) (pe_dyn0 (pe_fld (pv 0) rfl) G_draw (hr.mono (by omega)) px) rfl)
    (pss_one (ps_fld (pv 0) (pe_fld (pv 0) rfl) rfl))) pss_nil)
  (pss_cons (ps_fldaug (pv 0) pe_int in_sub)
  (pss_one (ps_ret (pe_fld (pv 0) rfl))))), ?_⟩
    try dsimp only [cxOf, Cx.nox, Cx.wish]
    refine rd_at (σ' := [some (.ref a)]) rfl ?_
    walk_at "go"
    refine rd_sf rfl e ca (N.na_left _ hC) rfl ?_
    walk_at "go"
    refine rd_dec (fun c0 => ?_) (fun c0 => ?_)
    · have c1 : ¬ 0 < o.left := by have := V.int.inj c0; omega
      have ha : ahead (.each kk) o = none := if_neg c1
      obtain ⟨f0, rc, c', m1, rfl, hc, st⟩ := st_step G.ov ha hd
      walk_at "go"
      refine rd_fset ?_
      refine rd_dyn ?_
      refine rd_sf rfl e ca (N.na_ahead _ hC) rfl ?_
      obtain ⟨dc, fc, ec, lc⟩ := M.nd.obj
      refine rd_d (c.cls_draw J) ec lc ?_
      refine ⟨me, cs, lo, pre, post, tc, c, m, f0, rc, c', m1, rfl, rfl, hc, M.askR G.sep hc (fun hl H' M' => ?_) (fun hn H' M' f' => ?_)⟩
      · have e' := M'.ob
        walk_at "go"
        refine rd_st e' ca (N.na_number _ hC) (by show 5 < 1000; omega) ?_
        have M2 := M'.put G.sep (.ins J.each dx [("ahead", .ref tc.ad), ("ended", .bl false), ("many", .int kk), ("left", .int o.left), ("number", resV rc)])
        have e2 := M2.ob
        walk_at "go"
        dsimp only
        refine rd_fset ?_
        refine rd_sf rfl e2 ca (N.na_many _ hC) rfl ?_
        walk_at "go"
        refine rd_st e2 ca (N.na_left _ hC) (by show 5 < 1000; omega) ?_
        have M3 := M2.put G.sep (.ins J.each dx [("ahead", .ref tc.ad), ("ended", .bl false), ("many", .int kk), ("left", .int kk), ("number", resV rc)])
        have e3 := M3.ob
        walk_at "go"
        refine rd_faug rfl e3 ca (N.na_left _ hC) rfl ?_
        walk_at "go"
        refine ⟨_, _, rfl, rfl, dx, _, e3, by show 5 < 1000; omega, ?_⟩
        have M4 := M3.put G.sep (.ins J.each dx [("ahead", .ref tc.ad), ("ended", .bl false), ("many", .int kk), ("left", .int (kk - 1)), ("number", resV rc)])
        have e4 := M4.ob
        walk_at "go"
        refine rd_sf rfl e4 ca (N.na_number _ hC) rfl ?_
        cases rc with
        | long => exact absurd rfl hl
        | num n =>
          obtain ⟨rfl, rfl, rfl⟩ := step_tell (v := n) (o' := { o with left := kk - 1 }) st rfl
          exact G.num _ rfl _ (Mid.toW (k := .each kk) M4 ⟨_, _, rfl, fun _ => ⟨rfl, fun _ => rfl⟩⟩) M4.mt M4.fr
        | fin =>
          obtain ⟨rfl, rfl, rfl⟩ := st
          exact G.fin rfl _ (Mid.toW (k := .each kk) M4 ⟨_, _, rfl, fun z => by cases z⟩) M4.mt M4.fr
      · subst hn
        obtain ⟨rfl, rfl, rfl⟩ := st
        exact G.long rfl H' M' f'
    · have c1 : 0 < o.left := by
        rcases Int.lt_or_eq_of_le i1 with q | q
        · exact q
        · exact absurd (by rw [← q]) c0
      have ha : ahead (.each kk) o = some (.num (o.last.getD 0), { o with left := o.left - 1 }) := if_pos c1
      obtain ⟨rfl, rfl, rfl⟩ := st_ahead G.ov ha hd
      obtain rfl := hv c1
      walk_at "go"
      refine rd_faug rfl e ca (N.na_left _ hC) rfl ?_
      walk_at "go"
      refine ⟨_, _, rfl, rfl, dx, _, e, by show 5 < 1000; omega, ?_⟩
      have M4 := M.put G.sep (.ins J.each dx [("ahead", .ref tc.ad), ("ended", .bl false), ("many", .int kk), ("left", .int (o.left - 1)), ("number", .int (o.last.getD 0))])
      have e4 := M4.ob
      walk_at "go"
      refine rd_sf rfl e4 ca (N.na_number _ hC) rfl ?_
      exact G.num _ rfl _ (Mid.toW (k := .each kk) M4 ⟨_, _, rfl, fun _ => ⟨rfl, fun _ => rfl⟩⟩) M4.mt M4.fr
end
end Dc

set_option Elab.async false
set_option linter.all false
set_option maxRecDepth 100000
set_option maxHeartbeats 2000000
namespace Dc
open PySem PySem.Spec PyProof.Rows L2
local macro_rules | `(tactic| walk_at "ne") => `(tactic| first | assumption | (refine Ne.symm ?_; assumption) | exact ne_of (by assumption) (by assumption) (by intro q; cases q) | exact ne_of_none (by assumption) (by assumption) | exact Ne.symm (ne_of_none (by assumption) (by assumption)))
local macro_rules | `(tactic| walk_at "hp") => `(tactic| first | assumption | exact upd_same | (refine upd_keep ?_ (by assumption); walk_at "hp") | (refine upd_other ?_ ?_; · walk_at "ne"; · walk_at "hp"))
local macro_rules | `(tactic| walk_at "hl") => `(tactic| first | assumption | exact SqL.of (by walk_at "hp"))
local macro_rules | `(tactic| walk_at "ht") => `(tactic| first | assumption | exact SqT.of (by walk_at "hp"))
local macro_rules | `(tactic| walk_at "rd1") => `(tactic| first
  | ((with_reducible apply rd_var); exact rfl)
  | ((with_reducible apply rd_eq); exact rfl) | ((with_reducible apply rd_ne); exact rfl)
  | with_reducible first
  | refine iteT ?_ | refine iteF ?_ | refine rd_nF ?_ | refine rd_nT ?_ | refine rd_yes ?_ | refine rd_c ?_ | refine rd_op ?_ | refine rd_un ?_ | refine rd_test ?_ | refine rd_B ?_ | refine rd_bl ?_ | refine rd_seq ?_ | refine rd_next ?_ | refine rd_ifs ?_ | refine rd_asg ?_ | refine rd_name ?_ | refine rd_ret ?_ | refine rd_drop ?_
  | refine rd_call ?_ | refine rd_cons ?_ | refine rd_nil ?_ | refine rd_cb ?_ | refine rd_I0 ?_ | refine rd_U ?_ | refine rd_gsub ?_ | refine rd_lst ?_ | refine rd_tup ?_ | refine rd_if ?_ | refine rd_not ?_ | refine rd_rng1 ?_ | refine rd_itup ?_ | refine rd_ilst ?_ | refine rd_bm ?_ | refine rd_bm0 ?_ | refine rd_andV ?_ | refine rd_orV ?_ | refine rd_notV ?_)
local macro_rules | `(tactic| walk_at "rd") => `(tactic| repeat walk_at "rd1")
local macro_rules | `(tactic| walk_at "ci") => `(tactic| first | assumption | (show (0 : Int) < _; first | decide | omega) | exact ⟨by decide, by decide⟩ | exact Or.inr ⟨by decide, by decide⟩ | exact Or.inl ⟨by decide, by decide⟩ | exact ⟨by decide, by decide, by decide⟩ | exact Or.inl ⟨by omega, by omega⟩ | exact Or.inr ⟨by omega, by omega⟩)
local macro_rules | `(tactic| walk_at "ix") => `(tactic| first
  | ((with_reducible apply rd_ixL); (walk_at "hl"); exact rfl)
  | ((with_reducible apply rd_ixT); (walk_at "ht"); exact rfl)
  | ((with_reducible apply rd_lenL); (walk_at "hl"))
  | ((with_reducible apply rd_lenT); (walk_at "ht"))
  | ((with_reducible apply rd_tupOf); (walk_at "hl"))
  | ((with_reducible apply rd_listOf); (walk_at "hl"))
  | (with_reducible refine rd_min2 ?_)
  | ((with_reducible apply rd_I); (walk_at "ci"))
  | ((with_reducible apply rd_setL); (walk_at "hp"); exact rfl))
local macro_rules | `(tactic| walk_at "gs") => `(tactic| repeat first | walk_at "rd1" | walk_at "ix")
local macro_rules | `(tactic| walk_at "go") => `(tactic| repeat first | walk_at "rd1" | walk_at "ix" | with_reducible refine rd_and ?_ | with_reducible refine rd_or ?_)
local macro_rules | `(tactic| walk_at "fo") => `(tactic| (with_reducible refine rd_for ?_))
local macro_rules | `(tactic| walk_at "pm") => `(tactic| repeat first
  | with_reducible first | refine rd_pcons ?_ | refine rd_pstr ?_ | refine rd_pcap ?_ | refine rd_pwild ?_ | refine rd_pnil ?_ | refine rd_por ?_ | refine rd_pno ?_
  | ((with_reducible refine rd_eq rfl ?_); refine ⟨_, rfl, ?_⟩; first | refine rd_T rfl ?_ | refine rd_F (by decide) ?_)
  | dsimp only [List.nil_append, List.singleton_append, List.cons_append, setAll])
local macro_rules | `(tactic| walk_at "pc") => `(tactic| (refine rd_case ?_); (first | (refine rd_phit (SqT.of (by assumption)) rfl ?_) | (refine rd_pmiss (SqT.of (by assumption)) (by simp) ?_)); (walk_at "pm"))

/-- amid the work of a stage of two chains -/
structure Mid2 (J : Cls') (d : Nat) (me cs lo : Addr) (pre post : List Int) (a : Addr) (tc td : Tr) (ob : HO) (c e : Nd) (m : Mt) (H0 H : Hp) : Prop where
  ob : H a = some ob
  nd1 : NdAt J H me pre.length c tc
  nd2 : NdAt J H me (pre.length + c.gv.length) e td
  mt : MetAt J H me cs lo m (pre ++ (c.gv ++ e.gv) ++ post)
  inv1 : c.inv
  inv2 : e.inv
  dep1 : c.dep ≤ d
  dep2 : e.dep ≤ d
  bk : m.book ≤ 200
  al : m.lost.length + (c.alive + e.alive) ≤ 999
  fr : Fr ((a :: (tc.ads ++ td.ads)) ++ [me, cs, lo]) H0 H
section
variable {P : Program} {w : World} {K : PySem.W.Frag} {mg : Str → Option Value} {base : Heap} {J : Cls'} {f : Addr} {fd : FuncData} {H H0 : Hp} {me cs lo a : Addr} {d : Nat} {pre post : List Int} {tc td : Tr} {ob : HO} {c e : Nd} {m : Mt}
theorem Sep.two1 (S : Sep me cs lo (.two a tc td)) : Sep me cs lo tc :=
  ⟨S.dj.2.2.2.1, fun h => S.hme (List.mem_cons_of_mem _ (List.mem_append_left _ h)), fun h => S.hcs (List.mem_cons_of_mem _ (List.mem_append_left _ h)), fun h => S.hlo (List.mem_cons_of_mem _ (List.mem_append_left _ h)), S.n1, S.n2, S.n3⟩
theorem Sep.two2 (S : Sep me cs lo (.two a tc td)) : Sep me cs lo td :=
  ⟨S.dj.2.2.2.2, fun h => S.hme (List.mem_cons_of_mem _ (List.mem_append_right _ h)), fun h => S.hcs (List.mem_cons_of_mem _ (List.mem_append_right _ h)), fun h => S.hlo (List.mem_cons_of_mem _ (List.mem_append_right _ h)), S.n1, S.n2, S.n3⟩
theorem Sep.out_of {t : Tr} {b : Addr} (S : Sep me cs lo t) (hb : b ∈ t.ads) {L : List Addr} (h : b ∉ L) : b ∉ L ++ [me, cs, lo] := by
  simp only [List.mem_append, List.mem_cons, List.not_mem_nil, or_false, not_or]
  refine ⟨h, fun z => S.hme (z ▸ hb), fun z => S.hcs (z ▸ hb), fun z => S.hlo (z ▸ hb)⟩
theorem Mid2.ask1 {f : Nat} {rc : Rs} {c' : Nd} {m1 : Mt} {Q : VK} {E : XK} (S : Sep me cs lo (.two a tc td)) (M : Mid2 J d me cs lo pre post a tc td ob c e m H0 H) (hd : draw f c m = some (rc, c', m1))
    (hnum : ∀ n, rc = .num n → ∀ H', Mid2 J d me cs lo pre post a tc td ob c' e m1 H0 H' → Q (.int n) H') (hfin : rc = .fin → ∀ H', Mid2 J d me cs lo pre post a tc td ob c' e m1 H0 H' → Q .non H')
    (hlong : rc = .long → ∀ H', MetAt J H' me cs lo m1 (pre ++ (c'.gv ++ e.gv) ++ post) → Fr ((a :: (tc.ads ++ td.ads)) ++ [me, cs, lo]) H0 H' → E (.ref J.long) none H') : Ask J d me cs lo pre (e.gv ++ post) tc c m rc c' m1 H Q E := by
  have F := draw_facts _ _ _ _ _ _ hd M.inv1 M.bk
  have L := draw_lost _ _ _ _ _ _ hd
  have fr : ∀ H', Fr (tc.ads ++ [me, cs, lo]) H H' → Fr ((a :: (tc.ads ++ td.ads)) ++ [me, cs, lo]) H0 H' := fun H' f' => M.fr.tr (f'.mono fun b hb => by
    rcases List.mem_append.mp hb with q | q
    · exact List.mem_append_left _ (List.mem_cons_of_mem _ (List.mem_append_left _ q))
    · exact List.mem_append_right _ q)
  have mid : ∀ H', NdAt J H' me pre.length c' tc → MetAt J H' me cs lo m1 (pre ++ c'.gv ++ (e.gv ++ post)) → Fr (tc.ads ++ [me, cs, lo]) H H' → Mid2 J d me cs lo pre post a tc td ob c' e m1 H0 H' := fun H' n' t' f' => by
    refine ⟨f'.at M.ob (S.out_of (b := a) List.mem_cons_self S.dj.1), n', ?_, by simpa using t', F.inv, M.inv2, by rw [L.2]; exact M.dep1, M.dep2, F.b2, by have := L.1; have := M.al; omega, fr H' f'⟩
    rw [F.gl]
    exact M.nd2.fr f' fun b hb => S.out_of (List.mem_cons_of_mem _ (List.mem_append_right _ hb)) fun q => S.dj.2.2.1 b q hb
  exact ⟨S.two1, M.nd1, by simpa using M.mt, M.inv1, M.dep1, M.bk, by have := M.al; omega, fun n e H' n' t' f' => hnum n e H' (mid H' n' t' f'), fun e H' n' t' f' => hfin e H' (mid H' n' t' f'), fun e H' t' f' => hlong e H' (by simpa using t') (fr H' f')⟩
theorem Mid2.ask2 {f : Nat} {rc : Rs} {e' : Nd} {m1 : Mt} {Q : VK} {E : XK} (S : Sep me cs lo (.two a tc td)) (M : Mid2 J d me cs lo pre post a tc td ob c e m H0 H) (hd : draw f e m = some (rc, e', m1))
    (hnum : ∀ n, rc = .num n → ∀ H', Mid2 J d me cs lo pre post a tc td ob c e' m1 H0 H' → Q (.int n) H') (hfin : rc = .fin → ∀ H', Mid2 J d me cs lo pre post a tc td ob c e' m1 H0 H' → Q .non H')
    (hlong : rc = .long → ∀ H', MetAt J H' me cs lo m1 (pre ++ (c.gv ++ e'.gv) ++ post) → Fr ((a :: (tc.ads ++ td.ads)) ++ [me, cs, lo]) H0 H' → E (.ref J.long) none H') : Ask J d me cs lo (pre ++ c.gv) post td e m rc e' m1 H Q E := by
  have F := draw_facts _ _ _ _ _ _ hd M.inv2 M.bk
  have L := draw_lost _ _ _ _ _ _ hd
  have fr : ∀ H', Fr (td.ads ++ [me, cs, lo]) H H' → Fr ((a :: (tc.ads ++ td.ads)) ++ [me, cs, lo]) H0 H' := fun H' f' => M.fr.tr (f'.mono fun b hb => by
    rcases List.mem_append.mp hb with q | q
    · exact List.mem_append_left _ (List.mem_cons_of_mem _ (List.mem_append_right _ q))
    · exact List.mem_append_right _ q)
  have mid : ∀ H', NdAt J H' me (pre ++ c.gv).length e' td → MetAt J H' me cs lo m1 (pre ++ c.gv ++ e'.gv ++ post) → Fr (td.ads ++ [me, cs, lo]) H H' → Mid2 J d me cs lo pre post a tc td ob c e' m1 H0 H' := fun H' n' t' f' => by
    refine ⟨f'.at M.ob (S.out_of (b := a) List.mem_cons_self S.dj.2.1), ?_, by rw [List.length_append] at n'; exact n', by simpa using t', M.inv1, F.inv, M.dep1, by rw [L.2]; exact M.dep2, F.b2, by have := L.1; have := M.al; omega, fr H' f'⟩
    exact M.nd1.fr f' fun b hb => S.out_of (List.mem_cons_of_mem _ (List.mem_append_left _ hb)) fun q => S.dj.2.2.1 b hb q
  exact ⟨S.two2, by rw [List.length_append]; exact M.nd2, by simpa using M.mt, M.inv2, M.dep2, M.bk, by have := M.al; omega, fun n e H' n' t' f' => hnum n e H' (mid H' n' t' f'), fun e H' n' t' f' => hfin e H' (mid H' n' t' f'), fun e H' t' f' => hlong e H' (by simpa using t') (fr H' f')⟩
theorem NdW.both {off : Nat} {o : Ow} {c e : Nd} {t : Tr} (h : NdW J H me off (.both o c e) t) : ∃ a tc td dx, t = .two a tc td ∧ H a = some (.ins J.both dx [("ahead", .ref tc.ad), ("ended", .bl false), ("other", .ref td.ad), ("meter", .ref me)]) ∧ NdAt J H me off c tc ∧ NdAt J H me (off + c.gv.length) e td := by
  cases t with
  | mkr a => exact h.elim
  | st a u => exact h.elim
  | two a t u =>
    obtain ⟨⟨dx, e⟩, z, r⟩ := h
    exact ⟨a, t, u, dx, rfl, e, z, r⟩
theorem NdW.thn {off : Nat} {o : Ow} {c e : Nd} {t : Tr} (h : NdW J H me off (.thn o c e) t) : ∃ a tc td dx, t = .two a tc td ∧ H a = some (.ins J.thn dx [("ahead", .ref tc.ad), ("ended", .bl false), ("other", .ref td.ad)]) ∧ NdAt J H me off c tc ∧ NdAt J H me (off + c.gv.length) e td := by
  cases t with
  | mkr a => exact h.elim
  | st a u => exact h.elim
  | two a t u =>
    obtain ⟨⟨dx, e⟩, z, r⟩ := h
    exact ⟨a, t, u, dx, rfl, e, z, r⟩
theorem AskW.mid2b {o : Ow} {x' : Nd} {m' : Mt} {r : Rs} {Q : VK} {E : XK} (G : AskW J (d + 1) me cs lo pre post (.two a tc td) (.both o c e) m r x' m' H Q E) (h : H a = some ob) : Mid2 J d me cs lo pre post a tc td ob c e m H H := by
  have hd : max c.dep e.dep + 1 ≤ d + 1 := G.dep
  have h' : m.lost.length + (o.al + c.alive + e.alive) ≤ 1000 := G.al
  rw [al_one (by rw [show o.over = false from G.ov]; decide)] at h'
  exact ⟨h, G.nd.2.1, G.nd.2.2, G.mt, G.inv.1, G.inv.2, by omega, by omega, G.bk, by omega, Fr.refl _ _⟩
theorem AskW.mid2t {o : Ow} {x' : Nd} {m' : Mt} {r : Rs} {Q : VK} {E : XK} (G : AskW J (d + 1) me cs lo pre post (.two a tc td) (.thn o c e) m r x' m' H Q E) (h : H a = some ob) : Mid2 J d me cs lo pre post a tc td ob c e m H H := by
  have hd : max c.dep e.dep + 1 ≤ d + 1 := G.dep
  have h' : m.lost.length + (o.al + c.alive + e.alive) ≤ 1000 := G.al
  rw [al_one (by rw [show o.over = false from G.ov]; decide)] at h'
  exact ⟨h, G.nd.2.1, G.nd.2.2, G.mt, G.inv.2.1, G.inv.2.2, by omega, by omega, G.bk, by omega, Fr.refl _ _⟩
/-- how a draw of both goes -/
def StepB2 (o : Ow) (r : Rs) (x' : Nd) (m' : Mt) (c' : Nd) (n : Int) (e' : Nd) (m2 : Mt) : Rs → Prop
  | .num v => r = .num (n + v) ∧ x' = .both (o.fin (.num (n + v))) c' e' ∧ m' = m2
  | .fin => r = .fin ∧ x' = .both (o.fin .fin) c' e' ∧ m' = { m2 with lost := m2.lost ++ [n] }
  | .long => r = .long ∧ x' = .both o c' e' ∧ m' = m2
def StepB (f0 : Nat) (o : Ow) (r : Rs) (x' : Nd) (m' : Mt) (e : Nd) (c' : Nd) (m1 : Mt) : Rs → Prop
  | .num n => ∃ r2 e' m2, draw f0 e m1 = some (r2, e', m2) ∧ StepB2 o r x' m' c' n e' m2 r2
  | .fin => r = .fin ∧ x' = .both (o.fin .fin) c' e ∧ m' = m1
  | .long => r = .long ∧ x' = .both o c' e ∧ m' = m1
theorem both_step {f : Nat} {o : Ow} {m' : Mt} {r : Rs} {x' : Nd} (ho : o.over = false) (h : draw f (.both o c e) m = some (r, x', m')) :
    ∃ f0 rc c' m1, f = f0 + 1 ∧ draw f0 c m = some (rc, c', m1) ∧ StepB f0 o r x' m' e c' m1 rc := by
  cases f with
  | zero => simp only [draw] at h; cases h
  | succ f =>
    rw [draw_both, if_neg (by rw [ho]; decide)] at h
    cases hd : draw f c m with
    | none => rw [hd] at h; cases h
    | some p =>
      obtain ⟨rc, c', m1⟩ := p
      refine ⟨f, rc, c', m1, rfl, hd.symm ▸ rfl, ?_⟩
      rw [hd] at h
      cases rc with
      | num n =>
        dsimp only at h
        cases he : draw f e m1 with
        | none => rw [he] at h; cases h
        | some p2 =>
          obtain ⟨r2, e', m2⟩ := p2
          rw [he] at h
          refine ⟨r2, e', m2, he, ?_⟩
          cases r2 <;> (cases h; exact ⟨rfl, rfl, rfl⟩)
      | fin => cases h; exact ⟨rfl, rfl, rfl⟩
      | long => cases h; exact ⟨rfl, rfl, rfl⟩
theorem sc_Both_work : FnScope ["self", "number", "second"] ["self"] (defScope s_Both_work) := ⟨rfl, rfl, rfl, by decide +kernel, rfl, by decide +kernel, by decide +kernel⟩
theorem ok_Both_work (D : Apart J) (T : Txt K mg) (N : NodeF K J)
    (G_undone : CalM P w K mg base CX0 1 J.meter "note_undone" ["self", "number"] (spUndone J)) (F : FnP K "work" "Both.work" s_Both_work f fd)
    (G_draw : ∀ C, DrawC J C → CalM P w K mg base (L2.CX P w) (2 * d + 2) C "draw" ["self"] (spDraw J d C)) :
    FnOk P w K mg base (L2.CX P w) (2 * d + 3) f fd ["self"] (spWork J (d + 1) J.both) := by
  refine okX F sc_Both_work (fun vs H Q E h => h.len) (fun cdv A outer s H vs Q E hr h px tk po => ?_)
  · obtain ⟨me, cs, lo, pre, post, t, x, m, f, r, x', m', rfl, hx, hd, G⟩ := h
    obtain ⟨o, c, e, rfl⟩ := cls_both D hx
    have hC : DrawC J J.both := .inr (.inr (.inr (.inr (.inr (.inr (.inr (.inr (.inr (.inl rfl)))))))))
    have ca := N.c _ hC
    obtain ⟨a, tc, td, dx, rfl, ea, nc, ne⟩ := G.nd.both
    have M := G.mid2b ea
    obtain ⟨f0, rc, c', m1, rfl, hc, st⟩ := both_step G.ov hd
    refine ⟨_, (pss_cons (ps_set (i := 1) sc_Both_work.nd rfl (Or.inl rfl) (pe_dyn0 (pe_fld (pv 0) rfl) G_draw (hr.mono (by omega)) px))
  (pss_cons (ps_if (pt_cmpR op_isN (pv 1) pe_non (nomark _))
    (pss_one (ps_ret pe_non)) pss_nil)
  (pss_cons (ps_set (i := 2) sc_Both_work.nd rfl (Or.inl rfl) (pe_dyn0 (pe_fld (pv 0) rfl) G_draw (hr.mono (by omega)) px))
  (pss_cons (ps_if (pt_cmpR op_isN (pv 2) pe_non (nomark _))
    (pss_cons (ps_expr (pe_cm (pe_fld (pv 0) rfl) G_undone (hr.mono (by omega)) pass0 (pa_cons (pv 1) pa_nil)))
    (pss_one (ps_ret pe_non))) pss_nil)
  (pss_one (ps_ret (pe_op op_add (pv 1) (pv 2)))))))), ?_⟩
    try dsimp only [cxOf, Cx.nox, Cx.wish]
    refine rd_at (σ' := [some (.ref a), none, none]) rfl ?_
    walk_at "go"
    refine rd_dyn ?_
    walk_at "go"
    refine rd_sf rfl ea ca (N.na_ahead _ hC) rfl ?_
    obtain ⟨dc, fc, ec, lc⟩ := nc.obj
    refine rd_d (c.cls_draw J) ec lc ?_
    refine ⟨me, cs, lo, pre, e.gv ++ post, tc, c, m, f0, rc, c', m1, rfl, rfl, hc, M.ask1 G.sep hc (fun n hn H' M' => ?_) (fun hn H' M' => ?_) (fun hn H' M' f' => ?_)⟩
    · subst hn
      obtain ⟨r2, e', m2, he, st2⟩ := st
      have ea' := M'.ob
      walk_at "go"
      refine ⟨rfl, ?_⟩
      walk_at "go"
      refine rd_F (fun z => by cases z) ?_
      walk_at "go"
      refine rd_dyn ?_
      walk_at "go"
      refine rd_sf rfl ea' ca (N.na_other _ hC) rfl ?_
      obtain ⟨dd, fe, ee, le⟩ := M'.nd2.obj
      refine rd_d (e.cls_draw J) ee le ?_
      refine ⟨me, cs, lo, pre ++ c'.gv, post, td, e, m1, f0, r2, e', m2, rfl, rfl, he, M'.ask2 G.sep he (fun v hv H'' M'' => ?_) (fun hv H'' M'' => ?_) (fun hv H'' M'' f'' => ?_)⟩
      · subst hv
        obtain ⟨rfl, rfl, rfl⟩ := st2
        walk_at "go"
        refine ⟨rfl, ?_⟩
        walk_at "go"
        refine rd_F (fun z => by cases z) ?_
        walk_at "go"
        exact G.num _ rfl _ ⟨⟨dx, M''.ob⟩, M''.nd1, M''.nd2⟩ M''.mt M''.fr
      · subst hv
        obtain ⟨rfl, rfl, rfl⟩ := st2
        have eb := M''.ob
        walk_at "go"
        refine ⟨rfl, ?_⟩
        walk_at "go"
        refine rd_T rfl ?_
        walk_at "go"
        refine rd_meth ?_
        refine rd_sf rfl eb ca (N.na_meter _ hC) rfl ?_
        obtain ⟨⟨dm, e0⟩, _, _⟩ := id M''.mt
        refine rd_m e0 rfl ?_
        walk_at "go"
        refine ⟨me, cs, lo, m2, _, n, rfl, M''.mt, G.sep.n1, G.sep.n2, G.sep.n3, by have := M''.al; omega, fun H2 mt2 f2 => ?_⟩
        walk_at "go"
        have nl : ∀ b, b ∈ (Tr.two a tc td).ads → b ∉ [lo] := fun b hb q => by
          rw [List.mem_singleton] at q
          exact G.sep.hlo (q ▸ hb)
        exact G.fin rfl _ ⟨⟨dx, f2.at eb (nl a List.mem_cons_self)⟩, M''.nd1.fr f2 fun b hb => nl b (List.mem_cons_of_mem _ (List.mem_append_left _ hb)), M''.nd2.fr f2 fun b hb => nl b (List.mem_cons_of_mem _ (List.mem_append_right _ hb))⟩ mt2 (M''.fr.tr (f2.mono fun b hb => in1 hb))
      · subst hv
        obtain ⟨rfl, rfl, rfl⟩ := st2
        exact G.long rfl _ M'' f''
    · subst hn
      obtain ⟨rfl, rfl, rfl⟩ := st
      walk_at "go"
      refine ⟨rfl, ?_⟩
      walk_at "go"
      refine rd_T rfl ?_
      walk_at "go"
      exact G.fin rfl _ ⟨⟨dx, M'.ob⟩, M'.nd1, M'.nd2⟩ M'.mt M'.fr
    · subst hn
      obtain ⟨rfl, rfl, rfl⟩ := st
      exact G.long rfl H' M' f'
end
end Dc

set_option Elab.async false
set_option linter.all false
set_option maxRecDepth 100000
set_option maxHeartbeats 2000000
namespace Dc
open PySem PySem.Spec PyProof.Rows L2
local macro_rules | `(tactic| walk_at "ne") => `(tactic| first | assumption | (refine Ne.symm ?_; assumption) | exact ne_of (by assumption) (by assumption) (by intro q; cases q) | exact ne_of_none (by assumption) (by assumption) | exact Ne.symm (ne_of_none (by assumption) (by assumption)))
local macro_rules | `(tactic| walk_at "hp") => `(tactic| first | assumption | exact upd_same | (refine upd_keep ?_ (by assumption); walk_at "hp") | (refine upd_other ?_ ?_; · walk_at "ne"; · walk_at "hp"))
local macro_rules | `(tactic| walk_at "hl") => `(tactic| first | assumption | exact SqL.of (by walk_at "hp"))
local macro_rules | `(tactic| walk_at "ht") => `(tactic| first | assumption | exact SqT.of (by walk_at "hp"))
local macro_rules | `(tactic| walk_at "rd1") => `(tactic| first
  | ((with_reducible apply rd_var); exact rfl)
  | ((with_reducible apply rd_eq); exact rfl) | ((with_reducible apply rd_ne); exact rfl)
  | with_reducible first
  | refine iteT ?_ | refine iteF ?_ | refine rd_nF ?_ | refine rd_nT ?_ | refine rd_yes ?_ | refine rd_c ?_ | refine rd_op ?_ | refine rd_un ?_ | refine rd_test ?_ | refine rd_B ?_ | refine rd_bl ?_ | refine rd_seq ?_ | refine rd_next ?_ | refine rd_ifs ?_ | refine rd_asg ?_ | refine rd_name ?_ | refine rd_ret ?_ | refine rd_drop ?_
  | refine rd_call ?_ | refine rd_cons ?_ | refine rd_nil ?_ | refine rd_cb ?_ | refine rd_I0 ?_ | refine rd_U ?_ | refine rd_gsub ?_ | refine rd_lst ?_ | refine rd_tup ?_ | refine rd_if ?_ | refine rd_not ?_ | refine rd_rng1 ?_ | refine rd_itup ?_ | refine rd_ilst ?_ | refine rd_bm ?_ | refine rd_bm0 ?_ | refine rd_andV ?_ | refine rd_orV ?_ | refine rd_notV ?_)
local macro_rules | `(tactic| walk_at "rd") => `(tactic| repeat walk_at "rd1")
local macro_rules | `(tactic| walk_at "ci") => `(tactic| first | assumption | (show (0 : Int) < _; first | decide | omega) | exact ⟨by decide, by decide⟩ | exact Or.inr ⟨by decide, by decide⟩ | exact Or.inl ⟨by decide, by decide⟩ | exact ⟨by decide, by decide, by decide⟩ | exact Or.inl ⟨by omega, by omega⟩ | exact Or.inr ⟨by omega, by omega⟩)
local macro_rules | `(tactic| walk_at "ix") => `(tactic| first
  | ((with_reducible apply rd_ixL); (walk_at "hl"); exact rfl)
  | ((with_reducible apply rd_ixT); (walk_at "ht"); exact rfl)
  | ((with_reducible apply rd_lenL); (walk_at "hl"))
  | ((with_reducible apply rd_lenT); (walk_at "ht"))
  | ((with_reducible apply rd_tupOf); (walk_at "hl"))
  | ((with_reducible apply rd_listOf); (walk_at "hl"))
  | (with_reducible refine rd_min2 ?_)
  | ((with_reducible apply rd_I); (walk_at "ci"))
  | ((with_reducible apply rd_setL); (walk_at "hp"); exact rfl))
local macro_rules | `(tactic| walk_at "gs") => `(tactic| repeat first | walk_at "rd1" | walk_at "ix")
local macro_rules | `(tactic| walk_at "go") => `(tactic| repeat first | walk_at "rd1" | walk_at "ix" | with_reducible refine rd_and ?_ | with_reducible refine rd_or ?_)
local macro_rules | `(tactic| walk_at "fo") => `(tactic| (with_reducible refine rd_for ?_))
local macro_rules | `(tactic| walk_at "pm") => `(tactic| repeat first
  | with_reducible first | refine rd_pcons ?_ | refine rd_pstr ?_ | refine rd_pcap ?_ | refine rd_pwild ?_ | refine rd_pnil ?_ | refine rd_por ?_ | refine rd_pno ?_
  | ((with_reducible refine rd_eq rfl ?_); refine ⟨_, rfl, ?_⟩; first | refine rd_T rfl ?_ | refine rd_F (by decide) ?_)
  | dsimp only [List.nil_append, List.singleton_append, List.cons_append, setAll])
local macro_rules | `(tactic| walk_at "pc") => `(tactic| (refine rd_case ?_); (first | (refine rd_phit (SqT.of (by assumption)) rfl ?_) | (refine rd_pmiss (SqT.of (by assumption)) (by simp) ?_)); (walk_at "pm"))

section
variable {P : Program} {w : World} {K : PySem.W.Frag} {mg : Str → Option Value} {base : Heap} {J : Cls'} {f : Addr} {fd : FuncData} {H H0 : Hp} {me cs lo a : Addr} {d : Nat} {pre post : List Int} {tc td : Tr} {ob : HO} {c e : Nd} {m : Mt}
def StepT (f0 : Nat) (o : Ow) (r : Rs) (x' : Nd) (m' : Mt) (e : Nd) (c' : Nd) (m1 : Mt) : Rs → Prop
  | .num n => r = .num n ∧ x' = .thn (o.fin (.num n)) c' e ∧ m' = m1
  | .fin => ∃ e' m2 o2, draw f0 e m1 = some (r, e', m2) ∧ x' = .thn o2 c' e' ∧ m' = m2
  | .long => r = .long ∧ x' = .thn o c' e ∧ m' = m1
theorem thn_step {f : Nat} {o : Ow} {m' : Mt} {r : Rs} {x' : Nd} (ho : o.over = false) (hi : o.left = 0 ∨ (o.left = 1 ∧ c.ended)) (h : draw f (.thn o c e) m = some (r, x', m')) :
    ∃ f0 rc c' m1, f = f0 + 1 ∧ draw f0 c m = some (rc, c', m1) ∧ StepT f0 o r x' m' e c' m1 rc := by
  cases f with
  | zero => simp only [draw] at h; cases h
  | succ f =>
    rw [draw_thn, if_neg (by rw [ho]; decide)] at h
    rcases hi with hl | ⟨hl, hc⟩
    · rw [if_neg (by rw [hl]; decide)] at h
      cases hd : draw f c m with
      | none => rw [hd] at h; cases h
      | some p =>
        obtain ⟨rc, c', m1⟩ := p
        refine ⟨f, rc, c', m1, rfl, hd.symm ▸ rfl, ?_⟩
        rw [hd] at h
        cases rc with
        | num n => cases h; exact ⟨rfl, rfl, rfl⟩
        | fin =>
          dsimp only at h
          cases he : draw f e m1 with
          | none => rw [he] at h; cases h
          | some p2 =>
            obtain ⟨r2, e', m2⟩ := p2
            rw [he] at h
            cases h
            exact ⟨e', _, _, he, rfl, rfl⟩
        | long => cases h; exact ⟨rfl, rfl, rfl⟩
    · rw [if_pos hl] at h
      cases he : draw f e m with
      | none => rw [he] at h; cases h
      | some p2 =>
        obtain ⟨r2, e', m2⟩ := p2
        rw [he] at h
        cases f with
        | zero => simp only [draw] at he; cases he
        | succ f =>
          cases h
          exact ⟨f + 1, .fin, c, m, rfl, ended_draw f m hc, e', _, _, he, rfl, rfl⟩
theorem sc_Then_work : FnScope ["self", "number"] ["self"] (defScope s_Then_work) := ⟨rfl, rfl, rfl, by decide +kernel, rfl, by decide +kernel, by decide +kernel⟩
theorem ok_Then_work (D : Apart J) (T : Txt K mg) (N : NodeF K J) (F : FnP K "work" "Then.work" s_Then_work f fd)
    (G_draw : ∀ C, DrawC J C → CalM P w K mg base (L2.CX P w) (2 * d + 2) C "draw" ["self"] (spDraw J d C)) :
    FnOk P w K mg base (L2.CX P w) (2 * d + 3) f fd ["self"] (spWork J (d + 1) J.thn) := by
  refine okX F sc_Then_work (fun vs H Q E h => h.len) (fun cdv A outer s H vs Q E hr h px tk po => ?_)
  · obtain ⟨me, cs, lo, pre, post, t, x, m, f, r, x', m', rfl, hx, hd, G⟩ := h
    obtain ⟨o, c, e, rfl⟩ := cls_thn D hx
    have hC : DrawC J J.thn := .inr (.inr (.inr (.inr (.inr (.inr (.inr (.inr (.inr (.inr rfl)))))))))
    have ca := N.c _ hC
    obtain ⟨a, tc, td, dx, rfl, ea, nc, ne⟩ := G.nd.thn
    have M := G.mid2t ea
    obtain ⟨f0, rc, c', m1, rfl, hc, st⟩ := thn_step G.ov G.inv.1 hd
    refine ⟨_, (pss_cons (ps_set (i := 1) sc_Then_work.nd rfl (Or.inl rfl) (pe_dyn0 (pe_fld (pv 0) rfl) G_draw (hr.mono (by omega)) px))
  (pss_cons (ps_if (pt_cmpR op_isN (pv 1) pe_non (nomark _))
    (pss_one (ps_ret (pe_dyn0 (pe_fld (pv 0) rfl) G_draw (hr.mono (by omega)) px))) pss_nil)
  (pss_one (ps_ret (pv 1))))), ?_⟩
    try dsimp only [cxOf, Cx.nox, Cx.wish]
    refine rd_at (σ' := [some (.ref a), none]) rfl ?_
    walk_at "go"
    refine rd_dyn ?_
    walk_at "go"
    refine rd_sf rfl ea ca (N.na_ahead _ hC) rfl ?_
    obtain ⟨dc, fc, ec, lc⟩ := nc.obj
    refine rd_d (c.cls_draw J) ec lc ?_
    refine ⟨me, cs, lo, pre, e.gv ++ post, tc, c, m, f0, rc, c', m1, rfl, rfl, hc, M.ask1 G.sep hc (fun n hn H' M' => ?_) (fun hn H' M' => ?_) (fun hn H' M' f' => ?_)⟩
    · subst hn
      obtain ⟨rfl, rfl, rfl⟩ := st
      walk_at "go"
      refine ⟨rfl, ?_⟩
      walk_at "go"
      refine rd_F (fun z => by cases z) ?_
      walk_at "go"
      exact G.num _ rfl _ ⟨⟨dx, M'.ob⟩, M'.nd1, M'.nd2⟩ M'.mt M'.fr
    · subst hn
      obtain ⟨e', m2, o2, he, rfl, rfl⟩ := st
      have ea' := M'.ob
      walk_at "go"
      refine ⟨rfl, ?_⟩
      walk_at "go"
      refine rd_T rfl ?_
      walk_at "go"
      refine rd_dyn ?_
      walk_at "go"
      refine rd_sf rfl ea' ca (N.na_other _ hC) rfl ?_
      obtain ⟨dd, fe, ee, le⟩ := M'.nd2.obj
      refine rd_d (e.cls_draw J) ee le ?_
      refine ⟨me, cs, lo, pre ++ c'.gv, post, td, e, m1, f0, r, e', m', rfl, rfl, he, M'.ask2 G.sep he (fun v hv H'' M'' => ?_) (fun hv H'' M'' => ?_) (fun hv H'' M'' f'' => ?_)⟩
      · exact G.num _ hv _ ⟨⟨dx, M''.ob⟩, M''.nd1, M''.nd2⟩ M''.mt M''.fr
      · exact G.fin hv _ ⟨⟨dx, M''.ob⟩, M''.nd1, M''.nd2⟩ M''.mt M''.fr
      · exact G.long hv _ M'' f''
    · subst hn
      obtain ⟨rfl, rfl, rfl⟩ := st
      exact G.long rfl H' M' f'
end
end Dc

set_option Elab.async false
set_option linter.all false
set_option maxRecDepth 100000
set_option maxHeartbeats 2000000
namespace Dc
open PySem PySem.Spec PyProof.Rows L2
/-! ### all that draws -/
structure MT (K : PySem.W.Frag) (C : Addr) (m x qual : Str) (st : Stmt) : Prop where
  ex : ∃ f fd, FnP K x qual st f fd ∧ Meth K C m f
structure ProgD (K : PySem.W.Frag) (mg : Str → Option Value) (J : Cls') : Prop where
  apart : Apart J
  node : NodeF K J
  met : MetF K J
  long : LongF K mg J
  note : MT K J.meter "note_drawn" "note_drawn" "Meter.note_drawn" s_Meter_note_drawn
  undone : MT K J.meter "note_undone" "note_undone" "Meter.note_undone" s_Meter_note_undone
  enter : MT K J.meter "enter" "enter" "Meter.enter" s_Meter_enter
  begin_ : MT K J.meter "begin_next" "begin_next" "Meter.begin_next" s_Meter_begin_next
  d_Count : MT K J.count "draw" "draw" "Count.draw" s_Count_draw
  d_Row : MT K J.row "draw" "draw" "Row.draw" s_Row_draw
  d_Stage : ∀ C, StageC J C → MT K C "draw" "draw" "Stage.draw" s_Stage_draw
  w_Reckon : MT K J.reckon "work" "work" "Reckon.work" s_Reckon_work
  w_Keep : MT K J.keep "work" "work" "Keep.work" s_Keep_work
  w_Drop : MT K J.drop "work" "work" "Drop.work" s_Drop_work
  w_Take : MT K J.take "work" "work" "Take.work" s_Take_work
  w_Each : MT K J.each "work" "work" "Each.work" s_Each_work
  w_Until : MT K J.until' "work" "work" "Until.work" s_Until_work
  w_Unlike : MT K J.unlike "work" "work" "Unlike.work" s_Unlike_work
  w_Both : MT K J.both "work" "work" "Both.work" s_Both_work
  w_Then : MT K J.thn "work" "work" "Then.work" s_Then_work
section
variable {P : Program} {w : World} {K : PySem.W.Frag} {mg : Str → Option Value} {base : Heap} {J : Cls'}
theorem calm_of {CX : CXT} {k : Nat} {C : Addr} {m x qual : Str} {st : Stmt} {ps : List Str} {sp : Sp}
    (R : MT K C m x qual st) (c : Cls K C) (ok : ∀ f fd, FnP K x qual st f fd → FnOk P w K mg base CX k f fd ps sp)
    (h : ∀ (kV doc pm : Value) (an : Option Addr) (cdv ct : Value) (us : List Value), us.length = ps.length → bindArgs (PySem.W.fnOf x qual (defArgs st) (defBody st) (defScope st) .none kV doc pm an cdv ct) ⟨us, []⟩ = pure (ps.zip us)) :
    CalM P w K mg base CX k C m ps sp := by
  obtain ⟨f, fd, F, M⟩ := R.ex
  exact ⟨f, fd, ok f fd F, F.bindsN h, M, c⟩
theorem spDraw_void {C : Addr} (D : Apart J) (hC : StageC J C) {vs : List V} {H : Hp} {Q : VK} {E : XK} (h : spDraw J 0 C vs H Q E) : False := by
  obtain ⟨me, cs, lo, pre, post, t, x, m, f, r, x', m', rfl, hx, hd, G⟩ := h
  have nm := cls_stage D (x := x) (hx ▸ hC)
  have := G.dep
  cases x with
  | mkr m g => exact nm m g rfl
  | st k o c => exact absurd this (Nat.not_succ_le_zero _)
  | both o c d => exact absurd this (Nat.not_succ_le_zero _)
  | thn o c d => exact absurd this (Nat.not_succ_le_zero _)
theorem draws (T : Txt K mg) (R : ProgD K mg J) : ∀ (d : Nat) (C : Addr), DrawC J C → CalM P w K mg base (L2.CX P w) (2 * d + 2) C "draw" ["self"] (spDraw J d C) := by
  have Gn : CalM P w K mg base (L2.CX P w) 1 J.meter "note_drawn" ["self", "place"] (spNote J) := calm_of R.note R.met.c (fun f fd F => ok_Meter_note_drawn T R.met R.long F) fun _ _ _ _ _ _ us hl => match us, hl with | [_, _], _ => rfl
  have Gu : CalM P w K mg base CX0 1 J.meter "note_undone" ["self", "number"] (spUndone J) := calm_of R.undone R.met.c (fun f fd F => ok_Meter_note_undone T R.met F) fun _ _ _ _ _ _ us hl => match us, hl with | [_, _], _ => rfl
  intro d
  induction d with
  | zero =>
    intro C hC
    have hcl := R.node.c C hC
    rcases hC with rfl | rfl | hC
    · exact calm_of R.d_Count hcl (fun f fd F => ok_Count_draw R.apart T R.node F Gn) fun _ _ _ _ _ _ us hl => match us, hl with | [_], _ => rfl
    · exact calm_of R.d_Row hcl (fun f fd F => ok_Row_draw R.apart T R.node F Gn) fun _ _ _ _ _ _ us hl => match us, hl with | [_], _ => rfl
    · exact calm_of (R.d_Stage C hC) hcl (fun f fd F => okX F sc_Stage_draw (fun _ _ _ _ h => (spDraw_void R.apart hC h).elim) fun _ _ _ _ _ _ _ _ _ h => (spDraw_void R.apart hC h).elim) fun _ _ _ _ _ _ us hl => match us, hl with | [_], _ => rfl
  | succ d ih =>
    intro C hC
    have hcl := R.node.c C hC
    rcases hC with rfl | rfl | hC
    · exact (calm_of R.d_Count hcl (fun f fd F => ok_Count_draw R.apart T R.node F Gn) fun _ _ _ _ _ _ us hl => match us, hl with | [_], _ => rfl).mono (by omega)
    · exact (calm_of R.d_Row hcl (fun f fd F => ok_Row_draw R.apart T R.node F Gn) fun _ _ _ _ _ _ us hl => match us, hl with | [_], _ => rfl).mono (by omega)
    · refine calm_of (R.d_Stage C hC) hcl (fun f fd F => ok_Stage_draw hC R.apart T R.node F ?_) fun _ _ _ _ _ _ us hl => match us, hl with | [_], _ => rfl
      clear hC hcl
      intro C hC
      have hcl := R.node.c C hC.draw
      rcases hC with rfl | rfl | rfl | rfl | rfl | rfl | rfl | rfl | rfl
      · exact calm_of R.w_Reckon hcl (fun f fd F => ok_Reckon_work R.apart T R.node F ih) fun _ _ _ _ _ _ us hl => match us, hl with | [_], _ => rfl
      · exact calm_of R.w_Keep hcl (fun f fd F => ok_Keep_work R.apart T R.node F ih) fun _ _ _ _ _ _ us hl => match us, hl with | [_], _ => rfl
      · exact calm_of R.w_Drop hcl (fun f fd F => ok_Drop_work R.apart T R.node F ih) fun _ _ _ _ _ _ us hl => match us, hl with | [_], _ => rfl
      · exact calm_of R.w_Take hcl (fun f fd F => ok_Take_work R.apart T R.node F ih) fun _ _ _ _ _ _ us hl => match us, hl with | [_], _ => rfl
      · exact calm_of R.w_Each hcl (fun f fd F => ok_Each_work R.apart T R.node F ih) fun _ _ _ _ _ _ us hl => match us, hl with | [_], _ => rfl
      · exact calm_of R.w_Until hcl (fun f fd F => ok_Until_work R.apart T R.node Gu F ih) fun _ _ _ _ _ _ us hl => match us, hl with | [_], _ => rfl
      · exact calm_of R.w_Unlike hcl (fun f fd F => ok_Unlike_work R.apart T R.node F ih) fun _ _ _ _ _ _ us hl => match us, hl with | [_], _ => rfl
      · exact calm_of R.w_Both hcl (fun f fd F => ok_Both_work R.apart T R.node Gu F ih) fun _ _ _ _ _ _ us hl => match us, hl with | [_], _ => rfl
      · exact calm_of R.w_Then hcl (fun f fd F => ok_Then_work R.apart T R.node F ih) fun _ _ _ _ _ _ us hl => match us, hl with | [_], _ => rfl
end
end Dc

set_option Elab.async false
set_option linter.all false
set_option maxRecDepth 100000
set_option maxHeartbeats 2000000
namespace Dc
open PySem PySem.Spec PyProof.Rows L2 ClX
/-! ### a method that says super().__init__(..) first -/
/-- its names: all local but __class__, which is free -/
structure SupScope (N P : List Str) (sc : Scope) : Prop where
  kind : sc.kind = .function
  co : sc.isCoroutine = false
  gen : sc.isGenerator = false
  nd : N.Nodup
  pre : N.take P.length = P
  par : ∀ x ∈ P, sc.names.lookup x = some .local
  nocell : ∀ x ∈ sc.names, x.2 ≠ .cell
  free : ∀ x ∈ sc.names, x.2 = .free → x.1 = ("__class__" : Str)
  hk : sc.names.lookup ("__class__" : Str) = some .free
  hs : sc.names.lookup ("super" : Str) = some .globalImplicit
abbrev envS (qual : Str) (scope : Scope) (L f : Addr) (cd : Value) (cc : Addr) : Env := PySem.W.ksEnv qual scope L f cd cc
def cxS (P : Program) (w : World) (K : PySem.W.Frag) (mg : Str → Option Value) (base : Heap) (N : List Str) (qual : Str) (scope : Scope) (f : Addr) (cd : Value) (cc : Addr) (A : Around) (outer : List Env) (s : Shared) (H : Hp) : Cx where
  prog := P
  w := w
  K := K
  mg := mg
  base := base
  A := A.deeper (envS qual scope s.heap.objs.size f cd cc)
  N := N
  s_0 := s
  H_0 := H
  env := envS qual scope s.heap.objs.size f cd cc
  outer := outer
  stack := envS qual scope s.heap.objs.size f cd cc :: outer
  ex := []
  calm := true
  fn := fun _ => false
  pn := []
  xe := fun _ _ => False
theorem zip_rev {P : List Str} {us : List Value} (nd : P.Nodup) {i : Nat} {y : Str} {u : Value} (h1 : P[i]? = some y) (h2 : us[i]? = some u) : (P.zip us).reverse.lookup y = some u := by
  have key : ∀ (l : List (Str × Value)) (y : Str) (u : Value), (l.map (·.1)).Nodup → (y, u) ∈ l → l.lookup y = some u := by
    intro l
    induction l with
    | nil => intro y u _ h; cases h
    | cons p r ih =>
      intro y u hn h
      obtain ⟨a, b⟩ := p
      rw [List.lookup_cons]
      rw [List.map_cons, List.nodup_cons] at hn
      rcases List.mem_cons.mp h with e | h2
      · cases e; simp
      · have : (y == a) = false := by
          rw [beq_eq_false_iff_ne]
          intro e
          subst e
          exact hn.1 (List.mem_map_of_mem (f := (·.1)) h2)
        rw [this]
        exact ih y u hn.2 h2
  refine key _ _ _ ?_ ?_
  · rw [List.map_reverse]
    refine (List.pairwise_reverse.mpr (List.Pairwise.imp (fun h => Ne.symm h) ?_))
    have sub : ∀ (P : List Str) (us : List Value), ((P.zip us).map (·.1)).Sublist P := by
      intro P
      induction P with
      | nil => intro us; simp
      | cons p P ih =>
        intro us
        cases us with
        | nil => simp
        | cons u us =>
          simp only [List.zip_cons_cons, List.map_cons]
          exact (ih us).cons_cons p
    exact List.Nodup.sublist (sub P us) nd
  · rw [List.mem_reverse]
    have := List.getElem?_zip_eq_some (l₁ := P) (l₂ := us) (z := (y, u)) (i := i)
    exact List.mem_of_getElem? (this.mpr ⟨h1, h2⟩)
theorem inv_super {P : Program} {w : World} {K : PySem.W.Frag} {mg : Str → Option Value} {base : Heap} {N ps : List Str} {qual : Str} {scope : Scope} {f cc : Addr} {cd : Value} {A : Around} {outer : List Env} {s : Shared} {H : Hp} {us : List Value} {vs : List V} {h₀ : Heap} {tk : Nat} {oc : Obj} {cv : Option Value}
    (S : SupScope N ps scope) (hd : A.handled = none) (e0 : Env0 P w K mg base A outer s H) (hl : vs.length = ps.length) (r : Vals vs us) (hcc : K.lookup cc = some oc) (hcv : oc.data = .cell cv)
    (hns : h₀.Ns s.heap.objs.size (fun x => (ps.zip us).reverse.lookup x)) (hk : ∀ b o, s.heap.get? b = some o → h₀.get? b = some o) :
    Inv (cxS P w K mg base N qual scope f cd cc A outer s H) [] (L2.start N vs) H { s with heap := h₀, toks := tk } := by
  have hpl : ps.length ≤ N.length := by have := congrArg List.length S.pre; rw [List.length_take] at this; omega
  have noA : ∀ b : Addr, b ∉ (cxS P w K mg base N qual scope f cd cc A outer s H).ex := fun b z => absurd (show b ∈ ([] : List Addr) from z) (by simp)
  have cells : ∀ x c, (cxS P w K mg base N qual scope f cd cc A outer s H).env.cells.lookup x = some c → x = ("__class__" : Str) ∧ c = cc := fun x c h => by
    have h' : List.lookup x [(("__class__" : Str), cc)] = some c := h
    rw [List.lookup_cons] at h'
    cases e : x == ("__class__" : Str) with
    | true => rw [e] at h'; exact ⟨by simpa using e, (Option.some.inj h').symm⟩
    | false => rw [e] at h'; cases h'
  have hbase := e0.mod.kin _ _ hcc
  refine ⟨⟨e0.mod, S.kind, rfl, rfl, Nat.le_refl _, fun y z c h1 h2 => ?_, fun y hy => ?_, fun y c hf h => Bool.noConfusion (show false = true from hf), fun _ => hd, Around.frames_deeper e0.frames, .inr ⟨rfl, rfl⟩, fun b z => absurd z (noA b), e0.bs, e0.bsz, fun b _ _ => noA b, fun b z => absurd z (noA b), e0.funs, e0.frf⟩,
    rfl, e0.bare, Un.kept hk, ⟨_, hns, fun i y v h1 h2 h3 => ?_⟩, fun y c h => ?_, e0.hok.fresh (Nat.le_refl _), fun y c h => ?_, fun p hp => absurd (show p ∈ ([] : List (Addr × Obj)) from hp) (by simp), e0.hok.kept hk, ?_⟩
  · rw [(cells _ _ h1).1, (cells _ _ h2).1]
  · have hy : scope.names.lookup y = some .cell ∨ scope.names.lookup y = some .free := hy
    rcases hy with hy | hy
    · exact absurd rfl (S.nocell _ (PySem.mem_of_lookup hy))
    · have e := S.free _ (PySem.mem_of_lookup hy) rfl
      refine ⟨cc, ?_⟩
      show List.lookup y [(("__class__" : Str), cc)] = some cc
      rw [List.lookup_cons]
      have : (y == ("__class__" : Str)) = true := by simpa using e
      rw [this]
  · have hi : i < vs.length := by
      unfold L2.start at h2
      by_cases hi : i < vs.length
      · exact hi
      · rw [List.getElem?_append_right (by simpa using hi)] at h2
        rw [List.getElem?_replicate] at h2
        split at h2 <;> cases h2
    have ha : vs[i]? = some v := by
      unfold L2.start at h2
      rw [List.getElem?_append_left (by simpa using hi), List.getElem?_map] at h2
      cases e : vs[i]? with
      | none => rw [e] at h2; cases h2
      | some a => rw [e] at h2; cases h2; rfl
    obtain ⟨u, hu, rv⟩ := r.get ha
    have hp : ps[i]? = some y := by
      rw [← S.pre, List.getElem?_take_of_lt (by omega)]; exact h1
    have ndP : ps.Nodup := by rw [← S.pre]; exact S.nd.sublist (List.take_sublist _ _)
    exact ⟨u, rv, .inl ⟨S.par y (List.mem_of_getElem? hp), zip_rev ndP hp hu⟩⟩
  · rw [(cells _ _ h).2]
    exact ⟨cv, oc, hk _ _ (e0.bs _ _ hbase).1, hcv⟩
  · rw [(cells _ _ h).2]
    exact (e0.bs _ _ hbase).2
  · unfold L2.start
    show _ = N.length
    rw [List.length_append, List.length_map, List.length_replicate]
    omega
/-- what the written part holds of such a method f of the class D; f2: the base's __init__ -/
structure SupTxt (P : Program) (K : PySem.W.Frag) (mg : Str → Option Value) (name qual : Str) (params : Arguments) (body : List Stmt) (scope : Scope) (D f f2 : Addr) (fd : FuncData) : Prop where
  ex : ∃ (oc : Value) (od : Option Addr) (kV doc pm : Value) (an : Option Addr) (cda cc : Addr) (ct : Value) (osl : Array (Option Value)) (ccl : Value) (cdd : Option Addr) (ws : Array Value) (ccs : Array (Option Value)) (file : Str) (tf : Tok) (cl : Value) (cld : Option Addr) (csl : Array (Option Value)) (cdD : ClassData),
    fd = PySem.W.ksFn name qual params body scope .none kV doc pm an (.ref cda) ct cc ∧ K.lookup f = some ⟨oc, od, .func fd, osl⟩ ∧ PySem.W.codeIn K (.ref cda) qual = true ∧
    K.lookup cda = some ⟨ccl, cdd, .fields ws, ccs⟩ ∧ ws[2]? = some (.str file tf) ∧ ((P.main.file : Str) == file) = true ∧ K.lookup cc = some ⟨cl, cld, .cell (some (.ref D)), csl⟩ ∧ PySem.W.clsIn K D = some cdD
  sub : PySem.W.mroIn K D (.ref D) = some true
  sup : PySem.W.ks_superIn K D D "__init__" = some (some (.ref f2))
  ty2 : PySem.W.typeIn K (.ref f2) = some (.type "function")
  fn2 : PySem.W.fnIn K f2 = true
  cl : Cls K D
  third : PySem.W.nsIn K cStatics "thirdparty.any" = some none
  noS : mg "super" = none
  top : (P.main.scope.names.lookup ("super" : Str)).isSome = false
theorem fn_super {P : Program} {w : World} {K : PySem.W.Frag} {mg : Str → Option Value} {base : Heap} {name qual : Str} {params : Arguments} {scope : Scope} {D f f2 : Addr} {fd fd2 : FuncData} {p0 p1 p2 p3 p4 : Pos} {e : Expr} {es : List Expr} {rest : List Stmt}
    {N ps ps2 : List Str} {j k : Nat} {sp sp2 : Sp} {ar : Arg}
    (T : SupTxt P K mg name qual params (.Expr (.Call (.Attribute (.Call (.Name "super" p0) [] [] p1) "__init__" p2) (e :: es) [] p3) p4 :: rest) scope D f f2 fd) (S : SupScope N ps scope) (hp : (params.posonlyargs ++ params.args).head? = some ar) (har : ps[0]? = some ar.arg)
    (G2 : FnOk P w K mg base CX0 j f2 fd2 ps2 sp2) (b2 : Binds K fd2 ps2 []) (hjk : j ≤ k)
    (len : ∀ vs H Q E, sp vs H Q E → vs.length = ps.length)
    (hbody : ∀ (cda cc : Addr) (A : Around) (outer : List Env) (s : Shared) (H : Hp) (vs : List V) (Q : VK) (E : XK), Room k (A.deeper (envS qual scope s.heap.objs.size f (.ref cda) cc)) → sp vs H Q E →
      ∃ (x dx : Addr) (fs : List (Str × V)) (ta : TA) (t : TS), PA (cxS P w K mg base N qual scope f (.ref cda) cc A outer s H) (e :: es) ta ∧ PSs (cxS P w K mg base N qual scope f (.ref cda) cc A outer s H) rest t ∧ vs[0]? = some (.ref x) ∧ H x = some (.ins D dx fs) ∧
        ta (L2.start N vs) H fun ws H1 => sp2 (.ref x :: ws) H1 (fun _ H2 => t { nx := fun _ H' => Q .non H', rt := Q } (L2.start N vs) H2) E0)
    (hst : ∀ env : Env, starEach (e :: es) env = (false, eval e env) :: starEach es env) (hpl : ∀ env : Env, (backTo p3 (starEach es env)).any (·.1) = false)
    (hsw : ∀ env : Env, swapsWith (.Call (.Attribute (.Call (.Name "super" p0) [] [] p1) "__init__" p2) (e :: es) [] p3) none p4.line env = pure false)
    {pl : Env → Sem Bool}
    (hev : ∀ env : Env, eval (.Call (.Attribute (.Call (.Name "super" p0) [] [] p1) "__init__" p2) (e :: es) [] p3) env = (do
      let ov ← attributeBase (.Call (.Name "super" p0) [] [] p1) "__init__" env (eval (.Call (.Name "super" p0) [] [] p1) env)
      standAt p2.atName
      let (f, first) ← holding [ov] (getMethod ov "__init__" (pl env))
      callWith p3 f first (backTo p3 (starEach (e :: es) env)) [])) :
    FnOk P w K mg base CX0 (k + 1) f fd ps sp := by
  obtain ⟨oc, od, kV, doc, pm, an, cda, cc, ct, osl, ccl, cdd, ws, ccs, file, tf, cl, cld, csl, cdD, rfl, lk, hcd, hcode, hws, hfile, hcell, hD⟩ := T.ex
  refine ⟨len, fun A outer s H args us vs Q E hr e0 hb r hsp => ?_⟩
  have hl := len _ _ _ _ hsp
  have KX : K.In s.heap := e0.mod.kin.keeps fun b o e => (e0.bs b o e).1
  have lim : s.heap.NoLimit := e0.mod.nolimit.keeps fun b o e => (e0.bs b o e).1
  obtain ⟨x, dx, fs, ta, t, ha, ht, hx0, hxH, hq⟩ := hbody cda cc A outer s H vs Q E (hr.deeper _) hsp
  have hloc : ∀ y ∈ ps.zip us, scope.names.lookup y.1 = some .local := fun ⟨n, v⟩ hy => S.par n (List.of_mem_zip hy).1
  refine PySem.ks_codeAny_call_defAt hr.depth (KX _ _ lk) rfl lim (PySem.W.codeRec_of KX hcd) rfl hb S.nocell hloc (fun h₀ hns hk => ?_) S.co S.gen S.kind
  have I := inv_super (tk := s.toks + (ps.zip us).length) (cd := .ref cda) (P := P) (w := w) (mg := mg) (qual := qual) (f := f) S hr.hd e0 hl r hcell rfl hns hk
  show _root_.PySem.wpAt (model P w) (A.deeper (envS qual scope s.heap.objs.size f (.ref cda) cc)) (.func _ (envS qual scope s.heap.objs.size f (.ref cda) cc)) (execs _ (envS qual scope s.heap.objs.size f (.ref cda) cc)) _ _ _
  refine PySem.ks_wpAt_mono (Q := SP (cxS P w K mg base N qual scope f (.ref cda) cc A outer s H) [] { nx := fun _ H' => Q .non H', rt := Q }) (E := fun _ _ => False) ?_ (fun fl s' hs => ?_) (fun _ _ z => z.elim)
  · refine PySem.ks_wpAt_execs_cons (PySem.ks_wpAt_Expr_any (PySem.ks_wpAt_MethodCall (pl := pl _) ?_ (hev _)) I.quiet (hsw _))
    have K0 : K.In h₀ := KX.keeps hk
    obtain ⟨oD, hD1, hD2⟩ : ∃ oD, h₀.get? D = some oD ∧ oD.data = .cls cdD := by
      unfold PySem.W.clsIn at hD
      split at hD
      · rename_i c d cd' sl ho
        cases hD
        exact ⟨_, K0 _ _ ho, rfl⟩
      · cases hD
    obtain ⟨u0, hu0, ru0⟩ := r.get hx0
    obtain rfl : u0 = Value.ref x := ru0
    have ndP : ps.Nodup := by rw [← S.pre]; exact S.nd.sublist (List.take_sublist _ _)
    obtain ⟨mA, O, _, _, _, _⟩ := ins_get I.hok hxH
    obtain ⟨odx, J, _⟩ := O.look
    obtain ⟨mb, hmb, hbb⟩ := e0.mod.blt
    have up0 : ∀ b o, base.get? b = some o → h₀.get? b = some o := fun b o z => hk _ _ (e0.bs b o z).1
    refine PySem.ks_wpAt_super_base (env := envS qual scope s.heap.objs.size f (.ref cda) cc) S.hs S.hk (by decide +kernel) rfl (hk _ _ (KX _ _ lk)) rfl hp rfl (hk _ _ (KX _ _ hcode)) rfl hws hfile T.top ?_
    refine PySem.W.ks_loadName_global S.kind S.hs (PySem.Calls.loadGlobal_builtin (env := envS qual scope s.heap.objs.size f (.ref cda) cc) (e0.mod.glob.keeps up0) T.noS (hmb.keeps up0) ((hbb _ (by decide +kernel)).trans (by first | rfl | kernel_rfl)) ⟨rfl, ?_⟩)
    refine wpAny_loadName_free S.kind S.hk rfl ⟨_, K0 _ _ hcell, rfl⟩ ?_
    refine wpAny_loadName_local S.kind (S.par _ (List.mem_of_getElem? har)) hns (zip_rev ndP har hu0) ?_
    refine PySem.ks_wpAny_isType_cls hD1 hD2 ⟨rfl, ?_⟩
    refine PySem.ks_wpAny_call_super hD1 hD2 J.at_ J.cls (fun c z => ?_) (PySem.W.looks_mroIn K0 T.sub) (fun h1 e1 k1 => ?_)
    · have := J.no
      unfold PySem.W.notCls at this
      rw [z] at this
      exact Bool.noConfusion this
    have I1 : Inv (cxS P w K mg base N qual scope f (.ref cda) cc A outer s H) [] (L2.start N vs) H { s with heap := h1, toks := s.toks + (ps.zip us).length } := I.kept (t' := s.toks + (ps.zip us).length) k1
    have K1 : K.In h1 := K0.keeps k1
    obtain ⟨of, hof, hofc⟩ : ∃ of, h1.get? f2 = some of ∧ of.cls = .type "function" := by
      have ht' : (K.lookup f2).map (·.cls) = some (.type "function") := T.ty2
      cases z : K.lookup f2 with
      | none => rw [z] at ht'; cases ht'
      | some of => rw [z] at ht'; exact ⟨of, K1 _ _ z, Option.some.inj ht'⟩
    have hsup := T.sup
    unfold PySem.W.ks_superIn at hsup
    rw [hD] at hsup
    have xne : x ≠ D := PySem.W.ks_ne K0 J hD
    refine PySem.ks_wpAny_getMethod_super e1 (PySem.W.looks_opaque K1 T.third) (l₀ := cdD.mro) ?_ rfl K1 hsup hof hofc xne (by decide +kernel) ?_
    · exact fun A Q E s k q => wpAny_bind ((PySem.W.looks_clsIn K1 hD) A _ E s k (wpAny_pure q))
    have I2 := met_new (g := f2) (C := x) I1
    refine callwith_cm (X := cxS P w K mg base N qual scope f (.ref cda) cc A outer s H) I2 (base_none I1 (Nat.le_refl _)) T.fn2 (thn (ha.run p3 _ _ _ H _ I2 hq) fun us2 s3 ⟨vs2, H2, I3, rv, q2⟩ => ⟨⟨pin_at I3, I3.kIn⟩, ?_⟩) (hst _) (hpl _)
    have hl2 : (Value.ref x :: us2).length = ps2.length := by
      have := G2.len _ _ _ _ q2
      have l2 := rv.length
      simp only [List.length_cons] at this ⊢
      omega
    have b := b2 s3 (.ref x :: us2) I3.kIn (by rw [List.append_nil]; exact hl2)
    rw [List.append_nil] at b
    refine wpAny_call (PySem.W.method_call (pin_at I3) (codeAny_mono (G2.run _ _ s3 H2 ⟨.ref x :: us2, []⟩ (.ref x :: us2) (.ref x :: vs2) _ E0 ((hr.deeper _).mono hjk) I3.env0 b (.cons rfl rv) q2) fun r s' hq' => ?_))
    cases r with
    | error e => exact (show False from hq').elim
    | ok fl =>
      cases fl with
      | ret u =>
        obtain ⟨v, H', I4, rv4, q4⟩ := unpinE (I3.after hq')
        exact wpAt_of_wpAny (ht.run [] s' _ H' _ I4 q4)
      | next => exact False.elim hq'
      | brk => exact False.elim hq'
      | cont => exact False.elim hq'
  · have fin : ∀ {σ' : L2.St} {H' : Hp} {v : V} {u : Value}, Inv (cxS P w K mg base N qual scope f (.ref cda) cc A outer s H) [] σ' H' s' → RelV v u → Q v H' → CE outer P w H s Q u s' :=
      fun {σ' H' v u} J rv q => ⟨v, H', J.os, J.bare, J.base, J.hok, rv, q⟩
    cases fl with
    | ret u =>
      obtain ⟨v, σ', H', J, rv, q⟩ := hs
      exact fin J rv q
    | next =>
      obtain ⟨σ', H', J, q⟩ := hs
      exact fin (v := V.non) (u := Value.none) J rfl q
    | brk =>
      obtain ⟨_, _, _, q⟩ := hs
      exact False.elim q
    | cont =>
      obtain ⟨_, _, _, q⟩ := hs
      exact False.elim q
end Dc

set_option Elab.async false
set_option linter.all false
set_option maxRecDepth 100000
set_option maxHeartbeats 2000000
namespace Dc
open PySem PySem.Spec PyProof.Rows L2
local macro_rules | `(tactic| walk_at "ne") => `(tactic| first | assumption | (refine Ne.symm ?_; assumption) | exact ne_of (by assumption) (by assumption) (by intro q; cases q) | exact ne_of_none (by assumption) (by assumption) | exact Ne.symm (ne_of_none (by assumption) (by assumption)))
local macro_rules | `(tactic| walk_at "hp") => `(tactic| first | assumption | exact upd_same | (refine upd_keep ?_ (by assumption); walk_at "hp") | (refine upd_other ?_ ?_; · walk_at "ne"; · walk_at "hp"))
local macro_rules | `(tactic| walk_at "hl") => `(tactic| first | assumption | exact SqL.of (by walk_at "hp"))
local macro_rules | `(tactic| walk_at "ht") => `(tactic| first | assumption | exact SqT.of (by walk_at "hp"))
local macro_rules | `(tactic| walk_at "rd1") => `(tactic| first
  | ((with_reducible apply rd_var); exact rfl)
  | ((with_reducible apply rd_eq); exact rfl) | ((with_reducible apply rd_ne); exact rfl)
  | with_reducible first
  | refine iteT ?_ | refine iteF ?_ | refine rd_nF ?_ | refine rd_nT ?_ | refine rd_yes ?_ | refine rd_c ?_ | refine rd_op ?_ | refine rd_un ?_ | refine rd_test ?_ | refine rd_B ?_ | refine rd_bl ?_ | refine rd_seq ?_ | refine rd_next ?_ | refine rd_ifs ?_ | refine rd_asg ?_ | refine rd_name ?_ | refine rd_ret ?_ | refine rd_drop ?_
  | refine rd_call ?_ | refine rd_cons ?_ | refine rd_nil ?_ | refine rd_cb ?_ | refine rd_I0 ?_ | refine rd_U ?_ | refine rd_gsub ?_ | refine rd_lst ?_ | refine rd_tup ?_ | refine rd_if ?_ | refine rd_not ?_ | refine rd_rng1 ?_ | refine rd_itup ?_ | refine rd_ilst ?_ | refine rd_bm ?_ | refine rd_bm0 ?_ | refine rd_andV ?_ | refine rd_orV ?_ | refine rd_notV ?_)
local macro_rules | `(tactic| walk_at "rd") => `(tactic| repeat walk_at "rd1")
local macro_rules | `(tactic| walk_at "ci") => `(tactic| first | assumption | (show (0 : Int) < _; first | decide | omega) | exact ⟨by decide, by decide⟩ | exact Or.inr ⟨by decide, by decide⟩ | exact Or.inl ⟨by decide, by decide⟩ | exact ⟨by decide, by decide, by decide⟩ | exact Or.inl ⟨by omega, by omega⟩ | exact Or.inr ⟨by omega, by omega⟩)
local macro_rules | `(tactic| walk_at "ix") => `(tactic| first
  | ((with_reducible apply rd_ixL); (walk_at "hl"); exact rfl)
  | ((with_reducible apply rd_ixT); (walk_at "ht"); exact rfl)
  | ((with_reducible apply rd_lenL); (walk_at "hl"))
  | ((with_reducible apply rd_lenT); (walk_at "ht"))
  | ((with_reducible apply rd_tupOf); (walk_at "hl"))
  | ((with_reducible apply rd_listOf); (walk_at "hl"))
  | (with_reducible refine rd_min2 ?_)
  | ((with_reducible apply rd_I); (walk_at "ci"))
  | ((with_reducible apply rd_setL); (walk_at "hp"); exact rfl))
local macro_rules | `(tactic| walk_at "gs") => `(tactic| repeat first | walk_at "rd1" | walk_at "ix")
local macro_rules | `(tactic| walk_at "go") => `(tactic| repeat first | walk_at "rd1" | walk_at "ix" | with_reducible refine rd_and ?_ | with_reducible refine rd_or ?_)
local macro_rules | `(tactic| walk_at "fo") => `(tactic| (with_reducible refine rd_for ?_))
local macro_rules | `(tactic| walk_at "pm") => `(tactic| repeat first
  | with_reducible first | refine rd_pcons ?_ | refine rd_pstr ?_ | refine rd_pcap ?_ | refine rd_pwild ?_ | refine rd_pnil ?_ | refine rd_por ?_ | refine rd_pno ?_
  | ((with_reducible refine rd_eq rfl ?_); refine ⟨_, rfl, ?_⟩; first | refine rd_T rfl ?_ | refine rd_F (by decide) ?_)
  | dsimp only [List.nil_append, List.singleton_append, List.cons_append, setAll])
local macro_rules | `(tactic| walk_at "pc") => `(tactic| (refine rd_case ?_); (first | (refine rd_phit (SqT.of (by assumption)) rfl ?_) | (refine rd_pmiss (SqT.of (by assumption)) (by simp) ?_)); (walk_at "pm"))

/-! ### the stages' makings -/
def spSuper (J : Cls') : Sp := fun vs H Q _ => ∃ (x dx C : Addr) (ah : V), vs = [.ref x, ah] ∧ StageC J C ∧ H x = some (.ins C dx []) ∧ ∀ H', H' x = some (.ins C dx [("ahead", ah), ("ended", .bl false)]) → Fr [x] H H' → Q .non H'
def spSInit (C : Addr) (n : Nat) (fl : List V → List (Str × V)) : Sp := fun vs H Q _ => ∃ (x dx : Addr) (ah : V) (args : List V), vs = .ref x :: ah :: args ∧ args.length = n ∧ H x = some (.ins C dx []) ∧
  ∀ H', H' x = some (.ins C dx (("ahead", ah) :: ("ended", .bl false) :: fl args)) → Fr [x] H H' → Q .non H'
theorem spSInit.len {C : Addr} {n : Nat} {fl : List V → List (Str × V)} {vs : List V} {H : Hp} {Q : VK} {E : XK} (h : spSInit C n fl vs H Q E) : vs.length = n + 2 := by
  obtain ⟨x, dx, ah, args, rfl, h, _⟩ := h
  simp [h]
section
variable {P : Program} {w : World} {K : PySem.W.Frag} {mg : Str → Option Value} {base : Heap} {J : Cls'} {f f2 : Addr} {fd fd2 : FuncData}
theorem sc_Stage___init__ : FnScope ["self", "ahead"] ["self", "ahead"] (defScope s_Stage___init__) := ⟨rfl, rfl, rfl, by decide +kernel, rfl, by decide +kernel, by decide +kernel⟩
theorem ok_Stage___init__ (T : Txt K mg) (N : NodeF K J) (F : FnP K "__init__" "Stage.__init__" s_Stage___init__ f fd) :
    FnOk P w K mg base CX0 1 f fd ["self", "ahead"] (spSuper J) := by
  refine ok0 F sc_Stage___init__ (fun vs H Q E h => ?_) (fun cdv A outer s H vs Q E hr h => ?_)
  · obtain ⟨x, dx, C, ah, rfl, _⟩ := h
    rfl
  · obtain ⟨x, dx, C, ah, rfl, hC, e, k⟩ := h
    have hC' := hC.draw
    have ca := N.c _ hC'
    refine ⟨_, (pss_cons (ps_fld (pv 0) (pv 1) rfl)
  (pss_one (ps_fld (pv 0) pe_bl rfl))), ?_⟩
    try dsimp only [cxOf, Cx.nox, Cx.wish]
    refine rd_at (σ' := [some (.ref x), some ah]) rfl ?_
    walk_at "go"
    refine rd_fset ?_
    walk_at "go"
    refine rd_st e ca (N.na_ahead _ hC') (by show 0 < 1000; omega) ?_
    have e1 : upd H x (.ins C dx [("ahead", ah)]) x = some (.ins C dx [("ahead", ah)]) := upd_same
    dsimp only
    refine rd_fset ?_
    walk_at "go"
    refine rd_st e1 ca (N.na_ended _ hC') (by show 1 < 1000; omega) ?_
    exact k _ (upd_same.trans rfl) ((Fr.put (S := [x]) (by simp) (nt e)).putN (.inl (by simp)) (nt e1))
theorem sc_Reckon___init__ : SupScope ["self", "ahead", "factor", "term"] ["self", "ahead", "factor", "term"] (defScope s_Reckon___init__) := ⟨rfl, rfl, rfl, by decide +kernel, rfl, by decide +kernel, by decide +kernel, by decide +kernel, rfl, rfl⟩
theorem ok_Reckon___init__ (T : Txt K mg) (N : NodeF K J) (S : SupTxt P K mg "__init__" "Reckon.__init__" (defArgs s_Reckon___init__) (defBody s_Reckon___init__) (defScope s_Reckon___init__) J.reckon f f2 fd)
    (G2 : FnOk P w K mg base CX0 1 f2 fd2 ["self", "ahead"] (spSuper J)) (b2 : Binds K fd2 ["self", "ahead"] []) :
    FnOk P w K mg base CX0 2 f fd ["self", "ahead", "factor", "term"] (spSInit J.reckon 2 fun | [a, b] => [("factor", a), ("term", b)] | _ => []) := by
  refine fn_super S sc_Reckon___init__ rfl rfl G2 b2 (Nat.le_refl _) (fun vs H Q E h => h.len) (fun cda cc A outer s H vs Q E hr h => ?_) (fun _ => rfl) (fun _ => rfl) (fun _ => rfl) (fun _ => rfl)
  obtain ⟨x, dx, ah, args, rfl, hl, e, k⟩ := h
  obtain ⟨a, b, rfl⟩ : ∃ a b, args = [a, b] := match args, hl with | [a, b], _ => ⟨a, b, rfl⟩
  have hC : StageC J J.reckon := .inl rfl
  have hC' := hC.draw
  have ca := N.c _ hC'
  refine ⟨x, dx, _, _, _, (pa_cons (pv 1) pa_nil), (pss_cons (ps_fld (pv 0) (pv 2) rfl)
  (pss_one (ps_fld (pv 0) (pv 3) rfl))), rfl, e, ?_⟩
  try dsimp only [cxS]
  walk_at "go"
  refine ⟨x, dx, _, ah, rfl, hC, e, fun H2 e2 f2 => ?_⟩
  refine rd_at (σ' := some (.ref x) :: some ah :: [some a, some b]) rfl ?_
  try dsimp only
  walk_at "go"
  refine rd_fset ?_
  walk_at "go"
  refine rd_st e2 ca (N.na_factor _ hC') (by show 2 < 1000; omega) ?_
  have e3 : (upd H2 x (.ins J.reckon dx [("ahead", ah), ("ended", .bl false), ("factor", a)])) x = some (.ins J.reckon dx [("ahead", ah), ("ended", .bl false), ("factor", a)]) := upd_same
  try dsimp only
  walk_at "go"
  refine rd_fset ?_
  walk_at "go"
  refine rd_st e3 ca (N.na_term _ hC') (by show 3 < 1000; omega) ?_
  exact k _ (upd_same.trans rfl) ((f2.putN (.inl (by simp)) (nt e2)).putN (.inl (by simp)) (nt e3))
theorem sc_Keep___init__ : SupScope ["self", "ahead", "rest", "wheel"] ["self", "ahead", "rest", "wheel"] (defScope s_Keep___init__) := ⟨rfl, rfl, rfl, by decide +kernel, rfl, by decide +kernel, by decide +kernel, by decide +kernel, rfl, rfl⟩
theorem ok_Keep___init__ (T : Txt K mg) (N : NodeF K J) (S : SupTxt P K mg "__init__" "Keep.__init__" (defArgs s_Keep___init__) (defBody s_Keep___init__) (defScope s_Keep___init__) J.keep f f2 fd)
    (G2 : FnOk P w K mg base CX0 1 f2 fd2 ["self", "ahead"] (spSuper J)) (b2 : Binds K fd2 ["self", "ahead"] []) :
    FnOk P w K mg base CX0 2 f fd ["self", "ahead", "rest", "wheel"] (spSInit J.keep 2 fun | [a, b] => [("rest", a), ("wheel", b)] | _ => []) := by
  refine fn_super S sc_Keep___init__ rfl rfl G2 b2 (Nat.le_refl _) (fun vs H Q E h => h.len) (fun cda cc A outer s H vs Q E hr h => ?_) (fun _ => rfl) (fun _ => rfl) (fun _ => rfl) (fun _ => rfl)
  obtain ⟨x, dx, ah, args, rfl, hl, e, k⟩ := h
  obtain ⟨a, b, rfl⟩ : ∃ a b, args = [a, b] := match args, hl with | [a, b], _ => ⟨a, b, rfl⟩
  have hC : StageC J J.keep := .inr (.inl rfl)
  have hC' := hC.draw
  have ca := N.c _ hC'
  refine ⟨x, dx, _, _, _, (pa_cons (pv 1) pa_nil), (pss_cons (ps_fld (pv 0) (pv 2) rfl)
  (pss_one (ps_fld (pv 0) (pv 3) rfl))), rfl, e, ?_⟩
  try dsimp only [cxS]
  walk_at "go"
  refine ⟨x, dx, _, ah, rfl, hC, e, fun H2 e2 f2 => ?_⟩
  refine rd_at (σ' := some (.ref x) :: some ah :: [some a, some b]) rfl ?_
  try dsimp only
  walk_at "go"
  refine rd_fset ?_
  walk_at "go"
  refine rd_st e2 ca (N.na_rest _ hC') (by show 2 < 1000; omega) ?_
  have e3 : (upd H2 x (.ins J.keep dx [("ahead", ah), ("ended", .bl false), ("rest", a)])) x = some (.ins J.keep dx [("ahead", ah), ("ended", .bl false), ("rest", a)]) := upd_same
  try dsimp only
  walk_at "go"
  refine rd_fset ?_
  walk_at "go"
  refine rd_st e3 ca (N.na_wheel _ hC') (by show 3 < 1000; omega) ?_
  exact k _ (upd_same.trans rfl) ((f2.putN (.inl (by simp)) (nt e2)).putN (.inl (by simp)) (nt e3))
theorem sc_Drop___init__ : SupScope ["self", "ahead", "many"] ["self", "ahead", "many"] (defScope s_Drop___init__) := ⟨rfl, rfl, rfl, by decide +kernel, rfl, by decide +kernel, by decide +kernel, by decide +kernel, rfl, rfl⟩
theorem ok_Drop___init__ (T : Txt K mg) (N : NodeF K J) (S : SupTxt P K mg "__init__" "Drop.__init__" (defArgs s_Drop___init__) (defBody s_Drop___init__) (defScope s_Drop___init__) J.drop f f2 fd)
    (G2 : FnOk P w K mg base CX0 1 f2 fd2 ["self", "ahead"] (spSuper J)) (b2 : Binds K fd2 ["self", "ahead"] []) :
    FnOk P w K mg base CX0 2 f fd ["self", "ahead", "many"] (spSInit J.drop 1 fun | [a] => [("left", a)] | _ => []) := by
  refine fn_super S sc_Drop___init__ rfl rfl G2 b2 (Nat.le_refl _) (fun vs H Q E h => h.len) (fun cda cc A outer s H vs Q E hr h => ?_) (fun _ => rfl) (fun _ => rfl) (fun _ => rfl) (fun _ => rfl)
  obtain ⟨x, dx, ah, args, rfl, hl, e, k⟩ := h
  obtain ⟨a, rfl⟩ : ∃ a, args = [a] := match args, hl with | [a], _ => ⟨a, rfl⟩
  have hC : StageC J J.drop := .inr (.inr (.inl rfl))
  have hC' := hC.draw
  have ca := N.c _ hC'
  refine ⟨x, dx, _, _, _, (pa_cons (pv 1) pa_nil), (pss_one (ps_fld (pv 0) (pv 2) rfl)), rfl, e, ?_⟩
  try dsimp only [cxS]
  walk_at "go"
  refine ⟨x, dx, _, ah, rfl, hC, e, fun H2 e2 f2 => ?_⟩
  refine rd_at (σ' := some (.ref x) :: some ah :: [some a]) rfl ?_
  try dsimp only
  walk_at "go"
  refine rd_fset ?_
  walk_at "go"
  refine rd_st e2 ca (N.na_left _ hC') (by show 2 < 1000; omega) ?_
  exact k _ (upd_same.trans rfl) (f2.putN (.inl (by simp)) (nt e2))
theorem sc_Take___init__ : SupScope ["self", "ahead", "many"] ["self", "ahead", "many"] (defScope s_Take___init__) := ⟨rfl, rfl, rfl, by decide +kernel, rfl, by decide +kernel, by decide +kernel, by decide +kernel, rfl, rfl⟩
theorem ok_Take___init__ (T : Txt K mg) (N : NodeF K J) (S : SupTxt P K mg "__init__" "Take.__init__" (defArgs s_Take___init__) (defBody s_Take___init__) (defScope s_Take___init__) J.take f f2 fd)
    (G2 : FnOk P w K mg base CX0 1 f2 fd2 ["self", "ahead"] (spSuper J)) (b2 : Binds K fd2 ["self", "ahead"] []) :
    FnOk P w K mg base CX0 2 f fd ["self", "ahead", "many"] (spSInit J.take 1 fun | [a] => [("left", a)] | _ => []) := by
  refine fn_super S sc_Take___init__ rfl rfl G2 b2 (Nat.le_refl _) (fun vs H Q E h => h.len) (fun cda cc A outer s H vs Q E hr h => ?_) (fun _ => rfl) (fun _ => rfl) (fun _ => rfl) (fun _ => rfl)
  obtain ⟨x, dx, ah, args, rfl, hl, e, k⟩ := h
  obtain ⟨a, rfl⟩ : ∃ a, args = [a] := match args, hl with | [a], _ => ⟨a, rfl⟩
  have hC : StageC J J.take := .inr (.inr (.inr (.inl rfl)))
  have hC' := hC.draw
  have ca := N.c _ hC'
  refine ⟨x, dx, _, _, _, (pa_cons (pv 1) pa_nil), (pss_one (ps_fld (pv 0) (pv 2) rfl)), rfl, e, ?_⟩
  try dsimp only [cxS]
  walk_at "go"
  refine ⟨x, dx, _, ah, rfl, hC, e, fun H2 e2 f2 => ?_⟩
  refine rd_at (σ' := some (.ref x) :: some ah :: [some a]) rfl ?_
  try dsimp only
  walk_at "go"
  refine rd_fset ?_
  walk_at "go"
  refine rd_st e2 ca (N.na_left _ hC') (by show 2 < 1000; omega) ?_
  exact k _ (upd_same.trans rfl) (f2.putN (.inl (by simp)) (nt e2))
theorem sc_Each___init__ : SupScope ["self", "ahead", "many"] ["self", "ahead", "many"] (defScope s_Each___init__) := ⟨rfl, rfl, rfl, by decide +kernel, rfl, by decide +kernel, by decide +kernel, by decide +kernel, rfl, rfl⟩
theorem ok_Each___init__ (T : Txt K mg) (N : NodeF K J) (S : SupTxt P K mg "__init__" "Each.__init__" (defArgs s_Each___init__) (defBody s_Each___init__) (defScope s_Each___init__) J.each f f2 fd)
    (G2 : FnOk P w K mg base CX0 1 f2 fd2 ["self", "ahead"] (spSuper J)) (b2 : Binds K fd2 ["self", "ahead"] []) :
    FnOk P w K mg base CX0 2 f fd ["self", "ahead", "many"] (spSInit J.each 1 fun | [a] => [("many", a), ("left", .int 0), ("number", .non)] | _ => []) := by
  refine fn_super S sc_Each___init__ rfl rfl G2 b2 (Nat.le_refl _) (fun vs H Q E h => h.len) (fun cda cc A outer s H vs Q E hr h => ?_) (fun _ => rfl) (fun _ => rfl) (fun _ => rfl) (fun _ => rfl)
  obtain ⟨x, dx, ah, args, rfl, hl, e, k⟩ := h
  obtain ⟨a, rfl⟩ : ∃ a, args = [a] := match args, hl with | [a], _ => ⟨a, rfl⟩
  have hC : StageC J J.each := .inr (.inr (.inr (.inr (.inl rfl))))
  have hC' := hC.draw
  have ca := N.c _ hC'
  refine ⟨x, dx, _, _, _, (pa_cons (pv 1) pa_nil), (pss_cons (ps_fld (pv 0) (pv 2) rfl)
  (pss_cons (ps_fld (pv 0) pe_int rfl)
  (pss_one (ps_fld (pv 0) pe_non rfl)))), rfl, e, ?_⟩
  try dsimp only [cxS]
  walk_at "go"
  refine ⟨x, dx, _, ah, rfl, hC, e, fun H2 e2 f2 => ?_⟩
  refine rd_at (σ' := some (.ref x) :: some ah :: [some a]) rfl ?_
  try dsimp only
  walk_at "go"
  refine rd_fset ?_
  walk_at "go"
  refine rd_st e2 ca (N.na_many _ hC') (by show 2 < 1000; omega) ?_
  have e3 : (upd H2 x (.ins J.each dx [("ahead", ah), ("ended", .bl false), ("many", a)])) x = some (.ins J.each dx [("ahead", ah), ("ended", .bl false), ("many", a)]) := upd_same
  try dsimp only
  walk_at "go"
  refine rd_fset ?_
  walk_at "go"
  refine rd_st e3 ca (N.na_left _ hC') (by show 3 < 1000; omega) ?_
  have e4 : (upd (upd H2 x (.ins J.each dx [("ahead", ah), ("ended", .bl false), ("many", a)])) x (.ins J.each dx [("ahead", ah), ("ended", .bl false), ("many", a), ("left", .int 0)])) x = some (.ins J.each dx [("ahead", ah), ("ended", .bl false), ("many", a), ("left", .int 0)]) := upd_same
  try dsimp only
  walk_at "go"
  refine rd_fset ?_
  walk_at "go"
  refine rd_st e4 ca (N.na_number _ hC') (by show 4 < 1000; omega) ?_
  exact k _ (upd_same.trans rfl) (((f2.putN (.inl (by simp)) (nt e2)).putN (.inl (by simp)) (nt e3)).putN (.inl (by simp)) (nt e4))
theorem sc_Until___init__ : SupScope ["self", "ahead", "n", "meter"] ["self", "ahead", "n", "meter"] (defScope s_Until___init__) := ⟨rfl, rfl, rfl, by decide +kernel, rfl, by decide +kernel, by decide +kernel, by decide +kernel, rfl, rfl⟩
theorem ok_Until___init__ (T : Txt K mg) (N : NodeF K J) (S : SupTxt P K mg "__init__" "Until.__init__" (defArgs s_Until___init__) (defBody s_Until___init__) (defScope s_Until___init__) J.until' f f2 fd)
    (G2 : FnOk P w K mg base CX0 1 f2 fd2 ["self", "ahead"] (spSuper J)) (b2 : Binds K fd2 ["self", "ahead"] []) :
    FnOk P w K mg base CX0 2 f fd ["self", "ahead", "n", "meter"] (spSInit J.until' 2 fun | [a, b] => [("n", a), ("meter", b)] | _ => []) := by
  refine fn_super S sc_Until___init__ rfl rfl G2 b2 (Nat.le_refl _) (fun vs H Q E h => h.len) (fun cda cc A outer s H vs Q E hr h => ?_) (fun _ => rfl) (fun _ => rfl) (fun _ => rfl) (fun _ => rfl)
  obtain ⟨x, dx, ah, args, rfl, hl, e, k⟩ := h
  obtain ⟨a, b, rfl⟩ : ∃ a b, args = [a, b] := match args, hl with | [a, b], _ => ⟨a, b, rfl⟩
  have hC : StageC J J.until' := .inr (.inr (.inr (.inr (.inr (.inl rfl)))))
  have hC' := hC.draw
  have ca := N.c _ hC'
  refine ⟨x, dx, _, _, _, (pa_cons (pv 1) pa_nil), (pss_cons (ps_fld (pv 0) (pv 2) rfl)
  (pss_one (ps_fld (pv 0) (pv 3) rfl))), rfl, e, ?_⟩
  try dsimp only [cxS]
  walk_at "go"
  refine ⟨x, dx, _, ah, rfl, hC, e, fun H2 e2 f2 => ?_⟩
  refine rd_at (σ' := some (.ref x) :: some ah :: [some a, some b]) rfl ?_
  try dsimp only
  walk_at "go"
  refine rd_fset ?_
  walk_at "go"
  refine rd_st e2 ca (N.na_n _ hC') (by show 2 < 1000; omega) ?_
  have e3 : (upd H2 x (.ins J.until' dx [("ahead", ah), ("ended", .bl false), ("n", a)])) x = some (.ins J.until' dx [("ahead", ah), ("ended", .bl false), ("n", a)]) := upd_same
  try dsimp only
  walk_at "go"
  refine rd_fset ?_
  walk_at "go"
  refine rd_st e3 ca (N.na_meter _ hC') (by show 3 < 1000; omega) ?_
  exact k _ (upd_same.trans rfl) ((f2.putN (.inl (by simp)) (nt e2)).putN (.inl (by simp)) (nt e3))
theorem sc_Unlike___init__ : SupScope ["self", "ahead"] ["self", "ahead"] (defScope s_Unlike___init__) := ⟨rfl, rfl, rfl, by decide +kernel, rfl, by decide +kernel, by decide +kernel, by decide +kernel, rfl, rfl⟩
theorem ok_Unlike___init__ (T : Txt K mg) (N : NodeF K J) (S : SupTxt P K mg "__init__" "Unlike.__init__" (defArgs s_Unlike___init__) (defBody s_Unlike___init__) (defScope s_Unlike___init__) J.unlike f f2 fd)
    (G2 : FnOk P w K mg base CX0 1 f2 fd2 ["self", "ahead"] (spSuper J)) (b2 : Binds K fd2 ["self", "ahead"] []) :
    FnOk P w K mg base CX0 2 f fd ["self", "ahead"] (spSInit J.unlike 0 fun _ => [("last", .non)]) := by
  refine fn_super S sc_Unlike___init__ rfl rfl G2 b2 (Nat.le_refl _) (fun vs H Q E h => h.len) (fun cda cc A outer s H vs Q E hr h => ?_) (fun _ => rfl) (fun _ => rfl) (fun _ => rfl) (fun _ => rfl)
  obtain ⟨x, dx, ah, args, rfl, hl, e, k⟩ := h
  obtain rfl : args = [] := List.eq_nil_of_length_eq_zero hl
  have hC : StageC J J.unlike := .inr (.inr (.inr (.inr (.inr (.inr (.inl rfl))))))
  have hC' := hC.draw
  have ca := N.c _ hC'
  refine ⟨x, dx, _, _, _, (pa_cons (pv 1) pa_nil), (pss_one (ps_fld (pv 0) pe_non rfl)), rfl, e, ?_⟩
  try dsimp only [cxS]
  walk_at "go"
  refine ⟨x, dx, _, ah, rfl, hC, e, fun H2 e2 f2 => ?_⟩
  refine rd_at (σ' := some (.ref x) :: some ah :: []) rfl ?_
  try dsimp only
  walk_at "go"
  refine rd_fset ?_
  walk_at "go"
  refine rd_st e2 ca (N.na_last _ hC') (by show 2 < 1000; omega) ?_
  exact k _ (upd_same.trans rfl) (f2.putN (.inl (by simp)) (nt e2))
theorem sc_Both___init__ : SupScope ["self", "ahead", "other", "meter"] ["self", "ahead", "other", "meter"] (defScope s_Both___init__) := ⟨rfl, rfl, rfl, by decide +kernel, rfl, by decide +kernel, by decide +kernel, by decide +kernel, rfl, rfl⟩
theorem ok_Both___init__ (T : Txt K mg) (N : NodeF K J) (S : SupTxt P K mg "__init__" "Both.__init__" (defArgs s_Both___init__) (defBody s_Both___init__) (defScope s_Both___init__) J.both f f2 fd)
    (G2 : FnOk P w K mg base CX0 1 f2 fd2 ["self", "ahead"] (spSuper J)) (b2 : Binds K fd2 ["self", "ahead"] []) :
    FnOk P w K mg base CX0 2 f fd ["self", "ahead", "other", "meter"] (spSInit J.both 2 fun | [a, b] => [("other", a), ("meter", b)] | _ => []) := by
  refine fn_super S sc_Both___init__ rfl rfl G2 b2 (Nat.le_refl _) (fun vs H Q E h => h.len) (fun cda cc A outer s H vs Q E hr h => ?_) (fun _ => rfl) (fun _ => rfl) (fun _ => rfl) (fun _ => rfl)
  obtain ⟨x, dx, ah, args, rfl, hl, e, k⟩ := h
  obtain ⟨a, b, rfl⟩ : ∃ a b, args = [a, b] := match args, hl with | [a, b], _ => ⟨a, b, rfl⟩
  have hC : StageC J J.both := .inr (.inr (.inr (.inr (.inr (.inr (.inr (.inl rfl)))))))
  have hC' := hC.draw
  have ca := N.c _ hC'
  refine ⟨x, dx, _, _, _, (pa_cons (pv 1) pa_nil), (pss_cons (ps_fld (pv 0) (pv 2) rfl)
  (pss_one (ps_fld (pv 0) (pv 3) rfl))), rfl, e, ?_⟩
  try dsimp only [cxS]
  walk_at "go"
  refine ⟨x, dx, _, ah, rfl, hC, e, fun H2 e2 f2 => ?_⟩
  refine rd_at (σ' := some (.ref x) :: some ah :: [some a, some b]) rfl ?_
  try dsimp only
  walk_at "go"
  refine rd_fset ?_
  walk_at "go"
  refine rd_st e2 ca (N.na_other _ hC') (by show 2 < 1000; omega) ?_
  have e3 : (upd H2 x (.ins J.both dx [("ahead", ah), ("ended", .bl false), ("other", a)])) x = some (.ins J.both dx [("ahead", ah), ("ended", .bl false), ("other", a)]) := upd_same
  try dsimp only
  walk_at "go"
  refine rd_fset ?_
  walk_at "go"
  refine rd_st e3 ca (N.na_meter _ hC') (by show 3 < 1000; omega) ?_
  exact k _ (upd_same.trans rfl) ((f2.putN (.inl (by simp)) (nt e2)).putN (.inl (by simp)) (nt e3))
theorem sc_Then___init__ : SupScope ["self", "ahead", "other"] ["self", "ahead", "other"] (defScope s_Then___init__) := ⟨rfl, rfl, rfl, by decide +kernel, rfl, by decide +kernel, by decide +kernel, by decide +kernel, rfl, rfl⟩
theorem ok_Then___init__ (T : Txt K mg) (N : NodeF K J) (S : SupTxt P K mg "__init__" "Then.__init__" (defArgs s_Then___init__) (defBody s_Then___init__) (defScope s_Then___init__) J.thn f f2 fd)
    (G2 : FnOk P w K mg base CX0 1 f2 fd2 ["self", "ahead"] (spSuper J)) (b2 : Binds K fd2 ["self", "ahead"] []) :
    FnOk P w K mg base CX0 2 f fd ["self", "ahead", "other"] (spSInit J.thn 1 fun | [a] => [("other", a)] | _ => []) := by
  refine fn_super S sc_Then___init__ rfl rfl G2 b2 (Nat.le_refl _) (fun vs H Q E h => h.len) (fun cda cc A outer s H vs Q E hr h => ?_) (fun _ => rfl) (fun _ => rfl) (fun _ => rfl) (fun _ => rfl)
  obtain ⟨x, dx, ah, args, rfl, hl, e, k⟩ := h
  obtain ⟨a, rfl⟩ : ∃ a, args = [a] := match args, hl with | [a], _ => ⟨a, rfl⟩
  have hC : StageC J J.thn := .inr (.inr (.inr (.inr (.inr (.inr (.inr (.inr rfl)))))))
  have hC' := hC.draw
  have ca := N.c _ hC'
  refine ⟨x, dx, _, _, _, (pa_cons (pv 1) pa_nil), (pss_one (ps_fld (pv 0) (pv 2) rfl)), rfl, e, ?_⟩
  try dsimp only [cxS]
  walk_at "go"
  refine ⟨x, dx, _, ah, rfl, hC, e, fun H2 e2 f2 => ?_⟩
  refine rd_at (σ' := some (.ref x) :: some ah :: [some a]) rfl ?_
  try dsimp only
  walk_at "go"
  refine rd_fset ?_
  walk_at "go"
  refine rd_st e2 ca (N.na_other _ hC') (by show 2 < 1000; omega) ?_
  exact k _ (upd_same.trans rfl) (f2.putN (.inl (by simp)) (nt e2))
end
end Dc

set_option Elab.async false
set_option linter.all false
set_option maxRecDepth 100000
set_option maxHeartbeats 2000000
namespace Dc
open PySem PySem.Spec PyProof.Rows L2
local macro_rules | `(tactic| walk_at "ne") => `(tactic| first | assumption | (refine Ne.symm ?_; assumption) | exact ne_of (by assumption) (by assumption) (by intro q; cases q) | exact ne_of_none (by assumption) (by assumption) | exact Ne.symm (ne_of_none (by assumption) (by assumption)))
local macro_rules | `(tactic| walk_at "hp") => `(tactic| first | assumption | exact upd_same | (refine upd_keep ?_ (by assumption); walk_at "hp") | (refine upd_other ?_ ?_; · walk_at "ne"; · walk_at "hp"))
local macro_rules | `(tactic| walk_at "hl") => `(tactic| first | assumption | exact SqL.of (by walk_at "hp"))
local macro_rules | `(tactic| walk_at "ht") => `(tactic| first | assumption | exact SqT.of (by walk_at "hp"))
local macro_rules | `(tactic| walk_at "rd1") => `(tactic| first
  | ((with_reducible apply rd_var); exact rfl)
  | ((with_reducible apply rd_eq); exact rfl) | ((with_reducible apply rd_ne); exact rfl)
  | with_reducible first
  | refine iteT ?_ | refine iteF ?_ | refine rd_nF ?_ | refine rd_nT ?_ | refine rd_yes ?_ | refine rd_c ?_ | refine rd_op ?_ | refine rd_un ?_ | refine rd_test ?_ | refine rd_B ?_ | refine rd_bl ?_ | refine rd_seq ?_ | refine rd_next ?_ | refine rd_ifs ?_ | refine rd_asg ?_ | refine rd_name ?_ | refine rd_ret ?_ | refine rd_drop ?_
  | refine rd_call ?_ | refine rd_cons ?_ | refine rd_nil ?_ | refine rd_cb ?_ | refine rd_I0 ?_ | refine rd_U ?_ | refine rd_gsub ?_ | refine rd_lst ?_ | refine rd_tup ?_ | refine rd_if ?_ | refine rd_not ?_ | refine rd_rng1 ?_ | refine rd_itup ?_ | refine rd_ilst ?_ | refine rd_bm ?_ | refine rd_bm0 ?_ | refine rd_andV ?_ | refine rd_orV ?_ | refine rd_notV ?_)
local macro_rules | `(tactic| walk_at "rd") => `(tactic| repeat walk_at "rd1")
local macro_rules | `(tactic| walk_at "ci") => `(tactic| first | assumption | (show (0 : Int) < _; first | decide | omega) | exact ⟨by decide, by decide⟩ | exact Or.inr ⟨by decide, by decide⟩ | exact Or.inl ⟨by decide, by decide⟩ | exact ⟨by decide, by decide, by decide⟩ | exact Or.inl ⟨by omega, by omega⟩ | exact Or.inr ⟨by omega, by omega⟩)
local macro_rules | `(tactic| walk_at "ix") => `(tactic| first
  | ((with_reducible apply rd_ixL); (walk_at "hl"); exact rfl)
  | ((with_reducible apply rd_ixT); (walk_at "ht"); exact rfl)
  | ((with_reducible apply rd_lenL); (walk_at "hl"))
  | ((with_reducible apply rd_lenT); (walk_at "ht"))
  | ((with_reducible apply rd_tupOf); (walk_at "hl"))
  | ((with_reducible apply rd_listOf); (walk_at "hl"))
  | (with_reducible refine rd_min2 ?_)
  | ((with_reducible apply rd_I); (walk_at "ci"))
  | ((with_reducible apply rd_setL); (walk_at "hp"); exact rfl))
local macro_rules | `(tactic| walk_at "gs") => `(tactic| repeat first | walk_at "rd1" | walk_at "ix")
local macro_rules | `(tactic| walk_at "go") => `(tactic| repeat first | walk_at "rd1" | walk_at "ix" | with_reducible refine rd_and ?_ | with_reducible refine rd_or ?_)
local macro_rules | `(tactic| walk_at "fo") => `(tactic| (with_reducible refine rd_for ?_))
local macro_rules | `(tactic| walk_at "pm") => `(tactic| repeat first
  | with_reducible first | refine rd_pcons ?_ | refine rd_pstr ?_ | refine rd_pcap ?_ | refine rd_pwild ?_ | refine rd_pnil ?_ | refine rd_por ?_ | refine rd_pno ?_
  | ((with_reducible refine rd_eq rfl ?_); refine ⟨_, rfl, ?_⟩; first | refine rd_T rfl ?_ | refine rd_F (by decide) ?_)
  | dsimp only [List.nil_append, List.singleton_append, List.cons_append, setAll])
local macro_rules | `(tactic| walk_at "pc") => `(tactic| (refine rd_case ?_); (first | (refine rd_phit (SqT.of (by assumption)) rfl ?_) | (refine rd_pmiss (SqT.of (by assumption)) (by simp) ?_)); (walk_at "pm"))

/-! ### the makings of makers and meter -/
def spMInit (J : Cls') : Sp := fun vs H Q _ => ∃ (x dx : Addr), vs = [.ref x] ∧ H x = some (.ins J.meter dx []) ∧
  ∀ H' cs lo, MetAt J H' x cs lo ⟨200, []⟩ [] → x ≠ cs → x ≠ lo → cs ≠ lo → H cs = none → H lo = none → Fr [x] H H' → Q .non H'
def spCInit (J : Cls') : Sp := fun vs H Q _ => ∃ (x dx me cs lo : Addr) (m : Mt) (gs : List Int) (b s : Int), vs = [.ref x, .int b, .int s, .ref me] ∧ H x = some (.ins J.count dx []) ∧ MetAt J H me cs lo m gs ∧ me ≠ cs ∧ me ≠ lo ∧ cs ≠ lo ∧ x ≠ me ∧ gs.length ≤ 1000 ∧
  ∀ H', H' x = some (.ins J.count dx [("number", .int b), ("step", .int s), ("meter", .ref me), ("place", .int gs.length)]) → MetAt J H' me cs lo m (gs ++ [0]) → Fr [x, cs] H H' → Q .non H'
def spRInit (J : Cls') : Sp := fun vs H Q _ => ∃ (x dx me cs lo p : Addr) (m : Mt) (gs : List Int), vs = [.ref x, .ref p, .ref me] ∧ H x = some (.ins J.row dx []) ∧ MetAt J H me cs lo m gs ∧ me ≠ cs ∧ me ≠ lo ∧ cs ≠ lo ∧ x ≠ me ∧ gs.length ≤ 1000 ∧
  ∀ H', H' x = some (.ins J.row dx [("numbers", .ref p), ("at", .int 0), ("meter", .ref me), ("place", .int gs.length)]) → MetAt J H' me cs lo m (gs ++ [0]) → Fr [x, cs] H H' → Q .non H'
section
variable {P : Program} {w : World} {K : PySem.W.Frag} {mg : Str → Option Value} {base : Heap} {J : Cls'} {f f2 : Addr} {fd fd2 : FuncData}
theorem sc_Meter___init__ : FnScope ["self"] ["self"] (defScope s_Meter___init__) := ⟨rfl, rfl, rfl, by decide +kernel, rfl, by decide +kernel, by decide +kernel⟩
theorem ok_Meter___init__ (T : Txt K mg) (M : MetF K J) (F : FnP K "__init__" "Meter.__init__" s_Meter___init__ f fd) :
    FnOk P w K mg base CX0 1 f fd ["self"] (spMInit J) := by
  refine ok0 F sc_Meter___init__ (fun vs H Q E h => ?_) (fun cdv A outer s H vs Q E hr h => ?_)
  · obtain ⟨x, dx, rfl, _⟩ := h
    rfl
  · obtain ⟨x, dx, rfl, e, k⟩ := h
    refine ⟨_, (pss_cons (ps_fld (pv 0) (pe_lst pa_nil) rfl)
  (pss_cons (ps_fld (pv 0) (pe_lst pa_nil) rfl)
  (pss_one (ps_fld (pv 0) pe_int rfl)))), ?_⟩
    try dsimp only [cxOf, Cx.nox, Cx.wish]
    refine rd_at (σ' := [some (.ref x)]) rfl ?_
    walk_at "go"
    refine rd_fset ?_
    walk_at "go"
    refine ⟨Nat.zero_le _, fun cs hcs => ?_⟩
    walk_at "go"
    have n1 : x ≠ cs := ne_of_none e hcs
    refine rd_st (upd_keep e hcs) M.c M.counts (by show 0 < 1000; omega) ?_
    have e1 : upd (upd H cs (.lst [])) x (.ins J.meter dx [("counts", .ref cs)]) x = some (.ins J.meter dx [("counts", .ref cs)]) := upd_same
    have c1 : upd (upd H cs (.lst [])) x (.ins J.meter dx [("counts", .ref cs)]) cs = some (.lst []) := upd_other n1.symm upd_same
    dsimp only
    refine rd_fset ?_
    walk_at "go"
    refine ⟨Nat.zero_le _, fun lo hlo => ?_⟩
    have hlo : upd (upd H cs (.lst [])) x (.ins J.meter dx [("counts", .ref cs)]) lo = none := hlo
    walk_at "go"
    have n2 : x ≠ lo := ne_of_none e1 hlo
    have n3 : cs ≠ lo := ne_of_none c1 hlo
    refine rd_st (upd_keep e1 hlo) M.c M.lost (by show 1 < 1000; omega) ?_
    have e2 : upd (upd (upd (upd H cs (.lst [])) x (.ins J.meter dx [("counts", .ref cs)])) lo (.lst [])) x (.ins J.meter dx [("counts", .ref cs), ("lost", .ref lo)]) x = some (.ins J.meter dx [("counts", .ref cs), ("lost", .ref lo)]) := upd_same
    dsimp only
    refine rd_fset ?_
    walk_at "go"
    refine rd_st e2 M.c M.left (by show 2 < 1000; omega) ?_
    have hl0 : H lo = none := by
      rw [upd_ne n2.symm, upd_ne n3.symm] at hlo
      exact hlo
    refine k _ cs lo ⟨⟨dx, upd_same.trans rfl⟩, ?_, ?_⟩ n1 n2 n3 hcs hl0 ?_
    · exact upd_other n1.symm (upd_other n1.symm (upd_other n3 c1))
    · exact upd_other n2.symm (upd_other n2.symm upd_same)
    · exact (((((Fr.new (S := [x]) hcs).putN (.inl (by simp)) (nt (upd_keep e hcs))).newN hlo).putN (.inl (by simp)) (nt (upd_keep e1 hlo))).putN (.inl (by simp)) (nt e2))
theorem sc_Count___init__ : FnScope ["self", "begin", "step", "meter"] ["self", "begin", "step", "meter"] (defScope s_Count___init__) := ⟨rfl, rfl, rfl, by decide +kernel, rfl, by decide +kernel, by decide +kernel⟩
theorem ok_Count___init__ (T : Txt K mg) (N : NodeF K J) (F : FnP K "__init__" "Count.__init__" s_Count___init__ f fd) (G_enter : CalM P w K mg base CX0 1 J.meter "enter" ["self"] (spEnter J)) :
    FnOk P w K mg base CX0 2 f fd ["self", "begin", "step", "meter"] (spCInit J) := by
  refine ok0 F sc_Count___init__ (fun vs H Q E h => ?_) (fun cdv A outer s H vs Q E hr h => ?_)
  · obtain ⟨x, dx, me, cs, lo, m, gs, b, s, rfl, _⟩ := h
    rfl
  · obtain ⟨x, dx, me, cs, lo, m, gs, b, st, rfl, e, M, n1, n2, n3, nx, hg, k⟩ := h
    have hC : DrawC J J.count := .inl rfl
    have ca := N.c _ hC
    have nc : x ≠ cs := ne_of e M.2.1 (by intro q; cases q)
    have nl : x ≠ lo := ne_of e M.2.2 (by intro q; cases q)
    refine ⟨_, (pss_cons (ps_fld (pv 0) (pv 1) rfl)
  (pss_cons (ps_fld (pv 0) (pv 2) rfl)
  (pss_cons (ps_fld (pv 0) (pv 3) rfl)
  (pss_one (ps_fld (pv 0) (pe_cm0 (pv 3) G_enter (hr.mono (by omega)) pass0) rfl))))), ?_⟩
    try dsimp only [cxOf, Cx.nox, Cx.wish]
    refine rd_at (σ' := [some (.ref x), some (.int b), some (.int st), some (.ref me)]) rfl ?_
    walk_at "go"
    refine rd_fset ?_
    walk_at "go"
    refine rd_st e ca (N.na_number _ hC) (by show 0 < 1000; omega) ?_
    have e1 : upd H x (.ins J.count dx [("number", .int b)]) x = some (.ins J.count dx [("number", .int b)]) := upd_same
    dsimp only
    refine rd_fset ?_
    walk_at "go"
    refine rd_st e1 ca (N.na_step _ hC) (by show 1 < 1000; omega) ?_
    have e2 : upd (upd H x (.ins J.count dx [("number", .int b)])) x (.ins J.count dx [("number", .int b), ("step", .int st)]) x = some (.ins J.count dx [("number", .int b), ("step", .int st)]) := upd_same
    dsimp only
    refine rd_fset ?_
    walk_at "go"
    refine rd_st e2 ca (N.na_meter _ hC) (by show 2 < 1000; omega) ?_
    have e3 : upd (upd (upd H x (.ins J.count dx [("number", .int b)])) x (.ins J.count dx [("number", .int b), ("step", .int st)])) x (.ins J.count dx [("number", .int b), ("step", .int st), ("meter", .ref me)]) x = some (.ins J.count dx [("number", .int b), ("step", .int st), ("meter", .ref me)]) := upd_same
    have f3 : Fr [x, cs] H (upd (upd (upd H x (.ins J.count dx [("number", .int b)])) x (.ins J.count dx [("number", .int b), ("step", .int st)])) x (.ins J.count dx [("number", .int b), ("step", .int st), ("meter", .ref me)])) := ((Fr.put (by simp) (nt e)).putN (.inl (by simp)) (nt e1)).putN (.inl (by simp)) (nt e2)
    have M3 := ((M.put (o := .ins J.count dx [("number", .int b)]) ⟨nx, nc, nl⟩).put (o := .ins J.count dx [("number", .int b), ("step", .int st)]) ⟨nx, nc, nl⟩).put (o := .ins J.count dx [("number", .int b), ("step", .int st), ("meter", .ref me)]) ⟨nx, nc, nl⟩
    obtain ⟨⟨dm, em⟩, _, _⟩ := id M3
    dsimp only
    refine rd_fset ?_
    refine rd_meth ?_
    walk_at "go"
    refine rd_m em rfl ?_
    walk_at "go"
    refine ⟨me, cs, lo, m, gs, rfl, M3, n1, n2, n3, hg, fun H' M' f' => ?_⟩
    have e4 := f'.at e3 (by simpa using nc)
    walk_at "go"
    refine rd_st e4 ca (N.na_place _ hC) (by show 3 < 1000; omega) ?_
    exact k _ (upd_same.trans rfl) (M'.put ⟨nx, nc, nl⟩) ((f3.tr (f'.mono (by simp))).putN (.inl (by simp)) (nt e4))
theorem sc_Row___init__ : FnScope ["self", "numbers", "meter"] ["self", "numbers", "meter"] (defScope s_Row___init__) := ⟨rfl, rfl, rfl, by decide +kernel, rfl, by decide +kernel, by decide +kernel⟩
theorem ok_Row___init__ (T : Txt K mg) (N : NodeF K J) (F : FnP K "__init__" "Row.__init__" s_Row___init__ f fd) (G_enter : CalM P w K mg base CX0 1 J.meter "enter" ["self"] (spEnter J)) :
    FnOk P w K mg base CX0 2 f fd ["self", "numbers", "meter"] (spRInit J) := by
  refine ok0 F sc_Row___init__ (fun vs H Q E h => ?_) (fun cdv A outer s H vs Q E hr h => ?_)
  · obtain ⟨x, dx, me, cs, lo, p, m, gs, rfl, _⟩ := h
    rfl
  · obtain ⟨x, dx, me, cs, lo, p, m, gs, rfl, e, M, n1, n2, n3, nx, hg, k⟩ := h
    have hC : DrawC J J.row := .inr (.inl rfl)
    have ca := N.c _ hC
    have nc : x ≠ cs := ne_of e M.2.1 (by intro q; cases q)
    have nl : x ≠ lo := ne_of e M.2.2 (by intro q; cases q)
    refine ⟨_, (pss_cons (ps_fld (pv 0) (pv 1) rfl)
  (pss_cons (ps_fld (pv 0) pe_int rfl)
  (pss_cons (ps_fld (pv 0) (pv 2) rfl)
  (pss_one (ps_fld (pv 0) (pe_cm0 (pv 2) G_enter (hr.mono (by omega)) pass0) rfl))))), ?_⟩
    try dsimp only [cxOf, Cx.nox, Cx.wish]
    refine rd_at (σ' := [some (.ref x), some (.ref p), some (.ref me)]) rfl ?_
    walk_at "go"
    refine rd_fset ?_
    walk_at "go"
    refine rd_st e ca (N.na_numbers _ hC) (by show 0 < 1000; omega) ?_
    have e1 : upd H x (.ins J.row dx [("numbers", .ref p)]) x = some (.ins J.row dx [("numbers", .ref p)]) := upd_same
    dsimp only
    refine rd_fset ?_
    walk_at "go"
    refine rd_st e1 ca (N.na_at _ hC) (by show 1 < 1000; omega) ?_
    have e2 : upd (upd H x (.ins J.row dx [("numbers", .ref p)])) x (.ins J.row dx [("numbers", .ref p), ("at", .int 0)]) x = some (.ins J.row dx [("numbers", .ref p), ("at", .int 0)]) := upd_same
    dsimp only
    refine rd_fset ?_
    walk_at "go"
    refine rd_st e2 ca (N.na_meter _ hC) (by show 2 < 1000; omega) ?_
    have e3 : upd (upd (upd H x (.ins J.row dx [("numbers", .ref p)])) x (.ins J.row dx [("numbers", .ref p), ("at", .int 0)])) x (.ins J.row dx [("numbers", .ref p), ("at", .int 0), ("meter", .ref me)]) x = some (.ins J.row dx [("numbers", .ref p), ("at", .int 0), ("meter", .ref me)]) := upd_same
    have f3 : Fr [x, cs] H (upd (upd (upd H x (.ins J.row dx [("numbers", .ref p)])) x (.ins J.row dx [("numbers", .ref p), ("at", .int 0)])) x (.ins J.row dx [("numbers", .ref p), ("at", .int 0), ("meter", .ref me)])) := ((Fr.put (by simp) (nt e)).putN (.inl (by simp)) (nt e1)).putN (.inl (by simp)) (nt e2)
    have M3 := ((M.put (o := .ins J.row dx [("numbers", .ref p)]) ⟨nx, nc, nl⟩).put (o := .ins J.row dx [("numbers", .ref p), ("at", .int 0)]) ⟨nx, nc, nl⟩).put (o := .ins J.row dx [("numbers", .ref p), ("at", .int 0), ("meter", .ref me)]) ⟨nx, nc, nl⟩
    obtain ⟨⟨dm, em⟩, _, _⟩ := id M3
    dsimp only
    refine rd_fset ?_
    refine rd_meth ?_
    walk_at "go"
    refine rd_m em rfl ?_
    walk_at "go"
    refine ⟨me, cs, lo, m, gs, rfl, M3, n1, n2, n3, hg, fun H' M' f' => ?_⟩
    have e4 := f'.at e3 (by simpa using nc)
    walk_at "go"
    refine rd_st e4 ca (N.na_place _ hC) (by show 3 < 1000; omega) ?_
    exact k _ (upd_same.trans rfl) (M'.put ⟨nx, nc, nl⟩) ((f3.tr (f'.mono (by simp))).putN (.inl (by simp)) (nt e4))
end
end Dc

set_option Elab.async false
set_option linter.all false
set_option maxRecDepth 100000
set_option maxHeartbeats 2000000
namespace Dc
open PySem PySem.Spec PyProof.Rows L2
local macro_rules | `(tactic| walk_at "ne") => `(tactic| first | assumption | (refine Ne.symm ?_; assumption) | exact ne_of (by assumption) (by assumption) (by intro q; cases q) | exact ne_of_none (by assumption) (by assumption) | exact Ne.symm (ne_of_none (by assumption) (by assumption)))
local macro_rules | `(tactic| walk_at "hp") => `(tactic| first | assumption | exact upd_same | (refine upd_keep ?_ (by assumption); walk_at "hp") | (refine upd_other ?_ ?_; · walk_at "ne"; · walk_at "hp"))
local macro_rules | `(tactic| walk_at "hl") => `(tactic| first | assumption | exact SqL.of (by walk_at "hp"))
local macro_rules | `(tactic| walk_at "ht") => `(tactic| first | assumption | exact SqT.of (by walk_at "hp"))
local macro_rules | `(tactic| walk_at "rd1") => `(tactic| first
  | ((with_reducible apply rd_var); exact rfl)
  | ((with_reducible apply rd_eq); exact rfl) | ((with_reducible apply rd_ne); exact rfl)
  | with_reducible first
  | refine iteT ?_ | refine iteF ?_ | refine rd_nF ?_ | refine rd_nT ?_ | refine rd_yes ?_ | refine rd_c ?_ | refine rd_op ?_ | refine rd_un ?_ | refine rd_test ?_ | refine rd_B ?_ | refine rd_bl ?_ | refine rd_seq ?_ | refine rd_next ?_ | refine rd_ifs ?_ | refine rd_asg ?_ | refine rd_name ?_ | refine rd_ret ?_ | refine rd_drop ?_
  | refine rd_call ?_ | refine rd_cons ?_ | refine rd_nil ?_ | refine rd_cb ?_ | refine rd_I0 ?_ | refine rd_U ?_ | refine rd_gsub ?_ | refine rd_lst ?_ | refine rd_tup ?_ | refine rd_if ?_ | refine rd_not ?_ | refine rd_rng1 ?_ | refine rd_itup ?_ | refine rd_ilst ?_ | refine rd_bm ?_ | refine rd_bm0 ?_ | refine rd_andV ?_ | refine rd_orV ?_ | refine rd_notV ?_)
local macro_rules | `(tactic| walk_at "rd") => `(tactic| repeat walk_at "rd1")
local macro_rules | `(tactic| walk_at "ci") => `(tactic| first | assumption | (show (0 : Int) < _; first | decide | omega) | exact ⟨by decide, by decide⟩ | exact Or.inr ⟨by decide, by decide⟩ | exact Or.inl ⟨by decide, by decide⟩ | exact ⟨by decide, by decide, by decide⟩ | exact Or.inl ⟨by omega, by omega⟩ | exact Or.inr ⟨by omega, by omega⟩)
local macro_rules | `(tactic| walk_at "ix") => `(tactic| first
  | ((with_reducible apply rd_ixL); (walk_at "hl"); exact rfl)
  | ((with_reducible apply rd_ixT); (walk_at "ht"); exact rfl)
  | ((with_reducible apply rd_lenL); (walk_at "hl"))
  | ((with_reducible apply rd_lenT); (walk_at "ht"))
  | ((with_reducible apply rd_tupOf); (walk_at "hl"))
  | ((with_reducible apply rd_listOf); (walk_at "hl"))
  | (with_reducible refine rd_min2 ?_)
  | ((with_reducible apply rd_I); (walk_at "ci"))
  | ((with_reducible apply rd_setL); (walk_at "hp"); exact rfl))
local macro_rules | `(tactic| walk_at "gs") => `(tactic| repeat first | walk_at "rd1" | walk_at "ix")
local macro_rules | `(tactic| walk_at "go") => `(tactic| repeat first | walk_at "rd1" | walk_at "ix" | with_reducible refine rd_and ?_ | with_reducible refine rd_or ?_)
local macro_rules | `(tactic| walk_at "fo") => `(tactic| (with_reducible refine rd_for ?_))
local macro_rules | `(tactic| walk_at "pm") => `(tactic| repeat first
  | with_reducible first | refine rd_pcons ?_ | refine rd_pstr ?_ | refine rd_pcap ?_ | refine rd_pwild ?_ | refine rd_pnil ?_ | refine rd_por ?_ | refine rd_pno ?_
  | ((with_reducible refine rd_eq rfl ?_); refine ⟨_, rfl, ?_⟩; first | refine rd_T rfl ?_ | refine rd_F (by decide) ?_)
  | dsimp only [List.nil_append, List.singleton_append, List.cons_append, setAll])
local macro_rules | `(tactic| walk_at "pc") => `(tactic| (refine rd_case ?_); (first | (refine rd_phit (SqT.of (by assumption)) rfl ?_) | (refine rd_pmiss (SqT.of (by assumption)) (by simp) ?_)); (walk_at "pm"))

/-! ### a chain's stages are made -/
def spMakerOf (J : Cls') : Sp := fun vs H Q _ => ∃ (a me cs lo : Addr) (m : Mt) (gs : List Int) (k : Mkr), vs = [.ref a, .ref me] ∧ MkAt H a k ∧ MetAt J H me cs lo m gs ∧ me ≠ cs ∧ me ≠ lo ∧ cs ≠ lo ∧ gs.length ≤ 1000 ∧
  ∀ H' x, NdAt J H' me gs.length (.mkr k 0) (.mkr x) → MetAt J H' me cs lo m (gs ++ [0]) → H x = none → Fr [cs] H H' → Q (.ref x) H'
section
variable {P : Program} {w : World} {K : PySem.W.Frag} {mg : Str → Option Value} {base : Heap} {J : Cls'} {f f2 : Addr} {fd fd2 : FuncData}
theorem MetAt.fresh {H : Hp} {me cs lo p : Addr} {m : Mt} {gs : List Int} {o : HO} (h : MetAt J H me cs lo m gs) (n : H p = none) : MetAt J (upd H p o) me cs lo m gs := by
  obtain ⟨⟨dx, e⟩, h1, h2⟩ := h
  exact ⟨⟨dx, upd_keep e n⟩, upd_keep h1 n, upd_keep h2 n⟩
theorem MetAt.ne {H : Hp} {me cs lo p : Addr} {m : Mt} {gs : List Int} (h : MetAt J H me cs lo m gs) (n : H p = none) : p ≠ me := by
  obtain ⟨⟨dx, e⟩, h1, h2⟩ := h
  exact (ne_of_none e n).symm
theorem sc_maker_of : FnScope ["maker", "meter", "begin", "step", "numbers"] ["maker", "meter"] (defScope s_maker_of) := ⟨rfl, rfl, rfl, by decide +kernel, rfl, by decide +kernel, by decide +kernel⟩
theorem ok_maker_of (T : Txt K mg) (F : FnP K "maker_of" "maker_of" s_maker_of f fd)
    (I_Count : CalI P w K mg base CX0 2 "Count" J.count ["self", "begin", "step", "meter"] (spCInit J)) (I_Row : CalI P w K mg base CX0 2 "Row" J.row ["self", "numbers", "meter"] (spRInit J)) :
    FnOk P w K mg base CX0 4 f fd ["maker", "meter"] (spMakerOf J) := by
  refine ok0 F sc_maker_of (fun vs H Q E h => ?_) (fun cdv A outer s H vs Q E hr h => ?_)
  · obtain ⟨a, me, cs, lo, m, gs, k, rfl, _⟩ := h
    rfl
  · obtain ⟨a, me, cs, lo, m, gs, k, rfl, ea, M, n1, n2, n3, hg, q⟩ := h
    refine ⟨_, (pss_one (ps_match (pv 0)
    (pc_cons (is := [2, 3]) sc_maker_of.nd (pat_seq rfl (pp_cons (pat_str op_eq) (pp_cons pat_cap (pp_cons pat_cap pp_nil)))) rfl (all_local (by rfl))
      (pss_one (ps_ret (pe_mk I_Count (hr.mono (by omega)) pass0 (pa_cons (pv 2) (pa_cons (pv 3) (pa_cons (pv 1) pa_nil))))))
    (pc_cons (is := [4]) sc_maker_of.nd (pat_seq rfl (pp_cons (pat_str op_eq) (pp_cons pat_cap pp_nil))) rfl (all_local (by rfl))
      (pss_one (ps_ret (pe_mk I_Row (hr.mono (by omega)) pass0 (pa_cons (pv 4) (pa_cons (pv 1) pa_nil)))))
    pc_nil)))), ?_⟩
    try dsimp only [cxOf, Cx.nox, Cx.wish]
    refine rd_at (σ' := [some (.ref a), some (.ref me), none, none, none]) rfl ?_
    refine rd_match ?_
    walk_at "go"
    cases k with
    | count b st =>
      refine rd_case ?_
      refine rd_phit (SqT.of ea) rfl ?_
      walk_at "pm"
      walk_at "go"
      refine rd_make ?_
      walk_at "go"
      intro x dx hx hdx nd
      have hx' : upd H dx (.own x) x = none := by rw [upd_ne nd.symm]; exact hx
      have M1 := (M.fresh (o := .own x) hdx).fresh (o := .ins J.count dx []) hx'
      refine ⟨x, dx, me, cs, lo, m, gs, b, st, rfl, upd_same, M1, n1, n2, n3, M.ne hx, hg, fun H' e' M' f' => ⟨rfl, ?_⟩⟩
      refine q H' x ⟨dx, ?_⟩ M' hx (((Fr.new hdx).newN hx').trans f' fun z hz => ?_)
      · rw [e']
        simp
      · simp only [List.mem_cons, List.not_mem_nil, or_false] at hz ⊢
        rcases hz with rfl | rfl
        · exact .inr hx
        · exact .inl rfl
    | row ns =>
      obtain ⟨r, ea, er⟩ := ea
      refine rd_case ?_
      refine rd_pmiss (SqT.of ea) (by simp) ?_
      walk_at "pm"
      refine rd_case ?_
      refine rd_phit (SqT.of ea) rfl ?_
      walk_at "pm"
      walk_at "go"
      refine rd_make ?_
      walk_at "go"
      intro x dx hx hdx nd
      have hx' : upd H dx (.own x) x = none := by rw [upd_ne nd.symm]; exact hx
      have M1 := (M.fresh (o := .own x) hdx).fresh (o := .ins J.row dx []) hx'
      refine ⟨x, dx, me, cs, lo, r, m, gs, rfl, upd_same, M1, n1, n2, n3, M.ne hx, hg, fun H' e' M' f' => ⟨rfl, ?_⟩⟩
      have f1 : Fr [cs] H H' := ((Fr.new hdx).newN hx').trans f' fun z hz => by
        simp only [List.mem_cons, List.not_mem_nil, or_false] at hz ⊢
        rcases hz with rfl | rfl
        · exact .inr hx
        · exact .inl rfl
      exact q H' x ⟨dx, r, e', f1.tp er⟩ M' hx f1
end
end Dc

set_option Elab.async false
set_option linter.all false
set_option maxRecDepth 100000
set_option maxHeartbeats 2000000
namespace Dc
open PySem PySem.Spec PyProof.Rows L2
local macro_rules | `(tactic| walk_at "ne") => `(tactic| first | assumption | (refine Ne.symm ?_; assumption) | exact ne_of (by assumption) (by assumption) (by intro q; cases q) | exact ne_of_none (by assumption) (by assumption) | exact Ne.symm (ne_of_none (by assumption) (by assumption)))
local macro_rules | `(tactic| walk_at "hp") => `(tactic| first | assumption | exact upd_same | (refine upd_keep ?_ (by assumption); walk_at "hp") | (refine upd_other ?_ ?_; · walk_at "ne"; · walk_at "hp"))
local macro_rules | `(tactic| walk_at "hl") => `(tactic| first | assumption | exact SqL.of (by walk_at "hp"))
local macro_rules | `(tactic| walk_at "ht") => `(tactic| first | assumption | exact SqT.of (by walk_at "hp"))
local macro_rules | `(tactic| walk_at "rd1") => `(tactic| first
  | ((with_reducible apply rd_var); exact rfl)
  | ((with_reducible apply rd_eq); exact rfl) | ((with_reducible apply rd_ne); exact rfl)
  | with_reducible first
  | refine iteT ?_ | refine iteF ?_ | refine rd_nF ?_ | refine rd_nT ?_ | refine rd_yes ?_ | refine rd_c ?_ | refine rd_op ?_ | refine rd_un ?_ | refine rd_test ?_ | refine rd_B ?_ | refine rd_bl ?_ | refine rd_seq ?_ | refine rd_next ?_ | refine rd_ifs ?_ | refine rd_asg ?_ | refine rd_name ?_ | refine rd_ret ?_ | refine rd_drop ?_
  | refine rd_call ?_ | refine rd_cons ?_ | refine rd_nil ?_ | refine rd_cb ?_ | refine rd_I0 ?_ | refine rd_U ?_ | refine rd_gsub ?_ | refine rd_lst ?_ | refine rd_tup ?_ | refine rd_if ?_ | refine rd_not ?_ | refine rd_rng1 ?_ | refine rd_itup ?_ | refine rd_ilst ?_ | refine rd_bm ?_ | refine rd_bm0 ?_ | refine rd_andV ?_ | refine rd_orV ?_ | refine rd_notV ?_)
local macro_rules | `(tactic| walk_at "rd") => `(tactic| repeat walk_at "rd1")
local macro_rules | `(tactic| walk_at "ci") => `(tactic| first | assumption | (show (0 : Int) < _; first | decide | omega) | exact ⟨by decide, by decide⟩ | exact Or.inr ⟨by decide, by decide⟩ | exact Or.inl ⟨by decide, by decide⟩ | exact ⟨by decide, by decide, by decide⟩ | exact Or.inl ⟨by omega, by omega⟩ | exact Or.inr ⟨by omega, by omega⟩)
local macro_rules | `(tactic| walk_at "ix") => `(tactic| first
  | ((with_reducible apply rd_ixL); (walk_at "hl"); exact rfl)
  | ((with_reducible apply rd_ixT); (walk_at "ht"); exact rfl)
  | ((with_reducible apply rd_lenL); (walk_at "hl"))
  | ((with_reducible apply rd_lenT); (walk_at "ht"))
  | ((with_reducible apply rd_tupOf); (walk_at "hl"))
  | ((with_reducible apply rd_listOf); (walk_at "hl"))
  | (with_reducible refine rd_min2 ?_)
  | ((with_reducible apply rd_I); (walk_at "ci"))
  | ((with_reducible apply rd_setL); (walk_at "hp"); exact rfl))
local macro_rules | `(tactic| walk_at "gs") => `(tactic| repeat first | walk_at "rd1" | walk_at "ix")
local macro_rules | `(tactic| walk_at "go") => `(tactic| repeat first | walk_at "rd1" | walk_at "ix" | with_reducible refine rd_and ?_ | with_reducible refine rd_or ?_)
local macro_rules | `(tactic| walk_at "fo") => `(tactic| (with_reducible refine rd_for ?_))
local macro_rules | `(tactic| walk_at "pm") => `(tactic| repeat first
  | with_reducible first | refine rd_pcons ?_ | refine rd_pstr ?_ | refine rd_pcap ?_ | refine rd_pwild ?_ | refine rd_pnil ?_ | refine rd_por ?_ | refine rd_pno ?_
  | ((with_reducible refine rd_eq rfl ?_); refine ⟨_, rfl, ?_⟩; first | refine rd_T rfl ?_ | refine rd_F (by decide) ?_)
  | dsimp only [List.nil_append, List.singleton_append, List.cons_append, setAll])
local macro_rules | `(tactic| walk_at "pc") => `(tactic| (refine rd_case ?_); (first | (refine rd_phit (SqT.of (by assumption)) rfl ?_) | (refine rd_pmiss (SqT.of (by assumption)) (by simp) ?_)); (walk_at "pm"))

theorem NdAt.ins {J : Cls'} {H : Hp} {me : Addr} : ∀ {off : Nat} {x : Nd} {t : Tr}, NdAt J H me off x t → ∀ b, b ∈ t.ads → ∃ C dx fs, H b = some (.ins C dx fs)
  | off, .mkr (.count b s) g, .mkr a, ⟨dx, e⟩, b', hb => by rw [List.mem_singleton.mp hb]; exact ⟨_, dx, _, e⟩
  | off, .mkr (.row ns) g, .mkr a, ⟨dx, p, e, q⟩, b', hb => by rw [List.mem_singleton.mp hb]; exact ⟨_, dx, _, e⟩
  | off, .st k o c, .st a t, ⟨⟨fs, ⟨dx, e⟩, z⟩, r⟩, b, hb => by
    rcases List.mem_cons.mp hb with rfl | hb
    · exact ⟨_, dx, _, e⟩
    · exact NdAt.ins r b hb
  | off, .both o c d, .two a t u, ⟨⟨dx, e⟩, r1, r2⟩, b, hb => by
    rcases List.mem_cons.mp hb with rfl | hb
    · exact ⟨_, dx, _, e⟩
    · rcases List.mem_append.mp hb with hb | hb
      · exact NdAt.ins r1 b hb
      · exact NdAt.ins r2 b hb
  | off, .thn o c d, .two a t u, ⟨⟨dx, e⟩, r1, r2⟩, b, hb => by
    rcases List.mem_cons.mp hb with rfl | hb
    · exact ⟨_, dx, _, e⟩
    · rcases List.mem_append.mp hb with hb | hb
      · exact NdAt.ins r1 b hb
      · exact NdAt.ins r2 b hb
  | _, .mkr (.count _ _) _, .st _ _, h, _, _ => h.elim
  | _, .mkr (.row _) _, .st _ _, h, _, _ => h.elim
  | _, .mkr (.count _ _) _, .two _ _ _, h, _, _ => h.elim
  | _, .mkr (.row _) _, .two _ _ _, h, _, _ => h.elim
  | _, .st _ _ _, .mkr _, h, _, _ => h.elim
  | _, .st _ _ _, .two _ _ _, h, _, _ => h.elim
  | _, .both _ _ _, .mkr _, h, _, _ => h.elim
  | _, .both _ _ _, .st _ _, h, _, _ => h.elim
  | _, .thn _ _ _, .mkr _, h, _, _ => h.elim
  | _, .thn _ _ _, .st _ _, h, _, _ => h.elim
def Nd.snoc (x : Nd) : Sg → Nd
  | .one k => .st k ow0 x
  | .both o => .both ow0 x o.nd
  | .thn o => .thn ow0 x o.nd
def Sg.gv : Sg → List Int
  | .one _ => []
  | .both o => o.nd.gv
  | .thn o => o.nd.gv
theorem Nd.snoc_gv (x : Nd) (g : Sg) : (x.snoc g).gv = x.gv ++ g.gv := by
  cases g with
  | one k => show x.gv = x.gv ++ []; rw [List.append_nil]
  | both o => rfl
  | thn o => rfl
theorem Ch.nd_snoc (c : Ch) (g : Sg) : (c.snoc g).nd = c.nd.snoc g := by cases g <;> rfl
theorem Ch.gv_len : ∀ c : Ch, c.nd.gv.length = c.nm
  | .mkr _ => rfl
  | .st c _ => c.gv_len
  | .both c o => by show (c.nd.gv ++ o.nd.gv).length = c.nm + o.nm; rw [List.length_append, c.gv_len, o.gv_len]
  | .thn c o => by show (c.nd.gv ++ o.nd.gv).length = c.nm + o.nm; rw [List.length_append, c.gv_len, o.gv_len]
/-- a whole chain, its nesting below n -/
def spEnd (J : Cls') (n : Nat) : Sp := fun vs H Q _ => ∃ (p me cs lo : Addr) (m : Mt) (gs : List Int) (c : Ch), vs = [.ref p, .ref me] ∧ ChAt H p c ∧ c.ok ∧ c.nm ≤ n ∧ MetAt J H me cs lo m gs ∧ me ≠ cs ∧ me ≠ lo ∧ cs ≠ lo ∧ gs.length + c.nm ≤ 1000 ∧
  ∀ H' t, NdAt J H' me gs.length c.nd t → MetAt J H' me cs lo m (gs ++ c.nd.gv) → (∀ b, b ∈ t.ads → H b = none) → t.dj → Fr [cs] H H' → Q (.ref t.ad) H'
def spBehind (J : Cls') (n : Nat) : Sp := fun vs H Q _ => ∃ (x me cs lo : Addr) (m : Mt) (off : Nat) (gs : List Int) (nd : Nd) (t : Tr) (g : Sg), vs = [.ref t.ad, .ref x, .ref me] ∧ SgAt H x g ∧ g.ok ∧ g.nm ≤ n ∧ NdAt J H me off nd t ∧ t.dj ∧ MetAt J H me cs lo m gs ∧ me ≠ cs ∧ me ≠ lo ∧ cs ≠ lo ∧
  gs.length = off + nd.gv.length ∧ gs.length + g.nm ≤ 1000 ∧
  ∀ H' t', NdAt J H' me off (nd.snoc g) t' → MetAt J H' me cs lo m (gs ++ g.gv) → (∀ b, b ∈ t'.ads → b ∈ t.ads ∨ H b = none) → t'.dj → Fr [cs] H H' → Q (.ref t'.ad) H'
section
variable {P : Program} {w : World} {K : PySem.W.Frag} {mg : Str → Option Value} {base : Heap} {J : Cls'} {f f2 : Addr} {fd fd2 : FuncData}
theorem sc_stage_behind : FnScope ["ahead", "stage", "meter", "n", "rest", "wheel", "many", "chain"] ["ahead", "stage", "meter"] (defScope s_stage_behind) := ⟨rfl, rfl, rfl, by decide +kernel, rfl, by decide +kernel, by decide +kernel⟩
theorem ok_stage_behind {n : Nat} (T : Txt K mg) (F : FnP K "stage_behind" "stage_behind" s_stage_behind f fd)
    (I_Reckon : CalI P w K mg base CX0 2 "Reckon" J.reckon ["self", "ahead", "factor", "term"] (spSInit J.reckon 2 fun | [a, b] => [("factor", a), ("term", b)] | _ => []))
    (I_Keep : CalI P w K mg base CX0 2 "Keep" J.keep ["self", "ahead", "rest", "wheel"] (spSInit J.keep 2 fun | [a, b] => [("rest", a), ("wheel", b)] | _ => []))
    (I_Drop : CalI P w K mg base CX0 2 "Drop" J.drop ["self", "ahead", "many"] (spSInit J.drop 1 fun | [a] => [("left", a)] | _ => []))
    (I_Take : CalI P w K mg base CX0 2 "Take" J.take ["self", "ahead", "many"] (spSInit J.take 1 fun | [a] => [("left", a)] | _ => []))
    (I_Each : CalI P w K mg base CX0 2 "Each" J.each ["self", "ahead", "many"] (spSInit J.each 1 fun | [a] => [("many", a), ("left", .int 0), ("number", .non)] | _ => []))
    (I_Until : CalI P w K mg base CX0 2 "Until" J.until' ["self", "ahead", "n", "meter"] (spSInit J.until' 2 fun | [a, b] => [("n", a), ("meter", b)] | _ => []))
    (I_Unlike : CalI P w K mg base CX0 2 "Unlike" J.unlike ["self", "ahead"] (spSInit J.unlike 0 fun _ => [("last", .non)]))
    (I_Both : CalI P w K mg base CX0 2 "Both" J.both ["self", "ahead", "other", "meter"] (spSInit J.both 2 fun | [a, b] => [("other", a), ("meter", b)] | _ => []))
    (I_Then : CalI P w K mg base CX0 2 "Then" J.thn ["self", "ahead", "other"] (spSInit J.thn 1 fun | [a] => [("other", a)] | _ => []))
    (G_chain_end : Cal P w K mg base CX0 (2 * n + 5) "chain_end" ["chain", "meter"] (spEnd J n)) :
    FnOk P w K mg base CX0 (2 * n + 6) f fd ["ahead", "stage", "meter"] (spBehind J n) := by
  refine ok0 F sc_stage_behind (fun vs H Q E h => ?_) (fun cdv A outer s H vs Q E hr h => ?_)
  · obtain ⟨x, me, cs, lo, m, off, gs, nd, t, g, rfl, _⟩ := h
    rfl
  · obtain ⟨sx, me, cs, lo, m, off, gs, nd0, t, g, rfl, eg, hg, hn, nd, dj, M, n1, n2, n3, hl, hl2, q⟩ := h
    have tcs : ∀ b, b ∈ t.ads → b ∉ [cs] := fun b hb z => by
      obtain ⟨C, dx, fs, e⟩ := nd.ins b hb
      rw [List.mem_singleton] at z
      rw [z, M.2.1] at e
      cases e
    refine ⟨_, (pss_one (ps_match (pv 1)
    (pc_cons (is := [3]) sc_stage_behind.nd (pat_seq rfl (pp_cons (pat_str op_eq) (pp_cons pat_cap pp_nil))) rfl (all_local (by rfl))
      (pss_one (ps_ret (pe_mk I_Reckon (hr.mono (by omega)) pass0 (pa_cons (pv 0) (pa_cons pe_int (pa_cons (pv 3) pa_nil))))))
    (pc_cons (is := [3]) sc_stage_behind.nd (pat_seq rfl (pp_cons (pat_str op_eq) (pp_cons pat_cap pp_nil))) rfl (all_local (by rfl))
      (pss_one (ps_ret (pe_mk I_Reckon (hr.mono (by omega)) pass0 (pa_cons (pv 0) (pa_cons (pv 3) (pa_cons pe_int pa_nil))))))
    (pc_cons (is := [4, 5]) sc_stage_behind.nd (pat_seq rfl (pp_cons (pat_str op_eq) (pp_cons pat_cap (pp_cons pat_cap pp_nil)))) rfl (all_local (by rfl))
      (pss_one (ps_ret (pe_mk I_Keep (hr.mono (by omega)) pass0 (pa_cons (pv 0) (pa_cons (pv 4) (pa_cons (pv 5) pa_nil))))))
    (pc_cons (is := [6]) sc_stage_behind.nd (pat_seq rfl (pp_cons (pat_str op_eq) (pp_cons pat_cap pp_nil))) rfl (all_local (by rfl))
      (pss_one (ps_ret (pe_mk I_Drop (hr.mono (by omega)) pass0 (pa_cons (pv 0) (pa_cons (pv 6) pa_nil)))))
    (pc_cons (is := [6]) sc_stage_behind.nd (pat_seq rfl (pp_cons (pat_str op_eq) (pp_cons pat_cap pp_nil))) rfl (all_local (by rfl))
      (pss_one (ps_ret (pe_mk I_Take (hr.mono (by omega)) pass0 (pa_cons (pv 0) (pa_cons (pv 6) pa_nil)))))
    (pc_cons (is := [6]) sc_stage_behind.nd (pat_seq rfl (pp_cons (pat_str op_eq) (pp_cons pat_cap pp_nil))) rfl (all_local (by rfl))
      (pss_one (ps_ret (pe_mk I_Each (hr.mono (by omega)) pass0 (pa_cons (pv 0) (pa_cons (pv 6) pa_nil)))))
    (pc_cons (is := [3]) sc_stage_behind.nd (pat_seq rfl (pp_cons (pat_str op_eq) (pp_cons pat_cap pp_nil))) rfl (all_local (by rfl))
      (pss_one (ps_ret (pe_mk I_Until (hr.mono (by omega)) pass0 (pa_cons (pv 0) (pa_cons (pv 3) (pa_cons (pv 2) pa_nil))))))
    (pc_cons (is := []) sc_stage_behind.nd (pat_seq rfl (pp_cons (pat_str op_eq) pp_nil)) rfl (all_local (by rfl))
      (pss_one (ps_ret (pe_mk I_Unlike (hr.mono (by omega)) pass0 (pa_cons (pv 0) pa_nil))))
    (pc_cons (is := [7]) sc_stage_behind.nd (pat_seq rfl (pp_cons (pat_str op_eq) (pp_cons pat_cap pp_nil))) rfl (all_local (by rfl))
      (pss_one (ps_ret (pe_mk I_Both (hr.mono (by omega)) pass0 (pa_cons (pv 0) (pa_cons (pe_cal G_chain_end (hr.mono (by omega)) pass0 (pa_cons (pv 7) (pa_cons (pv 2) pa_nil))) (pa_cons (pv 2) pa_nil))))))
    (pc_cons (is := [7]) sc_stage_behind.nd (pat_seq rfl (pp_cons (pat_str op_eq) (pp_cons pat_cap pp_nil))) rfl (all_local (by rfl))
      (pss_one (ps_ret (pe_mk I_Then (hr.mono (by omega)) pass0 (pa_cons (pv 0) (pa_cons (pe_cal G_chain_end (hr.mono (by omega)) pass0 (pa_cons (pv 7) (pa_cons (pv 2) pa_nil))) pa_nil)))))
    pc_nil)))))))))))), ?_⟩
    try dsimp only [cxOf, Cx.nox, Cx.wish]
    refine rd_at (σ' := [some (.ref t.ad), some (.ref sx), some (.ref me)] ++ List.replicate (["ahead", "stage", "meter", "n", "rest", "wheel", "many", "chain"].length - 3) none) rfl ?_
    refine rd_match ?_
    walk_at "go"
    cases g with
    | one kd =>
      have fin : ∀ (k : Kd) (x dx : Addr) (H' : Hp) (fs : List (Str × V)), H x = none → H dx = none → dx ≠ x → H' x = some (.ins (k.cls J) dx (("ahead", .ref t.ad) :: ("ended", .bl false) :: fs)) →
          Fr [x] (upd (upd H dx (.own x)) x (.ins (k.cls J) dx [])) H' → k.flds me ow0 fs → kd = k → Q (.ref x) H' := by
        rintro k x dx H' fs hx hdx ne e' f' hf rfl
        have hx' : upd H dx (.own x) x = none := by rw [upd_ne ne.symm]; exact hx
        have nx : ∀ b, b ∈ t.ads → b ≠ x := fun b hb z => by
          obtain ⟨C, dx, fs, e⟩ := nd.ins b hb
          rw [z, hx] at e
          cases e
        have f1 : Fr [cs] H H' := ((Fr.new hdx).newN hx').trans f' fun z hz => by
          rw [List.mem_singleton] at hz
          rw [hz]
          exact .inr hx
        have M1 := (M.fresh (o := .own x) hdx).fresh (o := .ins (kd.cls J) dx []) hx'
        have M' : MetAt J H' me cs lo m gs := M1.fr f' fun b hb z => by
          rw [List.mem_singleton] at z
          subst z
          obtain ⟨⟨dm, em⟩, e1, e2⟩ := M
          simp only [List.mem_cons, List.not_mem_nil, or_false] at hb
          rcases hb with rfl | rfl | rfl
          · rw [hx] at em; cases em
          · rw [hx] at e1; cases e1
          · rw [hx] at e2; cases e2
        refine q H' (.st x t) ⟨⟨fs, ⟨dx, e'⟩, hf⟩, nd.fr f1 tcs⟩ (by show MetAt J H' me cs lo m (gs ++ []); rw [List.append_nil]; exact M') (fun b hb => ?_) ⟨fun z => nx x z rfl, dj⟩ f1
        rcases List.mem_cons.mp hb with rfl | hb
        · exact .inr hx
        · exact .inl hb
      cases kd with
      | add n =>
        simp only [SgAt, Kd.vals] at eg
        repeat walk_at "pc"
        walk_at "go"
        refine rd_make ?_
        walk_at "go"
        intro x dx hx hdx nd
        refine ⟨x, dx, .ref t.ad, [.int 1, .int n], rfl, rfl, upd_same, fun H' e' f' => ⟨rfl, ?_⟩⟩
        exact fin (.add n) x dx H' _ hx hdx nd e' f' rfl rfl
      | times n =>
        simp only [SgAt, Kd.vals] at eg
        repeat walk_at "pc"
        walk_at "go"
        refine rd_make ?_
        walk_at "go"
        intro x dx hx hdx nd
        refine ⟨x, dx, .ref t.ad, [.int n, .int 0], rfl, rfl, upd_same, fun H' e' f' => ⟨rfl, ?_⟩⟩
        exact fin (.times n) x dx H' _ hx hdx nd e' f' rfl rfl
      | keep r w =>
        simp only [SgAt, Kd.vals] at eg
        repeat walk_at "pc"
        walk_at "go"
        refine rd_make ?_
        walk_at "go"
        intro x dx hx hdx nd
        refine ⟨x, dx, .ref t.ad, [.int r, .int w], rfl, rfl, upd_same, fun H' e' f' => ⟨rfl, ?_⟩⟩
        exact fin (.keep r w) x dx H' _ hx hdx nd e' f' rfl rfl
      | drop k =>
        simp only [SgAt, Kd.vals] at eg
        repeat walk_at "pc"
        walk_at "go"
        refine rd_make ?_
        walk_at "go"
        intro x dx hx hdx nd
        refine ⟨x, dx, .ref t.ad, [.int k], rfl, rfl, upd_same, fun H' e' f' => ⟨rfl, ?_⟩⟩
        exact fin (.drop k) x dx H' _ hx hdx nd e' f' ⟨_, rfl, fun _ => ⟨hg.1, .inr (by show k = k - 0; omega)⟩⟩ rfl
      | take k =>
        simp only [SgAt, Kd.vals] at eg
        repeat walk_at "pc"
        walk_at "go"
        refine rd_make ?_
        walk_at "go"
        intro x dx hx hdx nd
        refine ⟨x, dx, .ref t.ad, [.int k], rfl, rfl, upd_same, fun H' e' f' => ⟨rfl, ?_⟩⟩
        exact fin (.take k) x dx H' _ hx hdx nd e' f' ⟨_, rfl, fun _ => by show k = k - ((0 : Nat) : Int); omega⟩ rfl
      | each k =>
        simp only [SgAt, Kd.vals] at eg
        repeat walk_at "pc"
        walk_at "go"
        refine rd_make ?_
        walk_at "go"
        intro x dx hx hdx nd
        refine ⟨x, dx, .ref t.ad, [.int k], rfl, rfl, upd_same, fun H' e' f' => ⟨rfl, ?_⟩⟩
        exact fin (.each k) x dx H' _ hx hdx nd e' f' ⟨_, _, rfl, fun _ => ⟨rfl, fun z => absurd z (by decide)⟩⟩ rfl
      | «until» n =>
        simp only [SgAt, Kd.vals] at eg
        repeat walk_at "pc"
        walk_at "go"
        refine rd_make ?_
        walk_at "go"
        intro x dx hx hdx nd
        refine ⟨x, dx, .ref t.ad, [.int n, .ref me], rfl, rfl, upd_same, fun H' e' f' => ⟨rfl, ?_⟩⟩
        exact fin (.until n) x dx H' _ hx hdx nd e' f' rfl rfl
      | unlike =>
        simp only [SgAt, Kd.vals] at eg
        repeat walk_at "pc"
        walk_at "go"
        refine rd_make ?_
        walk_at "go"
        intro x dx hx hdx nd
        refine ⟨x, dx, .ref t.ad, [], rfl, rfl, upd_same, fun H' e' f' => ⟨rfl, ?_⟩⟩
        exact fin .unlike x dx H' _ hx hdx nd e' f' ⟨_, rfl, fun _ => rfl⟩ rfl
    | both o =>
      obtain ⟨p, eg, ch⟩ := eg
      repeat walk_at "pc"
      walk_at "go"
      refine rd_make ?_
      walk_at "go"
      refine ⟨p, me, cs, lo, m, gs, o, rfl, ch, hg, hn, M, n1, n2, n3, hl2, fun H1 u nu Mu fu dju f1 => ?_⟩
      walk_at "go"
      intro x dx hx hdx ne
      refine ⟨x, dx, .ref t.ad, [.ref u.ad, .ref me], rfl, rfl, upd_same, fun H' e' f' => ⟨rfl, ?_⟩⟩
      have hx' : upd H1 dx (.own x) x = none := by rw [upd_ne ne.symm]; exact hx
      have nt1 := nd.fr f1 tcs
      have px : ∀ b C dx' fs', H1 b = some (.ins C dx' fs') → b ≠ x := fun b C dx' fs' e z => by
        rw [z, hx] at e
        cases e
      have f2 : Fr [cs] H1 H' := ((Fr.new hdx).newN hx').trans f' fun z hz => by
        rw [List.mem_singleton] at hz
        rw [hz]
        exact .inr hx
      have hx0 : H x = none := f1.free (fun z => by
        rw [List.mem_singleton] at z
        have := Mu.2.1
        rw [← z, hx] at this
        cases this) hx
      have M1 := (Mu.fresh (o := .own x) hdx).fresh (o := .ins J.both dx []) hx'
      have M' : MetAt J H' me cs lo m (gs ++ o.nd.gv) := M1.fr f' fun b hb z => by
        rw [List.mem_singleton] at z
        subst z
        obtain ⟨⟨dm, em⟩, e1, e2⟩ := Mu
        simp only [List.mem_cons, List.not_mem_nil, or_false] at hb
        rcases hb with rfl | rfl | rfl
        · rw [hx] at em; cases em
        · rw [hx] at e1; cases e1
        · rw [hx] at e2; cases e2
      have ucs : ∀ b, b ∈ u.ads → b ∉ [cs] := fun b hb z => by
        obtain ⟨C, dx, fs, e⟩ := nu.ins b hb
        rw [List.mem_singleton] at z
        rw [z, Mu.2.1] at e
        cases e
      refine q H' (.two x t u) ⟨⟨dx, e'⟩, nt1.fr f2 tcs, by rw [← hl]; exact nu.fr f2 ucs⟩ M' (fun b hb => ?_) ⟨fun z => ?_, fun z => ?_, fun b hb hb' => ?_, dj, dju⟩ (f1.tr f2)
      · rcases List.mem_cons.mp hb with rfl | hb
        · exact .inr hx0
        · rcases List.mem_append.mp hb with hb | hb
          · exact .inl hb
          · exact .inr (fu b hb)
      · obtain ⟨C, dx, fs, e⟩ := nt1.ins x z
        exact px x _ _ _ e rfl
      · obtain ⟨C, dx, fs, e⟩ := nu.ins x z
        exact px x _ _ _ e rfl
      · obtain ⟨C, dx, fs, e⟩ := nd.ins b hb
        rw [fu b hb'] at e
        cases e
    | thn o =>
      obtain ⟨p, eg, ch⟩ := eg
      repeat walk_at "pc"
      walk_at "go"
      refine rd_make ?_
      walk_at "go"
      refine ⟨p, me, cs, lo, m, gs, o, rfl, ch, hg, hn, M, n1, n2, n3, hl2, fun H1 u nu Mu fu dju f1 => ?_⟩
      walk_at "go"
      intro x dx hx hdx ne
      refine ⟨x, dx, .ref t.ad, [.ref u.ad], rfl, rfl, upd_same, fun H' e' f' => ⟨rfl, ?_⟩⟩
      have hx' : upd H1 dx (.own x) x = none := by rw [upd_ne ne.symm]; exact hx
      have nt1 := nd.fr f1 tcs
      have px : ∀ b C dx' fs', H1 b = some (.ins C dx' fs') → b ≠ x := fun b C dx' fs' e z => by
        rw [z, hx] at e
        cases e
      have f2 : Fr [cs] H1 H' := ((Fr.new hdx).newN hx').trans f' fun z hz => by
        rw [List.mem_singleton] at hz
        rw [hz]
        exact .inr hx
      have hx0 : H x = none := f1.free (fun z => by
        rw [List.mem_singleton] at z
        have := Mu.2.1
        rw [← z, hx] at this
        cases this) hx
      have M1 := (Mu.fresh (o := .own x) hdx).fresh (o := .ins J.thn dx []) hx'
      have M' : MetAt J H' me cs lo m (gs ++ o.nd.gv) := M1.fr f' fun b hb z => by
        rw [List.mem_singleton] at z
        subst z
        obtain ⟨⟨dm, em⟩, e1, e2⟩ := Mu
        simp only [List.mem_cons, List.not_mem_nil, or_false] at hb
        rcases hb with rfl | rfl | rfl
        · rw [hx] at em; cases em
        · rw [hx] at e1; cases e1
        · rw [hx] at e2; cases e2
      have ucs : ∀ b, b ∈ u.ads → b ∉ [cs] := fun b hb z => by
        obtain ⟨C, dx, fs, e⟩ := nu.ins b hb
        rw [List.mem_singleton] at z
        rw [z, Mu.2.1] at e
        cases e
      refine q H' (.two x t u) ⟨⟨dx, e'⟩, nt1.fr f2 tcs, by rw [← hl]; exact nu.fr f2 ucs⟩ M' (fun b hb => ?_) ⟨fun z => ?_, fun z => ?_, fun b hb hb' => ?_, dj, dju⟩ (f1.tr f2)
      · rcases List.mem_cons.mp hb with rfl | hb
        · exact .inr hx0
        · rcases List.mem_append.mp hb with hb | hb
          · exact .inl hb
          · exact .inr (fu b hb)
      · obtain ⟨C, dx, fs, e⟩ := nt1.ins x z
        exact px x _ _ _ e rfl
      · obtain ⟨C, dx, fs, e⟩ := nu.ins x z
        exact px x _ _ _ e rfl
      · obtain ⟨C, dx, fs, e⟩ := nd.ins b hb
        rw [fu b hb'] at e
        cases e
end
end Dc

set_option Elab.async false
set_option linter.all false
set_option maxRecDepth 100000
set_option maxHeartbeats 2000000
namespace Dc
open PySem PySem.Spec PyProof.Rows L2
/-! ### a chain by its stages -/
def Ch.sgs : Ch → List Sg
  | .mkr _ => []
  | .st c k => c.sgs ++ [.one k]
  | .both c o => c.sgs ++ [.both o]
  | .thn c o => c.sgs ++ [.thn o]
def Ch.root : Ch → Mkr
  | .mkr m => m
  | .st c _ => c.root
  | .both c _ => c.root
  | .thn c _ => c.root
def Ch.of (m : Mkr) (l : List Sg) : Ch := l.foldl Ch.snoc (.mkr m)
theorem Ch.of_snoc (m : Mkr) (l : List Sg) (g : Sg) : Ch.of m (l ++ [g]) = (Ch.of m l).snoc g := by unfold Ch.of; rw [List.foldl_append]; rfl
theorem Ch.of_sgs : ∀ c : Ch, Ch.of c.root c.sgs = c
  | .mkr _ => rfl
  | .st c k => by show Ch.of c.root (c.sgs ++ [.one k]) = _; rw [Ch.of_snoc, Ch.of_sgs c]; rfl
  | .both c o => by show Ch.of c.root (c.sgs ++ [.both o]) = _; rw [Ch.of_snoc, Ch.of_sgs c]; rfl
  | .thn c o => by show Ch.of c.root (c.sgs ++ [.thn o]) = _; rw [Ch.of_snoc, Ch.of_sgs c]; rfl
theorem Ch.of_take (m : Mkr) {l : List Sg} {i : Nat} {g : Sg} (h : l[i]? = some g) : Ch.of m (l.take (i + 1)) = (Ch.of m (l.take i)).snoc g := by
  rw [List.take_succ, h]
  exact Ch.of_snoc m _ g
theorem StsAt.root {H : Hp} : ∀ {c : Ch} {a : Addr} {as : List Addr}, StsAt H c a as → MkAt H a c.root
  | .mkr m, a, as, ⟨_, h⟩ => h
  | .st c k, a, as, ⟨as', x, _, h, _⟩ => StsAt.root (c := c) h
  | .both c o, a, as, ⟨as', x, p, _, h, _⟩ => StsAt.root (c := c) h
  | .thn c o, a, as, ⟨as', x, p, _, h, _⟩ => StsAt.root (c := c) h
theorem get_snoc {α : Type} {l : List α} {x y : α} {i : Nat} (h : (l ++ [x])[i]? = some y) : l[i]? = some y ∨ (i = l.length ∧ y = x) := by
  rcases Nat.lt_trichotomy i l.length with q | q | q
  · rw [List.getElem?_append_left q] at h; exact .inl h
  · subst q
    rw [List.getElem?_append_right (Nat.le_refl _), Nat.sub_self] at h
    exact .inr ⟨rfl, (Option.some.inj h).symm⟩
  · rw [List.getElem?_eq_none (by simp; omega)] at h; cases h
theorem StsAt.get {H : Hp} : ∀ {c : Ch} {a : Addr} {as : List Addr}, StsAt H c a as → as.length = c.sgs.length ∧ ∀ (i : Nat) (x : Addr), as[i]? = some x → ∃ g, c.sgs[i]? = some g ∧ SgAt H x g
  | .mkr m, a, as, ⟨e, _⟩ => by subst e; exact ⟨rfl, fun i x h => by cases h⟩
  | .st c k, a, as, ⟨as', x, e, h, hx⟩ => by
    subst e
    obtain ⟨h1, h2⟩ := StsAt.get (c := c) h
    refine ⟨by show (as' ++ [x]).length = (c.sgs ++ [Sg.one k]).length; simp [h1], fun i y hy => ?_⟩
    show ∃ g, (c.sgs ++ [Sg.one k])[i]? = some g ∧ _
    rcases get_snoc hy with q | ⟨rfl, rfl⟩
    · obtain ⟨g, q1, q2⟩ := h2 i y q
      exact ⟨g, by rw [List.getElem?_append_left (List.getElem?_eq_some_iff.mp q1).1]; exact q1, q2⟩
    · exact ⟨.one k, by rw [h1]; simp, hx⟩
  | .both c o, a, as, ⟨as', x, p, e, h, hx, ho⟩ => by
    subst e
    obtain ⟨h1, h2⟩ := StsAt.get (c := c) h
    refine ⟨by show (as' ++ [x]).length = (c.sgs ++ [Sg.both o]).length; simp [h1], fun i y hy => ?_⟩
    show ∃ g, (c.sgs ++ [Sg.both o])[i]? = some g ∧ _
    rcases get_snoc hy with q | ⟨rfl, rfl⟩
    · obtain ⟨g, q1, q2⟩ := h2 i y q
      exact ⟨g, by rw [List.getElem?_append_left (List.getElem?_eq_some_iff.mp q1).1]; exact q1, q2⟩
    · exact ⟨.both o, by rw [h1]; simp, p, hx, ho⟩
  | .thn c o, a, as, ⟨as', x, p, e, h, hx, ho⟩ => by
    subst e
    obtain ⟨h1, h2⟩ := StsAt.get (c := c) h
    refine ⟨by show (as' ++ [x]).length = (c.sgs ++ [Sg.thn o]).length; simp [h1], fun i y hy => ?_⟩
    show ∃ g, (c.sgs ++ [Sg.thn o])[i]? = some g ∧ _
    rcases get_snoc hy with q | ⟨rfl, rfl⟩
    · obtain ⟨g, q1, q2⟩ := h2 i y q
      exact ⟨g, by rw [List.getElem?_append_left (List.getElem?_eq_some_iff.mp q1).1]; exact q1, q2⟩
    · exact ⟨.thn o, by rw [h1]; simp, p, hx, ho⟩
theorem Ch.ok_sgs : ∀ {c : Ch}, c.ok → c.root.ok ∧ ∀ g ∈ c.sgs, g.ok
  | .mkr m, h => ⟨h, fun g hg => by cases hg⟩
  | .st c k, h => ⟨(Ch.ok_sgs h.1).1, fun g hg => by
    rcases List.mem_append.mp (show g ∈ c.sgs ++ [.one k] from hg) with q | q
    · exact (Ch.ok_sgs h.1).2 g q
    · rw [List.mem_singleton.mp q]; exact h.2⟩
  | .both c k, h => ⟨(Ch.ok_sgs h.1).1, fun g hg => by
    rcases List.mem_append.mp (show g ∈ c.sgs ++ [.both k] from hg) with q | q
    · exact (Ch.ok_sgs h.1).2 g q
    · rw [List.mem_singleton.mp q]; exact h.2⟩
  | .thn c k, h => ⟨(Ch.ok_sgs h.1).1, fun g hg => by
    rcases List.mem_append.mp (show g ∈ c.sgs ++ [.thn k] from hg) with q | q
    · exact (Ch.ok_sgs h.1).2 g q
    · rw [List.mem_singleton.mp q]; exact h.2⟩
theorem Ch.of_append_nm (m : Mkr) (l : List Sg) : ∀ r : List Sg, (Ch.of m l).nm ≤ (Ch.of m (l ++ r)).nm := by
  intro r
  induction r generalizing l with
  | nil => rw [List.append_nil]; exact Nat.le_refl _
  | cons g r ih =>
    have := ih (l ++ [g])
    rw [List.append_assoc] at this
    refine Nat.le_trans ?_ this
    rw [Ch.of_snoc, Ch.snoc_nm]
    exact Nat.le_add_right _ _
theorem Ch.of_append_ns (m : Mkr) (l : List Sg) : ∀ r : List Sg, (Ch.of m l).ns ≤ (Ch.of m (l ++ r)).ns := by
  intro r
  induction r generalizing l with
  | nil => rw [List.append_nil]; exact Nat.le_refl _
  | cons g r ih =>
    have := ih (l ++ [g])
    rw [List.append_assoc] at this
    refine Nat.le_trans ?_ this
    rw [Ch.of_snoc, Ch.snoc_ns]
    omega
theorem Ch.of_take_nm (c : Ch) (i : Nat) : (Ch.of c.root (c.sgs.take i)).nm ≤ c.nm := by
  have := Ch.of_append_nm c.root (c.sgs.take i) (c.sgs.drop i)
  rw [List.take_append_drop, Ch.of_sgs] at this
  exact this
end Dc

set_option Elab.async false
set_option linter.all false
set_option maxRecDepth 100000
set_option maxHeartbeats 2000000
namespace Dc
open PySem PySem.Spec PyProof.Rows L2
local macro_rules | `(tactic| walk_at "ne") => `(tactic| first | assumption | (refine Ne.symm ?_; assumption) | exact ne_of (by assumption) (by assumption) (by intro q; cases q) | exact ne_of_none (by assumption) (by assumption) | exact Ne.symm (ne_of_none (by assumption) (by assumption)))
local macro_rules | `(tactic| walk_at "hp") => `(tactic| first | assumption | exact upd_same | (refine upd_keep ?_ (by assumption); walk_at "hp") | (refine upd_other ?_ ?_; · walk_at "ne"; · walk_at "hp"))
local macro_rules | `(tactic| walk_at "hl") => `(tactic| first | assumption | exact SqL.of (by walk_at "hp"))
local macro_rules | `(tactic| walk_at "ht") => `(tactic| first | assumption | exact SqT.of (by walk_at "hp"))
local macro_rules | `(tactic| walk_at "rd1") => `(tactic| first
  | ((with_reducible apply rd_var); exact rfl)
  | ((with_reducible apply rd_eq); exact rfl) | ((with_reducible apply rd_ne); exact rfl)
  | with_reducible first
  | refine iteT ?_ | refine iteF ?_ | refine rd_nF ?_ | refine rd_nT ?_ | refine rd_yes ?_ | refine rd_c ?_ | refine rd_op ?_ | refine rd_un ?_ | refine rd_test ?_ | refine rd_B ?_ | refine rd_bl ?_ | refine rd_seq ?_ | refine rd_next ?_ | refine rd_ifs ?_ | refine rd_asg ?_ | refine rd_name ?_ | refine rd_ret ?_ | refine rd_drop ?_
  | refine rd_call ?_ | refine rd_cons ?_ | refine rd_nil ?_ | refine rd_cb ?_ | refine rd_I0 ?_ | refine rd_U ?_ | refine rd_gsub ?_ | refine rd_lst ?_ | refine rd_tup ?_ | refine rd_if ?_ | refine rd_not ?_ | refine rd_rng1 ?_ | refine rd_itup ?_ | refine rd_ilst ?_ | refine rd_bm ?_ | refine rd_bm0 ?_ | refine rd_andV ?_ | refine rd_orV ?_ | refine rd_notV ?_)
local macro_rules | `(tactic| walk_at "rd") => `(tactic| repeat walk_at "rd1")
local macro_rules | `(tactic| walk_at "ci") => `(tactic| first | assumption | (show (0 : Int) < _; first | decide | omega) | exact ⟨by decide, by decide⟩ | exact Or.inr ⟨by decide, by decide⟩ | exact Or.inl ⟨by decide, by decide⟩ | exact ⟨by decide, by decide, by decide⟩ | exact Or.inl ⟨by omega, by omega⟩ | exact Or.inr ⟨by omega, by omega⟩)
local macro_rules | `(tactic| walk_at "ix") => `(tactic| first
  | ((with_reducible apply rd_ixL); (walk_at "hl"); exact rfl)
  | ((with_reducible apply rd_ixT); (walk_at "ht"); exact rfl)
  | ((with_reducible apply rd_lenL); (walk_at "hl"))
  | ((with_reducible apply rd_lenT); (walk_at "ht"))
  | ((with_reducible apply rd_tupOf); (walk_at "hl"))
  | ((with_reducible apply rd_listOf); (walk_at "hl"))
  | (with_reducible refine rd_min2 ?_)
  | ((with_reducible apply rd_I); (walk_at "ci"))
  | ((with_reducible apply rd_setL); (walk_at "hp"); exact rfl))
local macro_rules | `(tactic| walk_at "gs") => `(tactic| repeat first | walk_at "rd1" | walk_at "ix")
local macro_rules | `(tactic| walk_at "go") => `(tactic| repeat first | walk_at "rd1" | walk_at "ix" | with_reducible refine rd_and ?_ | with_reducible refine rd_or ?_)
local macro_rules | `(tactic| walk_at "fo") => `(tactic| (with_reducible refine rd_for ?_))
local macro_rules | `(tactic| walk_at "pm") => `(tactic| repeat first
  | with_reducible first | refine rd_pcons ?_ | refine rd_pstr ?_ | refine rd_pcap ?_ | refine rd_pwild ?_ | refine rd_pnil ?_ | refine rd_por ?_ | refine rd_pno ?_
  | ((with_reducible refine rd_eq rfl ?_); refine ⟨_, rfl, ?_⟩; first | refine rd_T rfl ?_ | refine rd_F (by decide) ?_)
  | dsimp only [List.nil_append, List.singleton_append, List.cons_append, setAll])
local macro_rules | `(tactic| walk_at "pc") => `(tactic| (refine rd_case ?_); (first | (refine rd_phit (SqT.of (by assumption)) rfl ?_) | (refine rd_pmiss (SqT.of (by assumption)) (by simp) ?_)); (walk_at "pm"))

section
variable {P : Program} {w : World} {K : PySem.W.Frag} {mg : Str → Option Value} {base : Heap} {J : Cls'} {f f2 : Addr} {fd fd2 : FuncData}
theorem sc_chain_end : FnScope ["chain", "meter", "last", "stage"] ["chain", "meter"] (defScope s_chain_end) := ⟨rfl, rfl, rfl, by decide +kernel, rfl, by decide +kernel, by decide +kernel⟩
theorem ok_chain_end {n : Nat} (T : Txt K mg) (F : FnP K "chain_end" "chain_end" s_chain_end f fd)
    (G_maker_of : Cal P w K mg base CX0 4 "maker_of" ["maker", "meter"] (spMakerOf J))
    (G_stage_behind : Cal P w K mg base CX0 (2 * n + 6) "stage_behind" ["ahead", "stage", "meter"] (spBehind J n)) :
    FnOk P w K mg base CX0 (2 * n + 7) f fd ["chain", "meter"] (spEnd J (n + 1)) := by
  refine ok0 F sc_chain_end (fun vs H Q E h => ?_) (fun cdv A outer s H vs Q E hr h => ?_)
  · obtain ⟨p, me, cs, lo, m, gs, c, rfl, _⟩ := h
    rfl
  · obtain ⟨p, me, cs, lo, m, gs, c, rfl, ⟨mk, ss, bs, ep, ess, hst⟩, hok, hn, M, n1, n2, n3, hl, q⟩ := h
    have hg := hst.get
    have ho := Ch.ok_sgs hok
    refine ⟨_, (pss_cons (ps_set (i := 2) sc_chain_end.nd rfl (Or.inl rfl) (pe_cal G_maker_of (hr.mono (by omega)) pass0 (pa_cons (pe_ix (ix_tupK K) (pv 0) pe_int (fun _ _ => rfl)) (pa_cons (pv 1) pa_nil))))
  (pss_cons (ps_for PassesOwn.never rfl (pi_tup (pe_ix (ix_tupK K) (pv 0) pe_int (fun _ _ => rfl))) (pg_name (i := 3) sc_chain_end.nd rfl (Or.inl rfl))
    (pss_one (ps_set (i := 2) sc_chain_end.nd rfl (Or.inl rfl) (pe_cal G_stage_behind (hr.mono (by omega)) pass0 (pa_cons (pv 2) (pa_cons (pv 3) (pa_cons (pv 1) pa_nil)))))))
  (pss_one (ps_ret (pv 2))))), ?_⟩
    try dsimp only [cxOf, Cx.nox, Cx.wish]
    refine rd_at (σ' := [some (.ref p), some (.ref me), none, none]) rfl ?_
    walk_at "go"
    have hm := c.nm_pos
    refine ⟨mk, me, cs, lo, m, gs, c.root, rfl, hst.root, M, n1, n2, n3, by omega, fun H1 x nx Mx hx f1 => ?_⟩
    walk_at "go"
    walk_at "fo"
    walk_at "go"
    refine rd_ixT (SqT.of (f1.tp ep)) rfl ?_
    refine ⟨ss, rfl, ⟨_, SqT.of (f1.tp ess)⟩, for_tup (K := K) (a := ss) (xs := bs.map V.ref) (fun i σ H' => ∃ (t : Tr) (v : Option V), σ = [some (.ref p), some (.ref me), some (.ref t.ad), v] ∧ NdAt J H' me gs.length (Ch.of c.root (c.sgs.take i)).nd t ∧
        MetAt J H' me cs lo m (gs ++ (Ch.of c.root (c.sgs.take i)).nd.gv) ∧ (∀ b, b ∈ t.ads → H b = none) ∧ t.dj ∧ Fr [cs] H H') ⟨.mkr x, none, rfl, nx, Mx, fun b hb => by rw [List.mem_singleton.mp hb]; exact hx, trivial, f1⟩ (fun i σ H' _ ⟨_, _, _, _, _, _, _, fr⟩ => SqT.of (fr.tp ess)) ?_ ?_⟩
    · rintro i y σ H' hi ⟨t, v, rfl, nd, Mi, fr0, dj, fi⟩
      obtain ⟨sx, hsx, rfl⟩ : ∃ sx, bs[i]? = some sx ∧ y = .ref sx := by
        rw [List.getElem?_map] at hi
        cases e : bs[i]? with
        | none => rw [e] at hi; cases hi
        | some z => rw [e] at hi; exact ⟨z, rfl, (Option.some.inj hi).symm⟩
      obtain ⟨g, hgi, gat⟩ := hg.2 i sx hsx
      have hle := Ch.of_take_nm c (i + 1)
      rw [Ch.of_take c.root hgi, Ch.snoc_nm] at hle
      have hp1 := (Ch.of c.root (c.sgs.take i)).nm_pos
      have gvl := (Ch.of c.root (c.sgs.take i)).gv_len
      walk_at "go"
      refine ⟨sx, me, cs, lo, m, gs.length, gs ++ (Ch.of c.root (c.sgs.take i)).nd.gv, _, t, g, rfl, gat.fr fi, ho.2 g (List.mem_of_getElem? hgi), by omega, nd, dj, Mi, n1, n2, n3, by rw [List.length_append], by rw [List.length_append]; omega, fun H2 t' nd' M' fr' dj' f' => ?_⟩
      walk_at "go"
      refine ⟨t', _, rfl, ?_, ?_, fun b hb => ?_, dj', fi.tr f'⟩
      · rw [Ch.of_take c.root hgi, Ch.nd_snoc]; exact nd'
      · rw [Ch.of_take c.root hgi, Ch.nd_snoc, Nd.snoc_gv, ← List.append_assoc]; exact M'
      · rcases fr' b hb with z | z
        · exact fr0 b z
        · exact fi.free (fun z2 => by
            rw [List.mem_singleton] at z2
            have := Mi.2.1
            rw [← z2, z] at this
            cases this) z
    · rintro σ H' ⟨t, v, rfl, nd, Mi, fr0, dj, fi⟩
      rw [List.length_map, hg.1, List.take_length, Ch.of_sgs] at nd Mi
      walk_at "go"
      exact q H' t nd Mi fr0 dj fi
theorem ends {fM fB fE : Addr} {fdM fdB fdE : FuncData} (T : Txt K mg) (FM : FnP K "maker_of" "maker_of" s_maker_of fM fdM) (FB : FnP K "stage_behind" "stage_behind" s_stage_behind fB fdB) (FE : FnP K "chain_end" "chain_end" s_chain_end fE fdE)
    (gM : mg "maker_of" = some (.ref fM)) (gB : mg "stage_behind" = some (.ref fB)) (gE : mg "chain_end" = some (.ref fE))
    (I_Count : CalI P w K mg base CX0 2 "Count" J.count ["self", "begin", "step", "meter"] (spCInit J)) (I_Row : CalI P w K mg base CX0 2 "Row" J.row ["self", "numbers", "meter"] (spRInit J))
    (I_Reckon : CalI P w K mg base CX0 2 "Reckon" J.reckon ["self", "ahead", "factor", "term"] (spSInit J.reckon 2 fun | [a, b] => [("factor", a), ("term", b)] | _ => []))
    (I_Keep : CalI P w K mg base CX0 2 "Keep" J.keep ["self", "ahead", "rest", "wheel"] (spSInit J.keep 2 fun | [a, b] => [("rest", a), ("wheel", b)] | _ => []))
    (I_Drop : CalI P w K mg base CX0 2 "Drop" J.drop ["self", "ahead", "many"] (spSInit J.drop 1 fun | [a] => [("left", a)] | _ => []))
    (I_Take : CalI P w K mg base CX0 2 "Take" J.take ["self", "ahead", "many"] (spSInit J.take 1 fun | [a] => [("left", a)] | _ => []))
    (I_Each : CalI P w K mg base CX0 2 "Each" J.each ["self", "ahead", "many"] (spSInit J.each 1 fun | [a] => [("many", a), ("left", .int 0), ("number", .non)] | _ => []))
    (I_Until : CalI P w K mg base CX0 2 "Until" J.until' ["self", "ahead", "n", "meter"] (spSInit J.until' 2 fun | [a, b] => [("n", a), ("meter", b)] | _ => []))
    (I_Unlike : CalI P w K mg base CX0 2 "Unlike" J.unlike ["self", "ahead"] (spSInit J.unlike 0 fun _ => [("last", .non)]))
    (I_Both : CalI P w K mg base CX0 2 "Both" J.both ["self", "ahead", "other", "meter"] (spSInit J.both 2 fun | [a, b] => [("other", a), ("meter", b)] | _ => []))
    (I_Then : CalI P w K mg base CX0 2 "Then" J.thn ["self", "ahead", "other"] (spSInit J.thn 1 fun | [a] => [("other", a)] | _ => [])) : ∀ n, Cal P w K mg base CX0 (2 * n + 5) "chain_end" ["chain", "meter"] (spEnd J n)
  | 0 => by
    have void : ∀ {vs : List V} {H : Hp} {Q : VK} {E : XK}, spEnd J 0 vs H Q E → False := by
      rintro vs H Q E ⟨p, me, cs, lo, m, gs, c, _, _, _, h, _⟩
      have := c.nm_pos
      omega
    exact cal_of FE gE (ok0 FE sc_chain_end (fun vs H Q E h => (void h).elim) fun cdv A outer s H vs Q E hr h => (void h).elim) fun _ _ _ _ _ _ us hl => match us, hl with | [_, _], _ => rfl
  | n + 1 => by
    have ih := ends T FM FB FE gM gB gE I_Count I_Row I_Reckon I_Keep I_Drop I_Take I_Each I_Until I_Unlike I_Both I_Then n
    have GM : Cal P w K mg base CX0 4 "maker_of" ["maker", "meter"] (spMakerOf J) := cal_of FM gM (ok_maker_of T FM I_Count I_Row) fun _ _ _ _ _ _ us hl => match us, hl with | [_, _], _ => rfl
    have GB : Cal P w K mg base CX0 (2 * n + 6) "stage_behind" ["ahead", "stage", "meter"] (spBehind J n) := cal_of FB gB (ok_stage_behind T FB I_Reckon I_Keep I_Drop I_Take I_Each I_Until I_Unlike I_Both I_Then ih) fun _ _ _ _ _ _ us hl => match us, hl with | [_, _, _], _ => rfl
    exact cal_of FE gE (ok_chain_end T FE GM GB) fun _ _ _ _ _ _ us hl => match us, hl with | [_, _], _ => rfl
end
end Dc

set_option Elab.async false
set_option linter.all false
set_option maxRecDepth 100000
set_option maxHeartbeats 2000000
namespace Dc
open PySem PySem.Spec PyProof.Rows L2
local macro_rules | `(tactic| walk_at "ne") => `(tactic| first | assumption | (refine Ne.symm ?_; assumption) | exact ne_of (by assumption) (by assumption) (by intro q; cases q) | exact ne_of_none (by assumption) (by assumption) | exact Ne.symm (ne_of_none (by assumption) (by assumption)))
local macro_rules | `(tactic| walk_at "hp") => `(tactic| first | assumption | exact upd_same | (refine upd_keep ?_ (by assumption); walk_at "hp") | (refine upd_other ?_ ?_; · walk_at "ne"; · walk_at "hp"))
local macro_rules | `(tactic| walk_at "hl") => `(tactic| first | assumption | exact SqL.of (by walk_at "hp"))
local macro_rules | `(tactic| walk_at "ht") => `(tactic| first | assumption | exact SqT.of (by walk_at "hp"))
local macro_rules | `(tactic| walk_at "rd1") => `(tactic| first
  | ((with_reducible apply rd_var); exact rfl)
  | ((with_reducible apply rd_eq); exact rfl) | ((with_reducible apply rd_ne); exact rfl)
  | with_reducible first
  | refine iteT ?_ | refine iteF ?_ | refine rd_nF ?_ | refine rd_nT ?_ | refine rd_yes ?_ | refine rd_c ?_ | refine rd_op ?_ | refine rd_un ?_ | refine rd_test ?_ | refine rd_B ?_ | refine rd_bl ?_ | refine rd_seq ?_ | refine rd_next ?_ | refine rd_ifs ?_ | refine rd_asg ?_ | refine rd_name ?_ | refine rd_ret ?_ | refine rd_drop ?_
  | refine rd_call ?_ | refine rd_cons ?_ | refine rd_nil ?_ | refine rd_cb ?_ | refine rd_I0 ?_ | refine rd_U ?_ | refine rd_gsub ?_ | refine rd_lst ?_ | refine rd_tup ?_ | refine rd_if ?_ | refine rd_not ?_ | refine rd_rng1 ?_ | refine rd_itup ?_ | refine rd_ilst ?_ | refine rd_bm ?_ | refine rd_bm0 ?_ | refine rd_andV ?_ | refine rd_orV ?_ | refine rd_notV ?_)
local macro_rules | `(tactic| walk_at "rd") => `(tactic| repeat walk_at "rd1")
local macro_rules | `(tactic| walk_at "ci") => `(tactic| first | assumption | (show (0 : Int) < _; first | decide | omega) | exact ⟨by decide, by decide⟩ | exact Or.inr ⟨by decide, by decide⟩ | exact Or.inl ⟨by decide, by decide⟩ | exact ⟨by decide, by decide, by decide⟩ | exact Or.inl ⟨by omega, by omega⟩ | exact Or.inr ⟨by omega, by omega⟩)
local macro_rules | `(tactic| walk_at "ix") => `(tactic| first
  | ((with_reducible apply rd_ixL); (walk_at "hl"); exact rfl)
  | ((with_reducible apply rd_ixT); (walk_at "ht"); exact rfl)
  | ((with_reducible apply rd_lenL); (walk_at "hl"))
  | ((with_reducible apply rd_lenT); (walk_at "ht"))
  | ((with_reducible apply rd_tupOf); (walk_at "hl"))
  | ((with_reducible apply rd_listOf); (walk_at "hl"))
  | (with_reducible refine rd_min2 ?_)
  | ((with_reducible apply rd_I); (walk_at "ci"))
  | ((with_reducible apply rd_setL); (walk_at "hp"); exact rfl))
local macro_rules | `(tactic| walk_at "gs") => `(tactic| repeat first | walk_at "rd1" | walk_at "ix")
local macro_rules | `(tactic| walk_at "go") => `(tactic| repeat first | walk_at "rd1" | walk_at "ix" | with_reducible refine rd_and ?_ | with_reducible refine rd_or ?_)
local macro_rules | `(tactic| walk_at "fo") => `(tactic| (with_reducible refine rd_for ?_))
local macro_rules | `(tactic| walk_at "pm") => `(tactic| repeat first
  | with_reducible first | refine rd_pcons ?_ | refine rd_pstr ?_ | refine rd_pcap ?_ | refine rd_pwild ?_ | refine rd_pnil ?_ | refine rd_por ?_ | refine rd_pno ?_
  | ((with_reducible refine rd_eq rfl ?_); refine ⟨_, rfl, ?_⟩; first | refine rd_T rfl ?_ | refine rd_F (by decide) ?_)
  | dsimp only [List.nil_append, List.singleton_append, List.cons_append, setAll])
local macro_rules | `(tactic| walk_at "pc") => `(tactic| (refine rd_case ?_); (first | (refine rd_phit (SqT.of (by assumption)) rfl ?_) | (refine rd_pmiss (SqT.of (by assumption)) (by simp) ?_)); (walk_at "pm"))

/-! ### a good chain is let by -/
theorem rd_chain {r r' : R2} {ta tb tc : TE} {σ : L2.St} {H : Hp} {Q : VK} (h : ta σ H fun x H1 => tb σ H1 fun y H2 => r x y H2 fun z H3 => ∃ k, z = .bl k ∧ (if k = true then tc σ H3 fun w' H4 => r' y w' H4 Q else Q (.bl false) H3)) : tChain r r' ta tb tc σ H Q := h
theorem isi_int_bool : kitB "int" "bool" = some false := by decide +kernel
theorem isi_int_int : kitB "int" "int" = some true := by decide +kernel
theorem isi_tuple : kitB "tuple" "tuple" = some true := by decide +kernel
theorem tyx_tup {K : PySem.W.Frag} {H : Hp} {a : Addr} {xs : List V} (h : H a = some (.tup xs)) : TyX K H (.ref a) (.type "tuple") := .base (.tup h)
theorem tyx_int {K : PySem.W.Frag} {H : Hp} {n : Int} : TyX K H (.int n) (.type "int") := .base (.int n)
def spIsNumber : Sp := fun vs H Q _ => ∃ n : Int, vs = [.int n] ∧ numOk n ∧ Q (.bl true) H
def spIsWithin : Sp := fun vs H Q _ => ∃ n lo hi : Int, vs = [.int n, .int lo, .int hi] ∧ numOk n ∧ lo ≤ n ∧ n ≤ hi ∧ Q (.bl true) H
def spIsRow : Sp := fun vs H Q _ => ∃ (r : Addr) (ns : List Int), vs = [.ref r] ∧ H r = some (.tup (ns.map V.int)) ∧ ns.length ≤ 100 ∧ (∀ n ∈ ns, numOk n) ∧ ∀ H', Fr [] H H' → Q (.bl true) H'
def spIsMaker : Sp := fun vs H Q _ => ∃ (a : Addr) (k : Mkr), vs = [.ref a] ∧ MkAt H a k ∧ k.ok ∧ ∀ H', Fr [] H H' → Q (.bl true) H'
section
variable {P : Program} {w : World} {K : PySem.W.Frag} {mg : Str → Option Value} {base : Heap} {J : Cls'} {f f2 : Addr} {fd fd2 : FuncData}
theorem sc_is_number : FnScope ["number"] ["number"] (defScope s_is_number) := ⟨rfl, rfl, rfl, by decide +kernel, rfl, by decide +kernel, by decide +kernel⟩
theorem ok_is_number (T : Txt K mg) (F : FnP K "is_number" "is_number" s_is_number f fd) : FnOk P w K mg base CX0 1 f fd ["number"] spIsNumber := by
  refine ok0 F sc_is_number (fun vs H Q E h => ?_) (fun cdv A outer s H vs Q E hr h => ?_)
  · obtain ⟨n, rfl, _⟩ := h
    rfl
  · obtain ⟨n, rfl, hn, k⟩ := h
    refine ⟨_, (pss_cons (ps_if (PW.pt (pw_or (pt_val (pe_callB (call_isiK1 K) (by rfl) T.free_isinstance (by decide +kernel) (pa_cons (pv 0) (pa_cons (pe_bltn (v := .ty "bool") (u := .type "bool") (by rfl) T.free_bool (by decide +kernel) rfl) pa_nil)))) (pw_or1 (pt_not (pt_val (pe_callB (call_isiK1 K) (by rfl) T.free_isinstance (by decide +kernel) (pa_cons (pv 0) (pa_cons (pe_bltn (v := .ty "int") (u := .type "int") (by rfl) T.free_int (by decide +kernel) rfl) pa_nil))))))))
    (pss_one (ps_ret pe_bl)) pss_nil)
  (pss_one (ps_ret (pe_chain op_lt op_lt (pe_un un_neg (pe_cint T.c_FIRST_TOO_LARGE)) (pv 0) (pe_cint T.c_FIRST_TOO_LARGE))))), ?_⟩
    try dsimp only [cxOf, Cx.nox, Cx.wish]
    refine rd_at (σ' := [some (.int n)]) rfl ?_
    walk_at "go"
    refine rd_isi tyx_int isi_int_bool ?_
    walk_at "go"
    refine rd_isi tyx_int isi_int_int ?_
    walk_at "go"
    refine rd_chain ?_
    walk_at "go"
    refine rd_T hn.1 ?_
    walk_at "go"
    have h2 : n < 1000000000000000000000000000000 := by have := hn.2; omega
    rw [decide_eq_true h2]
    exact k
theorem sc_is_within : FnScope ["number", "low", "high"] ["number", "low", "high"] (defScope s_is_within) := ⟨rfl, rfl, rfl, by decide +kernel, rfl, by decide +kernel, by decide +kernel⟩
theorem ok_is_within (T : Txt K mg) (F : FnP K "is_within" "is_within" s_is_within f fd) (G_is_number : Cal P w K mg base CX0 1 "is_number" ["number"] spIsNumber) : FnOk P w K mg base CX0 2 f fd ["number", "low", "high"] spIsWithin := by
  refine ok0 F sc_is_within (fun vs H Q E h => ?_) (fun cdv A outer s H vs Q E hr h => ?_)
  · obtain ⟨n, lo, hi, rfl, _⟩ := h
    rfl
  · obtain ⟨n, lo, hi, rfl, hn, h1, h2, k⟩ := h
    refine ⟨_, (pss_one (ps_ret (pe_and (pe_cal G_is_number (hr.mono (by omega)) pass0 (pa_cons (pv 0) pa_nil)) (pe_one (pe_chain op_le op_le (pv 1) (pv 0) (pv 2)))))), ?_⟩
    try dsimp only [cxOf, Cx.nox, Cx.wish]
    refine rd_at (σ' := [some (.int n), some (.int lo), some (.int hi)]) rfl ?_
    walk_at "go"
    refine ⟨n, rfl, hn, ?_⟩
    walk_at "go"
    refine rd_chain ?_
    walk_at "go"
    refine rd_T h1 ?_
    walk_at "go"
    rw [decide_eq_true h2]
    exact k
theorem sc_is_row : FnScope ["numbers", "number"] ["numbers"] (defScope s_is_row) := ⟨rfl, rfl, rfl, by decide +kernel, rfl, by decide +kernel, by decide +kernel⟩
theorem ok_is_row (T : Txt K mg) (F : FnP K "is_row" "is_row" s_is_row f fd) (G_is_number : Cal P w K mg base CX0 1 "is_number" ["number"] spIsNumber) : FnOk P w K mg base CX0 2 f fd ["numbers"] spIsRow := by
  refine ok0 F sc_is_row (fun vs H Q E h => ?_) (fun cdv A outer s H vs Q E hr h => ?_)
  · obtain ⟨r, ns, rfl, _⟩ := h
    rfl
  · obtain ⟨r, ns, rfl, er, hl, hn, k⟩ := h
    refine ⟨_, (pss_cons (ps_if (PW.pt (pw_or (pt_not (pt_val (pe_callB (call_isiK1 K) (by rfl) T.free_isinstance (by decide +kernel) (pa_cons (pv 0) (pa_cons (pe_bltn (v := .ty "tuple") (u := .type "tuple") (by rfl) T.free_tuple (by decide +kernel) rfl) pa_nil))))) (pw_or1 (pt_cmpR op_gt (pe_callB (call_len1K K) (by rfl) T.free_len (by decide +kernel) (pa_cons (pv 0) pa_nil)) (pe_cint T.c_ROW_AT_MOST) (nomark _)))))
    (pss_one (ps_ret pe_bl)) pss_nil)
  (pss_one (ps_ret (pe_callB (cr_allK K rfl) (by rfl) T.free_all (by decide +kernel) (pa_cons (pe_lc (own := [("number", 1)]) (g := gName 1) rfl sc_is_row.nd (pi_tup (pv 0)) (blkOk_by (N := ["numbers", "number"]) (sc := defScope s_is_row) (by decide +kernel)) (fun _ _ _ _ _ => pg_name (i := 1) sc_is_row.nd rfl (Or.inl rfl)) (fun _ _ _ _ _ => pts_nil) (fun _ _ _ _ _ => (pe_cal G_is_number (hr.mono (by omega)) pass0 (pa_cons (pv 1) pa_nil)))) pa_nil))))), ?_⟩
    try dsimp only [cxOf, Cx.nox, Cx.wish]
    refine rd_at (σ' := [some (.ref r), none]) rfl ?_
    walk_at "go"
    refine rd_isi (tyx_tup er) isi_tuple ?_
    walk_at "go"
    refine rd_F (by rw [List.length_map]; omega) ?_
    walk_at "go"
    refine ⟨_, rfl, r, rfl, ⟨_, SqT.of er⟩, fun D hD => ?_⟩
    refine lc_tup (K := K) (a := r) (xs := ns.map V.int) (fun i H1 => H1 D = some (.lst ((List.replicate i true).map V.bl)) ∧ Fr [] H H1) ⟨upd_same, Fr.new hD⟩ (fun i H1 _ ⟨_, fr⟩ => SqT.of (fr.tp er)) ?_ ?_
    · rintro i y H1 hi ⟨e1, f1⟩
      obtain ⟨n, rfl, hn'⟩ : ∃ n, y = V.int n ∧ numOk n := by
        rw [List.getElem?_map] at hi
        cases e : ns[i]? with
        | none => rw [e] at hi; cases hi
        | some z => rw [e] at hi; exact ⟨z, (Option.some.inj hi).symm, hn z (List.mem_of_getElem? e)⟩
      have il : i < ns.length := by have := (List.getElem?_eq_some_iff.mp hi).1; rwa [List.length_map] at this
      walk_at "go"
      refine ⟨rfl, ?_⟩
      walk_at "go"
      refine ⟨n, rfl, hn', _, e1, by rw [List.length_map, List.length_replicate]; exact Nat.lt_of_lt_of_le il (Nat.le_trans hl (by decide)), ?_, f1.trans (Fr.put (S := [D]) (by simp) (nt e1)) fun b hb => ?_⟩
      · rw [upd_same, List.replicate_succ', List.map_append]
        rfl
      · rw [List.mem_singleton] at hb
        rw [hb]; exact .inr hD
    · rintro H1 ⟨e1, f1⟩
      walk_at "go"
      refine ⟨D, _, rfl, SqL.of e1, ?_⟩
      have z : (List.replicate (ns.map V.int).length true).all id = true := by simp
      rw [z]
      exact k _ f1
theorem sc_is_maker : FnScope ["maker", "begin", "step", "numbers"] ["maker"] (defScope s_is_maker) := ⟨rfl, rfl, rfl, by decide +kernel, rfl, by decide +kernel, by decide +kernel⟩
theorem ok_is_maker (T : Txt K mg) (F : FnP K "is_maker" "is_maker" s_is_maker f fd) (G_is_number : Cal P w K mg base CX0 1 "is_number" ["number"] spIsNumber) (G_is_row : Cal P w K mg base CX0 2 "is_row" ["numbers"] spIsRow) : FnOk P w K mg base CX0 3 f fd ["maker"] spIsMaker := by
  refine ok0 F sc_is_maker (fun vs H Q E h => ?_) (fun cdv A outer s H vs Q E hr h => ?_)
  · obtain ⟨a, kk, rfl, _⟩ := h
    rfl
  · obtain ⟨a, kk, rfl, ea, hk, k⟩ := h
    refine ⟨_, (pss_cons (ps_if (pt_not (pt_val (pe_callB (call_isiK1 K) (by rfl) T.free_isinstance (by decide +kernel) (pa_cons (pv 0) (pa_cons (pe_bltn (v := .ty "tuple") (u := .type "tuple") (by rfl) T.free_tuple (by decide +kernel) rfl) pa_nil)))))
    (pss_one (ps_ret pe_bl)) pss_nil)
  (pss_cons (ps_match (pv 0)
    (pc_cons (is := [1, 2]) sc_is_maker.nd (pat_seq rfl (pp_cons (pat_str op_eq) (pp_cons pat_cap (pp_cons pat_cap pp_nil)))) rfl (all_local (by rfl))
      (pss_one (ps_ret (pe_and (pe_cal G_is_number (hr.mono (by omega)) pass0 (pa_cons (pv 1) pa_nil)) (pe_one (pe_cal G_is_number (hr.mono (by omega)) pass0 (pa_cons (pv 2) pa_nil))))))
    (pc_cons (is := [3]) sc_is_maker.nd (pat_seq rfl (pp_cons (pat_str op_eq) (pp_cons pat_cap pp_nil))) rfl (all_local (by rfl))
      (pss_one (ps_ret (pe_cal G_is_row (hr.mono (by omega)) pass0 (pa_cons (pv 3) pa_nil))))
    pc_nil)))
  (pss_one (ps_ret pe_bl)))), ?_⟩
    try dsimp only [cxOf, Cx.nox, Cx.wish]
    refine rd_at (σ' := [some (.ref a)] ++ List.replicate (["maker", "begin", "step", "numbers"].length - 1) none) rfl ?_
    cases kk with
    | count b st =>
      simp only [MkAt] at ea
      walk_at "go"
      refine rd_isi (tyx_tup ea) isi_tuple ?_
      walk_at "go"
      refine rd_match ?_
      walk_at "go"
      repeat walk_at "pc"
      walk_at "go"
      refine ⟨b, rfl, hk.1, ?_⟩
      walk_at "go"
      refine ⟨st, rfl, hk.2, ?_⟩
      exact k _ (Fr.refl _ _)
    | row ns =>
      obtain ⟨r, ea, er⟩ := ea
      walk_at "go"
      refine rd_isi (tyx_tup ea) isi_tuple ?_
      walk_at "go"
      refine rd_match ?_
      walk_at "go"
      repeat walk_at "pc"
      walk_at "go"
      exact ⟨r, ns, rfl, er, hk.1, hk.2, k⟩
end
end Dc

set_option Elab.async false
set_option linter.all false
set_option maxRecDepth 100000
set_option maxHeartbeats 2000000
namespace Dc
open PySem PySem.Spec PyProof.Rows L2
local macro_rules | `(tactic| walk_at "ne") => `(tactic| first | assumption | (refine Ne.symm ?_; assumption) | exact ne_of (by assumption) (by assumption) (by intro q; cases q) | exact ne_of_none (by assumption) (by assumption) | exact Ne.symm (ne_of_none (by assumption) (by assumption)))
local macro_rules | `(tactic| walk_at "hp") => `(tactic| first | assumption | exact upd_same | (refine upd_keep ?_ (by assumption); walk_at "hp") | (refine upd_other ?_ ?_; · walk_at "ne"; · walk_at "hp"))
local macro_rules | `(tactic| walk_at "hl") => `(tactic| first | assumption | exact SqL.of (by walk_at "hp"))
local macro_rules | `(tactic| walk_at "ht") => `(tactic| first | assumption | exact SqT.of (by walk_at "hp"))
local macro_rules | `(tactic| walk_at "rd1") => `(tactic| first
  | ((with_reducible apply rd_var); exact rfl)
  | ((with_reducible apply rd_eq); exact rfl) | ((with_reducible apply rd_ne); exact rfl)
  | with_reducible first
  | refine iteT ?_ | refine iteF ?_ | refine rd_nF ?_ | refine rd_nT ?_ | refine rd_yes ?_ | refine rd_c ?_ | refine rd_op ?_ | refine rd_un ?_ | refine rd_test ?_ | refine rd_B ?_ | refine rd_bl ?_ | refine rd_seq ?_ | refine rd_next ?_ | refine rd_ifs ?_ | refine rd_asg ?_ | refine rd_name ?_ | refine rd_ret ?_ | refine rd_drop ?_
  | refine rd_call ?_ | refine rd_cons ?_ | refine rd_nil ?_ | refine rd_cb ?_ | refine rd_I0 ?_ | refine rd_U ?_ | refine rd_gsub ?_ | refine rd_lst ?_ | refine rd_tup ?_ | refine rd_if ?_ | refine rd_not ?_ | refine rd_rng1 ?_ | refine rd_itup ?_ | refine rd_ilst ?_ | refine rd_bm ?_ | refine rd_bm0 ?_ | refine rd_andV ?_ | refine rd_orV ?_ | refine rd_notV ?_)
local macro_rules | `(tactic| walk_at "rd") => `(tactic| repeat walk_at "rd1")
local macro_rules | `(tactic| walk_at "ci") => `(tactic| first | assumption | (show (0 : Int) < _; first | decide | omega) | exact ⟨by decide, by decide⟩ | exact Or.inr ⟨by decide, by decide⟩ | exact Or.inl ⟨by decide, by decide⟩ | exact ⟨by decide, by decide, by decide⟩ | exact Or.inl ⟨by omega, by omega⟩ | exact Or.inr ⟨by omega, by omega⟩)
local macro_rules | `(tactic| walk_at "ix") => `(tactic| first
  | ((with_reducible apply rd_ixL); (walk_at "hl"); exact rfl)
  | ((with_reducible apply rd_ixT); (walk_at "ht"); exact rfl)
  | ((with_reducible apply rd_lenL); (walk_at "hl"))
  | ((with_reducible apply rd_lenT); (walk_at "ht"))
  | ((with_reducible apply rd_tupOf); (walk_at "hl"))
  | ((with_reducible apply rd_listOf); (walk_at "hl"))
  | (with_reducible refine rd_min2 ?_)
  | ((with_reducible apply rd_I); (walk_at "ci"))
  | ((with_reducible apply rd_setL); (walk_at "hp"); exact rfl))
local macro_rules | `(tactic| walk_at "gs") => `(tactic| repeat first | walk_at "rd1" | walk_at "ix")
local macro_rules | `(tactic| walk_at "go") => `(tactic| repeat first | walk_at "rd1" | walk_at "ix" | with_reducible refine rd_and ?_ | with_reducible refine rd_or ?_)
local macro_rules | `(tactic| walk_at "fo") => `(tactic| (with_reducible refine rd_for ?_))
local macro_rules | `(tactic| walk_at "pm") => `(tactic| repeat first
  | with_reducible first | refine rd_pcons ?_ | refine rd_pstr ?_ | refine rd_pcap ?_ | refine rd_pwild ?_ | refine rd_pnil ?_ | refine rd_por ?_ | refine rd_pno ?_
  | ((with_reducible refine rd_eq rfl ?_); refine ⟨_, rfl, ?_⟩; first | refine rd_T rfl ?_ | refine rd_F (by decide) ?_)
  | dsimp only [List.nil_append, List.singleton_append, List.cons_append, setAll])
local macro_rules | `(tactic| walk_at "pc") => `(tactic| (refine rd_case ?_); (first | (refine rd_phit (SqT.of (by assumption)) rfl ?_) | (refine rd_pmiss (SqT.of (by assumption)) (by simp) ?_)); (walk_at "pm"))

def Sg.nest : Sg → Bool
  | .one _ => false
  | _ => true
def spIsStage : Sp := fun vs H Q _ => ∃ (x : Addr) (g : Sg), vs = [.ref x] ∧ SgAt H x g ∧ g.ok ∧ Q (.bl true) H
def spHasChain : Sp := fun vs H Q _ => ∃ (x : Addr) (g : Sg), vs = [.ref x] ∧ SgAt H x g ∧ ∀ H', Fr [] H H' → Q (.bl g.nest) H'
def spIsPair : Sp := fun vs H Q _ => ∃ (p m ss : Addr) (bs : List Addr), vs = [.ref p] ∧ H p = some (.tup [.ref m, .ref ss]) ∧ H ss = some (.tup (bs.map V.ref)) ∧ Q (.bl true) H
section
variable {P : Program} {w : World} {K : PySem.W.Frag} {mg : Str → Option Value} {base : Heap} {J : Cls'} {f f2 : Addr} {fd fd2 : FuncData}
theorem sc_is_stage : FnScope ["stage", "n", "rest", "wheel", "many"] ["stage"] (defScope s_is_stage) := ⟨rfl, rfl, rfl, by decide +kernel, rfl, by decide +kernel, by decide +kernel⟩
theorem ok_is_stage (T : Txt K mg) (F : FnP K "is_stage" "is_stage" s_is_stage f fd) (G_is_number : Cal P w K mg base CX0 1 "is_number" ["number"] spIsNumber) (G_is_within : Cal P w K mg base CX0 2 "is_within" ["number", "low", "high"] spIsWithin) : FnOk P w K mg base CX0 3 f fd ["stage"] spIsStage := by
  refine ok0 F sc_is_stage (fun vs H Q E h => ?_) (fun cdv A outer s H vs Q E hr h => ?_)
  · obtain ⟨x, g, rfl, _⟩ := h
    rfl
  · obtain ⟨x, g, rfl, ea, hg, k⟩ := h
    refine ⟨_, (pss_cons (ps_if (pt_not (pt_val (pe_callB (call_isiK1 K) (by rfl) T.free_isinstance (by decide +kernel) (pa_cons (pv 0) (pa_cons (pe_bltn (v := .ty "tuple") (u := .type "tuple") (by rfl) T.free_tuple (by decide +kernel) rfl) pa_nil)))))
    (pss_one (ps_ret pe_bl)) pss_nil)
  (pss_cons (ps_match (pv 0)
    (pc_cons (is := [1]) sc_is_stage.nd (pat_seq rfl (pp_cons (pat_or (pf_cons (pat_str op_eq) (pf_cons (pat_str op_eq) (pf_cons (pat_str op_eq) pf_nil)))) (pp_cons pat_cap pp_nil))) rfl (all_local (by rfl))
      (pss_one (ps_ret (pe_cal G_is_number (hr.mono (by omega)) pass0 (pa_cons (pv 1) pa_nil))))
    (pc_cons (is := [2, 3]) sc_is_stage.nd (pat_seq rfl (pp_cons (pat_str op_eq) (pp_cons pat_cap (pp_cons pat_cap pp_nil)))) rfl (all_local (by rfl))
      (pss_one (ps_ret (pe_and (pe_cal G_is_within (hr.mono (by omega)) pass0 (pa_cons (pv 3) (pa_cons pe_int (pa_cons pe_int pa_nil)))) (pe_one (pe_cal G_is_within (hr.mono (by omega)) pass0 (pa_cons (pv 2) (pa_cons pe_int (pa_cons (pe_op op_sub (pv 3) pe_int) pa_nil))))))))
    (pc_cons (is := [4]) sc_is_stage.nd (pat_seq rfl (pp_cons (pat_or (pf_cons (pat_str op_eq) (pf_cons (pat_str op_eq) pf_nil))) (pp_cons pat_cap pp_nil))) rfl (all_local (by rfl))
      (pss_one (ps_ret (pe_cal G_is_within (hr.mono (by omega)) pass0 (pa_cons (pv 4) (pa_cons pe_int (pa_cons pe_int pa_nil))))))
    (pc_cons (is := [4]) sc_is_stage.nd (pat_seq rfl (pp_cons (pat_str op_eq) (pp_cons pat_cap pp_nil))) rfl (all_local (by rfl))
      (pss_one (ps_ret (pe_cal G_is_within (hr.mono (by omega)) pass0 (pa_cons (pv 4) (pa_cons pe_int (pa_cons pe_int pa_nil))))))
    (pc_cons (is := []) sc_is_stage.nd (pat_seq rfl (pp_cons (pat_str op_eq) pp_nil)) rfl (all_local (by rfl))
      (pss_one (ps_ret pe_bl))
    (pc_cons (is := []) sc_is_stage.nd (pat_seq rfl (pp_cons (pat_or (pf_cons (pat_str op_eq) (pf_cons (pat_str op_eq) pf_nil))) (pp_cons pat_wild pp_nil))) rfl (all_local (by rfl))
      (pss_one (ps_ret pe_bl))
    pc_nil)))))))
  (pss_one (ps_ret pe_bl)))), ?_⟩
    try dsimp only [cxOf, Cx.nox, Cx.wish]
    refine rd_at (σ' := [some (.ref x)] ++ List.replicate (["stage", "n", "rest", "wheel", "many"].length - 1) none) rfl ?_
    obtain ⟨vs, ev⟩ : ∃ vs, H x = some (.tup vs) := by
      cases g with
      | one kd => exact ⟨_, ea⟩
      | both o => obtain ⟨p, h, _⟩ := ea; exact ⟨_, h⟩
      | thn o => obtain ⟨p, h, _⟩ := ea; exact ⟨_, h⟩
    walk_at "go"
    refine rd_isi (tyx_tup ev) isi_tuple ?_
    walk_at "go"
    clear ev vs
    refine rd_match ?_
    walk_at "go"
    cases g with
    | one kd =>
      cases kd with
      | add n =>
        simp only [SgAt, Kd.vals] at ea
        repeat walk_at "pc"
        walk_at "go"
        exact ⟨n, rfl, hg, k⟩
      | times n =>
        simp only [SgAt, Kd.vals] at ea
        repeat walk_at "pc"
        walk_at "go"
        exact ⟨n, rfl, hg.1, k⟩
      | keep r wh =>
        simp only [SgAt, Kd.vals] at ea
        repeat walk_at "pc"
        walk_at "go"
        refine ⟨wh, 2, 1000, rfl, by have := hg.1; have := hg.2.1; unfold numOk; omega, hg.1, hg.2.1, ?_⟩
        walk_at "go"
        exact ⟨r, 0, wh - 1, rfl, by have := hg.1; have := hg.2; unfold numOk; omega, hg.2.2.1, by have := hg.2.2.2; omega, k⟩
      | drop n =>
        simp only [SgAt, Kd.vals] at ea
        repeat walk_at "pc"
        walk_at "go"
        exact ⟨n, 0, 100, rfl, by have := hg.1; have := hg.2; unfold numOk; omega, hg.1, hg.2, k⟩
      | take n =>
        simp only [SgAt, Kd.vals] at ea
        repeat walk_at "pc"
        walk_at "go"
        exact ⟨n, 0, 100, rfl, by have := hg.1; have := hg.2; unfold numOk; omega, hg.1, hg.2, k⟩
      | each n =>
        simp only [SgAt, Kd.vals] at ea
        repeat walk_at "pc"
        walk_at "go"
        exact ⟨n, 1, 10, rfl, by have := hg.1; have := hg.2; unfold numOk; omega, hg.1, hg.2, k⟩
      | «until» n =>
        simp only [SgAt, Kd.vals] at ea
        repeat walk_at "pc"
        walk_at "go"
        exact ⟨n, rfl, hg, k⟩
      | unlike =>
        simp only [SgAt, Kd.vals] at ea
        repeat walk_at "pc"
        walk_at "go"
        exact k
    | both o =>
      obtain ⟨p, ea, _⟩ := ea
      repeat walk_at "pc"
      walk_at "go"
      exact k
    | thn o =>
      obtain ⟨p, ea, _⟩ := ea
      repeat walk_at "pc"
      walk_at "go"
      exact k
theorem sc_has_chain : FnScope ["stage"] ["stage"] (defScope s_has_chain) := ⟨rfl, rfl, rfl, by decide +kernel, rfl, by decide +kernel, by decide +kernel⟩
theorem ok_has_chain (T : Txt K mg) (F : FnP K "has_chain" "has_chain" s_has_chain f fd) : FnOk P w K mg base CX0 1 f fd ["stage"] spHasChain := by
  refine ok0 F sc_has_chain (fun vs H Q E h => ?_) (fun cdv A outer s H vs Q E hr h => ?_)
  · obtain ⟨x, g, rfl, _⟩ := h
    rfl
  · obtain ⟨x, g, rfl, ea, k⟩ := h
    refine ⟨_, (pss_one (ps_ret (pe_cmpR (op_in_seqK K) (pe_ix (ix_tupK K) (pv 0) pe_int (fun _ _ => rfl)) (pe_tup (pa_cons pe_str (pa_cons pe_str pa_nil))) (by rfl)))), ?_⟩
    try dsimp only [cxOf, Cx.nox, Cx.wish]
    refine rd_at (σ' := [some (.ref x)]) rfl ?_
    walk_at "go"
    obtain ⟨vs, nm, ev, e0, hb⟩ : ∃ vs nm, H x = some (.tup vs) ∧ atI vs 0 = some (.str nm) ∧ inV (.str nm) [.str "both", .str "then"] = g.nest := by
      cases g with
      | one kd => exact ⟨_, kd.name, ea, kd.at0, by cases kd <;> (simp only [Kd.name, Sg.nest]; decide +kernel)⟩
      | both o => obtain ⟨p, h, _⟩ := ea; exact ⟨_, "both", h, rfl, by show inV _ _ = true; decide +kernel⟩
      | thn o => obtain ⟨p, h, _⟩ := ea; exact ⟨_, "then", h, rfl, by show inV _ _ = true; decide +kernel⟩
    refine rd_ixT (SqT.of ev) e0 ?_
    walk_at "go"
    refine ⟨by show 2 ≤ sizeLine; decide, fun p hp => ?_⟩
    refine ⟨p, _, rfl, .inr (SqT.of upd_same), rfl, rfl, ?_⟩
    rw [if_neg (by decide), hb]
    exact k _ (Fr.new hp)
theorem sc_is_pair : FnScope ["part"] ["part"] (defScope s_is_pair) := ⟨rfl, rfl, rfl, by decide +kernel, rfl, by decide +kernel, by decide +kernel⟩
theorem ok_is_pair (T : Txt K mg) (F : FnP K "is_pair" "is_pair" s_is_pair f fd) : FnOk P w K mg base CX0 1 f fd ["part"] spIsPair := by
  refine ok0 F sc_is_pair (fun vs H Q E h => ?_) (fun cdv A outer s H vs Q E hr h => ?_)
  · obtain ⟨p, m, ss, bs, rfl, _⟩ := h
    rfl
  · obtain ⟨p, m, ss, bs, rfl, ep, es, k⟩ := h
    refine ⟨_, (pss_one (ps_ret (pe_and (pe_callB (call_isiK1 K) (by rfl) T.free_isinstance (by decide +kernel) (pa_cons (pv 0) (pa_cons (pe_bltn (v := .ty "tuple") (u := .type "tuple") (by rfl) T.free_tuple (by decide +kernel) rfl) pa_nil))) (pe_and (pe_cmpR op_eq (pe_callB (call_len1K K) (by rfl) T.free_len (by decide +kernel) (pa_cons (pv 0) pa_nil)) pe_int (nomark _)) (pe_one (pe_callB (call_isiK1 K) (by rfl) T.free_isinstance (by decide +kernel) (pa_cons (pe_ix (ix_tupK K) (pv 0) pe_int (fun _ _ => rfl)) (pa_cons (pe_bltn (v := .ty "tuple") (u := .type "tuple") (by rfl) T.free_tuple (by decide +kernel) rfl) pa_nil)))))))), ?_⟩
    try dsimp only [cxOf, Cx.nox, Cx.wish]
    refine rd_at (σ' := [some (.ref p)]) rfl ?_
    walk_at "go"
    refine rd_isi (tyx_tup ep) isi_tuple ?_
    walk_at "go"
    refine rd_T rfl ?_
    walk_at "go"
    exact rd_isi (tyx_tup es) isi_tuple k
end
end Dc

set_option Elab.async false
set_option linter.all false
set_option maxRecDepth 100000
set_option maxHeartbeats 2000000
namespace Dc
open PySem PySem.Spec PyProof.Rows L2
local macro_rules | `(tactic| walk_at "ne") => `(tactic| first | assumption | (refine Ne.symm ?_; assumption) | exact ne_of (by assumption) (by assumption) (by intro q; cases q) | exact ne_of_none (by assumption) (by assumption) | exact Ne.symm (ne_of_none (by assumption) (by assumption)))
local macro_rules | `(tactic| walk_at "hp") => `(tactic| first | assumption | exact upd_same | (refine upd_keep ?_ (by assumption); walk_at "hp") | (refine upd_other ?_ ?_; · walk_at "ne"; · walk_at "hp"))
local macro_rules | `(tactic| walk_at "hl") => `(tactic| first | assumption | exact SqL.of (by walk_at "hp"))
local macro_rules | `(tactic| walk_at "ht") => `(tactic| first | assumption | exact SqT.of (by walk_at "hp"))
local macro_rules | `(tactic| walk_at "rd1") => `(tactic| first
  | ((with_reducible apply rd_var); exact rfl)
  | ((with_reducible apply rd_eq); exact rfl) | ((with_reducible apply rd_ne); exact rfl)
  | with_reducible first
  | refine iteT ?_ | refine iteF ?_ | refine rd_nF ?_ | refine rd_nT ?_ | refine rd_yes ?_ | refine rd_c ?_ | refine rd_op ?_ | refine rd_un ?_ | refine rd_test ?_ | refine rd_B ?_ | refine rd_bl ?_ | refine rd_seq ?_ | refine rd_next ?_ | refine rd_ifs ?_ | refine rd_asg ?_ | refine rd_name ?_ | refine rd_ret ?_ | refine rd_drop ?_
  | refine rd_call ?_ | refine rd_cons ?_ | refine rd_nil ?_ | refine rd_cb ?_ | refine rd_I0 ?_ | refine rd_U ?_ | refine rd_gsub ?_ | refine rd_lst ?_ | refine rd_tup ?_ | refine rd_if ?_ | refine rd_not ?_ | refine rd_rng1 ?_ | refine rd_itup ?_ | refine rd_ilst ?_ | refine rd_bm ?_ | refine rd_bm0 ?_ | refine rd_andV ?_ | refine rd_orV ?_ | refine rd_notV ?_)
local macro_rules | `(tactic| walk_at "rd") => `(tactic| repeat walk_at "rd1")
local macro_rules | `(tactic| walk_at "ci") => `(tactic| first | assumption | (show (0 : Int) < _; first | decide | omega) | exact ⟨by decide, by decide⟩ | exact Or.inr ⟨by decide, by decide⟩ | exact Or.inl ⟨by decide, by decide⟩ | exact ⟨by decide, by decide, by decide⟩ | exact Or.inl ⟨by omega, by omega⟩ | exact Or.inr ⟨by omega, by omega⟩)
local macro_rules | `(tactic| walk_at "ix") => `(tactic| first
  | ((with_reducible apply rd_ixL); (walk_at "hl"); exact rfl)
  | ((with_reducible apply rd_ixT); (walk_at "ht"); exact rfl)
  | ((with_reducible apply rd_lenL); (walk_at "hl"))
  | ((with_reducible apply rd_lenT); (walk_at "ht"))
  | ((with_reducible apply rd_tupOf); (walk_at "hl"))
  | ((with_reducible apply rd_listOf); (walk_at "hl"))
  | (with_reducible refine rd_min2 ?_)
  | ((with_reducible apply rd_I); (walk_at "ci"))
  | ((with_reducible apply rd_setL); (walk_at "hp"); exact rfl))
local macro_rules | `(tactic| walk_at "gs") => `(tactic| repeat first | walk_at "rd1" | walk_at "ix")
local macro_rules | `(tactic| walk_at "go") => `(tactic| repeat first | walk_at "rd1" | walk_at "ix" | with_reducible refine rd_and ?_ | with_reducible refine rd_or ?_)
local macro_rules | `(tactic| walk_at "fo") => `(tactic| (with_reducible refine rd_for ?_))
local macro_rules | `(tactic| walk_at "pm") => `(tactic| repeat first
  | with_reducible first | refine rd_pcons ?_ | refine rd_pstr ?_ | refine rd_pcap ?_ | refine rd_pwild ?_ | refine rd_pnil ?_ | refine rd_por ?_ | refine rd_pno ?_
  | ((with_reducible refine rd_eq rfl ?_); refine ⟨_, rfl, ?_⟩; first | refine rd_T rfl ?_ | refine rd_F (by decide) ?_)
  | dsimp only [List.nil_append, List.singleton_append, List.cons_append, setAll])
local macro_rules | `(tactic| walk_at "pc") => `(tactic| (refine rd_case ?_); (first | (refine rd_phit (SqT.of (by assumption)) rfl ?_) | (refine rd_pmiss (SqT.of (by assumption)) (by simp) ?_)); (walk_at "pm"))

def spIsChain : Sp := fun vs H Q _ => ∃ (p : Addr) (c : Ch), vs = [.ref p] ∧ ChAt H p c ∧ c.ok ∧ c.nm ≤ 4 ∧ c.ns ≤ 12 ∧ ∀ H', Fr [] H H' → Q (.bl true) H'
def spCheck : Sp := fun vs H Q _ => ∃ (p : Addr) (c : Ch), vs = [.ref p] ∧ ChAt H p c ∧ c.ok ∧ c.nm ≤ 4 ∧ c.ns ≤ 12 ∧ ∀ H', Fr [] H H' → Q .non H'
/-- a statement that is not come to -/
theorem ps_dead {X : Cx} {st : Stmt} : PS X st (fun _ _ _ => False) := ⟨fun _ _ _ _ _ _ h => h.elim⟩
abbrev PL := List (Addr × Ch)
def PL.nm (L : PL) : Nat := (L.map fun x => x.2.nm).sum
def PL.ns (L : PL) : Nat := (L.map fun x => x.2.ns).sum
def PL.vs (L : PL) : List V := L.map fun x => V.ref x.1
theorem PL.nm_app (L M : PL) : PL.nm (L ++ M) = PL.nm L + PL.nm M := by unfold PL.nm; rw [List.map_append, List.sum_append]
theorem PL.ns_app (L M : PL) : PL.ns (L ++ M) = PL.ns L + PL.ns M := by unfold PL.ns; rw [List.map_append, List.sum_append]
theorem PL.nm_one (x : Addr × Ch) : PL.nm [x] = x.2.nm := by simp [PL.nm]
theorem PL.ns_one (x : Addr × Ch) : PL.ns [x] = x.2.ns := by simp [PL.ns]
theorem PL.len_le : ∀ L : PL, L.length ≤ PL.nm L
  | [] => Nat.le_refl _
  | x :: L => by
    have h1 := PL.len_le L
    have h2 := x.2.nm_pos
    have := PL.nm_app [x] L
    rw [PL.nm_one] at this
    have e : PL.nm (x :: L) = PL.nm ([x] ++ L) := rfl
    rw [List.length_cons, e, this]
    omega
theorem PL.vs_app (L M : PL) : PL.vs (L ++ M) = PL.vs L ++ PL.vs M := List.map_append
theorem Ch.of_sgs_len (c : Ch) : c.sgs.length = c.len := by
  induction c with
  | mkr m => rfl
  | st c k ih => show (c.sgs ++ [Sg.one k]).length = c.len + 1; rw [List.length_append, ih]; rfl
  | both c o ih _ => show (c.sgs ++ [Sg.both o]).length = c.len + 1; rw [List.length_append, ih]; rfl
  | thn c o ih _ => show (c.sgs ++ [Sg.thn o]).length = c.len + 1; rw [List.length_append, ih]; rfl
section
variable {P : Program} {w : World} {K : PySem.W.Frag} {mg : Str → Option Value} {base : Heap} {J : Cls'} {f f2 : Addr} {fd fd2 : FuncData}
theorem sc_is_chain : FnScope ["chain", "maker_count", "stage_count", "waiting", "part", "stage"] ["chain"] (defScope s_is_chain) := ⟨rfl, rfl, rfl, by decide +kernel, rfl, by decide +kernel, by decide +kernel⟩
theorem ok_is_chain (T : Txt K mg) (F : FnP K "is_chain" "is_chain" s_is_chain f fd) (G_is_pair : Cal P w K mg base CX0 1 "is_pair" ["part"] spIsPair) (G_is_maker : Cal P w K mg base CX0 3 "is_maker" ["maker"] spIsMaker)
    (G_is_stage : Cal P w K mg base CX0 3 "is_stage" ["stage"] spIsStage) (G_has_chain : Cal P w K mg base CX0 1 "has_chain" ["stage"] spHasChain) : FnOk P w K mg base CX0 4 f fd ["chain"] spIsChain := by
  refine ok0 F sc_is_chain (fun vs H Q E h => ?_) (fun cdv A outer s H vs Q E hr h => ?_)
  · obtain ⟨p, c, rfl, _⟩ := h
    rfl
  · obtain ⟨p, c, rfl, hc, hok, hm, hs, k⟩ := h
    refine ⟨_, (pss_cons (ps_set (i := 1) sc_is_chain.nd rfl (Or.inl rfl) pe_int)
  (pss_cons (ps_set (i := 2) sc_is_chain.nd rfl (Or.inl rfl) pe_int)
  (pss_cons (ps_set (i := 3) sc_is_chain.nd rfl (Or.inl rfl) (pe_lst (pa_cons (pv 0) pa_nil)))
  (pss_cons (ps_while PassesOwn.never (pt_truth (pv 3) (by intro _; rfl))
    (pss_cons (ps_set (i := 4) sc_is_chain.nd rfl (Or.inl rfl) (pe_bm0 PySem.F.plainAttrs_list PySem.F.slot_list_pop PySem.F.type_list_pop mt_pop (pv 3)))
    (pss_cons (ps_if (PW.pt (pw_or (pt_not (pt_val (pe_cal G_is_pair (hr.mono (by omega)) pass0 (pa_cons (pv 4) pa_nil)))) (pw_or1 (pt_not (pt_val (pe_cal G_is_maker (hr.mono (by omega)) pass0 (pa_cons (pe_ix (ix_tupK K) (pv 4) pe_int (fun _ _ => rfl)) pa_nil)))))))
      (pss_one (ps_ret pe_bl)) pss_nil)
    (pss_cons (ps_aug (i := 1) sc_is_chain.nd rfl (Or.inl rfl) pe_int ip_add)
    (pss_cons (ps_aug (i := 2) sc_is_chain.nd rfl (Or.inl rfl) (pe_callB (call_len1K K) (by rfl) T.free_len (by decide +kernel) (pa_cons (pe_ix (ix_tupK K) (pv 4) pe_int (fun _ _ => rfl)) pa_nil)) ip_add)
    (pss_cons (ps_if (PW.pt (pw_or (pt_cmpR op_gt (pv 1) (pe_cint T.c_MAKERS_AT_MOST) (nomark _)) (pw_or1 (pt_cmpR op_gt (pv 2) (pe_cint T.c_STAGES_AT_MOST) (nomark _)))))
      (pss_one (ps_ret pe_bl)) pss_nil)
    (pss_one (ps_for PassesOwn.never rfl (pi_tup (pe_ix (ix_tupK K) (pv 4) pe_int (fun _ _ => rfl))) (pg_name (i := 5) sc_is_chain.nd rfl (Or.inl rfl))
      (pss_cons (ps_if (pt_not (pt_val (pe_cal G_is_stage (hr.mono (by omega)) pass0 (pa_cons (pv 5) pa_nil))))
        (pss_one (ps_ret pe_bl)) pss_nil)
      (pss_one (ps_if (pt_val (pe_cal G_has_chain (hr.mono (by omega)) pass0 (pa_cons (pv 5) pa_nil)))
        (pss_one (ps_expr (pe_bm PySem.F.plainAttrs_list PySem.F.slot_list_append PySem.F.type_list_append mt_append (pv 3) (pa_cons (pe_ix (ix_tupK K) (pv 5) pe_int (fun _ _ => rfl)) pa_nil)))) pss_nil)))))))))))
  (pss_one (ps_ret pe_bl)))))), ?_⟩
    try dsimp only [cxOf, Cx.nox, Cx.wish]
    refine rd_at (σ' := [some (.ref p), none, none, none, none, none]) rfl ?_
    walk_at "go"
    refine ⟨by show 1 ≤ sizeLine; decide, fun l hl => ?_⟩
    walk_at "go"
    refine ⟨fun μ σ H' => ∃ (L : PL) (mc sc : Nat) (v1 v2 : Option V), σ = [some (.ref p), some (.int mc), some (.int sc), some (.ref l), v1, v2] ∧ H' l = some (.lst L.vs) ∧ (∀ x ∈ L, ChAt H' x.1 x.2 ∧ x.2.ok) ∧ mc + L.nm = c.nm ∧ sc + L.ns = c.ns ∧ Fr [] H H' ∧ μ = L.nm,
      ⟨c.nm, [(p, c)], 0, 0, none, none, rfl, upd_same, fun x hx => by rw [List.mem_singleton] at hx; subst hx; exact ⟨hc.fr (Fr.new (S := []) hl), hok⟩, by rw [PL.nm_one]; simp, by rw [PL.ns_one]; simp, Fr.new hl, by rw [PL.nm_one]⟩, ?_⟩
    rintro μ σ H' ⟨L, mc, sc, v1, v2, rfl, el, hL, h1, h2, fr, rfl⟩
    walk_at "go"
    rcases List.eq_nil_or_concat L with rfl | ⟨L', x, e⟩
    · refine ⟨false, .inl ⟨_, SqL.of el, rfl⟩, ?_⟩
      walk_at "go"
      exact k _ fr
    · rw [List.concat_eq_append] at e
      subst e
      refine ⟨true, .inl ⟨_, SqL.of el, by rw [PL.vs_app]; simp [PL.vs]⟩, ?_⟩
      rw [PL.nm_app, PL.nm_one] at h1
      rw [PL.ns_app, PL.ns_one] at h2
      obtain ⟨⟨mk, ss, bs, ep, ess, hst⟩, xok⟩ := hL x (by simp)
      have hg := hst.get
      have hxs := Ch.ok_sgs xok
      have xm := x.2.nm_pos
      have xl := x.2.len_le
      have bl : bs.length = x.2.len := by rw [hg.1, Ch.of_sgs_len]
      dsimp only
      refine iteT ?_
      refine ⟨fun σ' H' => ∃ μ', μ' < PL.nm (L' ++ [x]) ∧ _, fun σ' H' z => z, ?_⟩
      walk_at "go"
      refine ⟨.inl ⟨rfl, _, SqL.of el⟩, l, _, .ref x.1, rfl, rfl, el, by rw [PL.vs_app]; simp [PL.vs], ?_⟩
      have el1 : upd H' l (.lst (PL.vs (L' ++ [x])).dropLast) l = some (.lst (PL.vs L')) := by rw [upd_same, PL.vs_app]; simp [PL.vs]
      have f1 : Fr [l] H' (upd H' l (.lst (PL.vs (L' ++ [x])).dropLast)) := Fr.put (by simp) (nt el)
      have fr1 := fr.putN (o := .lst (PL.vs (L' ++ [x])).dropLast) (.inr hl) (nt el)
      have hL1 : ∀ y ∈ L', ChAt (upd H' l (.lst (PL.vs (L' ++ [x])).dropLast)) y.1 y.2 ∧ y.2.ok := fun y hy => ⟨(hL y (by simp [hy])).1.fr f1, (hL y (by simp [hy])).2⟩
      replace ep := f1.tp ep
      replace ess := f1.tp ess
      replace hst := hst.fr f1
      clear hL f1 fr el
      generalize upd H' l (.lst (PL.vs (L' ++ [x])).dropLast) = H1 at *
      walk_at "go"
      refine ⟨x.1, mk, ss, bs, rfl, ep, ess, ?_⟩
      walk_at "go"
      refine ⟨mk, x.2.root, rfl, hst.root, hxs.1, fun H2 f2 => ?_⟩
      replace ep := f2.tp ep
      replace ess := f2.tp ess
      replace hg := (hst.fr f2).get
      have fr2 := fr1.tr f2
      have el2 := f2.at el1 (by simp)
      have hL2 : ∀ y ∈ L', ChAt H2 y.1 y.2 ∧ y.2.ok := fun y hy => ⟨(hL1 y hy).1.fr f2, (hL1 y hy).2⟩
      clear hst f2 fr1 el1 hL1
      walk_at "go"
      refine ⟨_, rfl, ?_⟩
      walk_at "go"
      refine ⟨_, _, rfl, rfl, ?_⟩
      have e1 : (mc : Int) + 1 = ((mc + 1 : Nat) : Int) := by omega
      dsimp only
      rw [e1]
      refine ⟨_, rfl, ?_⟩
      walk_at "go"
      refine ⟨_, _, rfl, rfl, ?_⟩
      have e2 : (sc : Int) + ((bs.map V.ref).length : Nat) = ((sc + x.2.len : Nat) : Int) := by rw [List.length_map, bl]; omega
      dsimp only
      rw [e2]
      refine rd_at (σ' := [some (.ref p), some (.int ((mc + 1 : Nat) : Int)), some (.int ((sc + x.2.len : Nat) : Int)), some (.ref l), some (.ref x.1), v2]) rfl ?_
      walk_at "go"
      refine rd_F (by omega) ?_
      walk_at "go"
      refine rd_F (by omega) ?_
      walk_at "go"
      walk_at "fo"
      walk_at "go"
      have len12 : ∀ {M : PL} {i : Nat}, PL.nm M + 1 = (Ch.of x.2.root (x.2.sgs.take i)).nm → (PL.vs (L' ++ M)).length < sizeLine := fun {M i} h => by
        have q1 := Ch.of_take_nm x.2 i
        have q2 := PL.len_le (L' ++ M)
        rw [PL.nm_app] at q2
        have q3 : (PL.vs (L' ++ M)).length = (L' ++ M).length := List.length_map _
        rw [q3]
        exact Nat.lt_of_le_of_lt (show (L' ++ M).length ≤ 4 by omega) (by decide)
      refine ⟨ss, rfl, ⟨_, SqT.of ess⟩, for_tup (K := K) (a := ss) (xs := bs.map V.ref) (fun i σ H' => ∃ (M : PL) (v : Option V), σ = [some (.ref p), some (.int ((mc + 1 : Nat) : Int)), some (.int ((sc + x.2.len : Nat) : Int)), some (.ref l), some (.ref x.1), v] ∧
        H' l = some (.lst (PL.vs (L' ++ M))) ∧ (∀ y ∈ M, ChAt H2 y.1 y.2 ∧ y.2.ok) ∧ PL.nm M + 1 = (Ch.of x.2.root (x.2.sgs.take i)).nm ∧ PL.ns M + i = (Ch.of x.2.root (x.2.sgs.take i)).ns ∧ Fr [l] H2 H')
        ⟨[], v2, rfl, by rw [List.append_nil]; exact el2, fun y hy => (by cases hy), rfl, rfl, Fr.refl _ _⟩ (fun i σ H' _ ⟨_, _, _, _, _, _, _, fr⟩ => SqT.of (fr.tp ess)) ?_ ?_⟩
      · rintro i y σ H3 hi ⟨M, v, rfl, el3, hM, m1, m2, f3⟩
        obtain ⟨sx, hsx, rfl⟩ : ∃ sx, bs[i]? = some sx ∧ y = .ref sx := by
          rw [List.getElem?_map] at hi
          cases e : bs[i]? with
          | none => rw [e] at hi; cases hi
          | some z => rw [e] at hi; exact ⟨z, rfl, (Option.some.inj hi).symm⟩
        obtain ⟨g, hgi, gat⟩ := hg.2 i sx hsx
        have gok := hxs.2 g (List.mem_of_getElem? hgi)
        have nn := Ch.of_take x.2.root hgi
        walk_at "go"
        refine ⟨sx, g, rfl, gat.fr f3, gok, ?_⟩
        walk_at "go"
        refine ⟨sx, g, rfl, gat.fr f3, fun H4 f4 => ?_⟩
        walk_at "go"
        have f24 := f3.trans f4 (fun b hb => by cases hb)
        have el4 := f4.at el3 (by simp)
        refine rd_b (fun cg => ?_) (fun cg => ?_)
        · obtain ⟨o, q, eq, ho, hok2, gnm, gns⟩ : ∃ (o : Ch) (q : Addr), (∃ nm : Str, H4 sx = some (.tup [.str nm, .ref q])) ∧ ChAt H2 q o ∧ o.ok ∧ g.nm = o.nm ∧ g.ns = o.ns := by
            cases g with
            | one k => cases cg
            | both o => obtain ⟨q, e1, e2⟩ := gat; exact ⟨o, q, ⟨_, f24.tp e1⟩, e2, gok, rfl, rfl⟩
            | thn o => obtain ⟨q, e1, e2⟩ := gat; exact ⟨o, q, ⟨_, f24.tp e1⟩, e2, gok, rfl, rfl⟩
          obtain ⟨nm, eq⟩ := eq
          walk_at "go"
          refine ⟨tyl el4, ?_⟩
          walk_at "go"
          refine rd_append el4 (len12 m1) ?_
          walk_at "go"
          refine ⟨M ++ [(q, o)], _, rfl, ?_, fun y hy => ?_, ?_, ?_, f24.putN (.inl (by simp)) (nt el4)⟩
          · rw [upd_same, ← List.append_assoc, PL.vs_app (L' ++ M)]
            rfl
          · rcases List.mem_append.mp hy with z | z
            · exact hM y z
            · rw [List.mem_singleton] at z
              subst z
              exact ⟨ho, hok2⟩
          · rw [nn, Ch.snoc_nm, PL.nm_app, PL.nm_one, gnm, ← m1]; show _ + o.nm + 1 = _; omega
          · rw [nn, Ch.snoc_ns, PL.ns_app, PL.ns_one, gns, ← m2]; show _ + o.ns + (i + 1) = _; omega
        · obtain ⟨gnm, gns⟩ : g.nm = 0 ∧ g.ns = 0 := by
            cases g with
            | one k => exact ⟨rfl, rfl⟩
            | both o => cases cg
            | thn o => cases cg
          walk_at "go"
          refine ⟨M, _, rfl, el4, hM, ?_, ?_, f24⟩
          · rw [nn, Ch.snoc_nm, gnm, ← m1]
          · rw [nn, Ch.snoc_ns, gns, ← m2]; omega
      · rintro σ H3 ⟨M, v, rfl, el3, hM, m1, m2, f3⟩
        rw [List.length_map, hg.1, List.take_length, Ch.of_sgs] at m1 m2
        rw [Ch.of_sgs_len] at m2
        refine ⟨PL.nm (L' ++ M), ?_, L' ++ M, mc + 1, sc + x.2.len, _, _, rfl, el3, fun y hy => ?_, ?_, ?_, ?_, rfl⟩
        · rw [PL.nm_app, PL.nm_app, PL.nm_one]; omega
        · rcases List.mem_append.mp hy with z | z
          · exact ⟨(hL2 y z).1.fr f3, (hL2 y z).2⟩
          · exact ⟨(hM y z).1.fr f3, (hM y z).2⟩
        · rw [PL.nm_app]; omega
        · rw [PL.ns_app]; omega
        · exact fr2.trans f3 fun b hb => by rw [List.mem_singleton] at hb; rw [hb]; exact .inr hl
theorem sc_check_chain : FnScope ["chain"] ["chain"] (defScope s_check_chain) := ⟨rfl, rfl, rfl, by decide +kernel, rfl, by decide +kernel, by decide +kernel⟩
theorem ok_check_chain (T : Txt K mg) (F : FnP K "check_chain" "check_chain" s_check_chain f fd) (G_is_chain : Cal P w K mg base CX0 4 "is_chain" ["chain"] spIsChain) : FnOk P w K mg base CX0 5 f fd ["chain"] spCheck := by
  refine ok0 F sc_check_chain (fun vs H Q E h => ?_) (fun cdv A outer s H vs Q E hr h => ?_)
  · obtain ⟨p, c, rfl, _⟩ := h
    rfl
  · obtain ⟨p, c, rfl, hc, hok, hm, hs, k⟩ := h
    refine ⟨_, (pss_one (ps_if (pt_not (pt_val (pe_cal G_is_chain (hr.mono (by omega)) pass0 (pa_cons (pv 0) pa_nil))))
    (pss_one ps_dead) pss_nil)), ?_⟩
    try dsimp only [cxOf, Cx.nox, Cx.wish]
    refine rd_at (σ' := [some (.ref p)]) rfl ?_
    walk_at "go"
    refine ⟨p, c, rfl, hc, hok, hm, hs, fun H' f' => ?_⟩
    walk_at "go"
    exact k H' f'
end
end Dc

set_option Elab.async false
set_option linter.all false
set_option maxRecDepth 100000
set_option maxHeartbeats 2000000
namespace Dc
open PySem PySem.Spec PyProof.Rows L2
local macro_rules | `(tactic| walk_at "ne") => `(tactic| first | assumption | (refine Ne.symm ?_; assumption) | exact ne_of (by assumption) (by assumption) (by intro q; cases q) | exact ne_of_none (by assumption) (by assumption) | exact Ne.symm (ne_of_none (by assumption) (by assumption)))
local macro_rules | `(tactic| walk_at "hp") => `(tactic| first | assumption | exact upd_same | (refine upd_keep ?_ (by assumption); walk_at "hp") | (refine upd_other ?_ ?_; · walk_at "ne"; · walk_at "hp"))
local macro_rules | `(tactic| walk_at "hl") => `(tactic| first | assumption | exact SqL.of (by walk_at "hp"))
local macro_rules | `(tactic| walk_at "ht") => `(tactic| first | assumption | exact SqT.of (by walk_at "hp"))
local macro_rules | `(tactic| walk_at "rd1") => `(tactic| first
  | ((with_reducible apply rd_var); exact rfl)
  | ((with_reducible apply rd_eq); exact rfl) | ((with_reducible apply rd_ne); exact rfl)
  | with_reducible first
  | refine iteT ?_ | refine iteF ?_ | refine rd_nF ?_ | refine rd_nT ?_ | refine rd_yes ?_ | refine rd_c ?_ | refine rd_op ?_ | refine rd_un ?_ | refine rd_test ?_ | refine rd_B ?_ | refine rd_bl ?_ | refine rd_seq ?_ | refine rd_next ?_ | refine rd_ifs ?_ | refine rd_asg ?_ | refine rd_name ?_ | refine rd_ret ?_ | refine rd_drop ?_
  | refine rd_call ?_ | refine rd_cons ?_ | refine rd_nil ?_ | refine rd_cb ?_ | refine rd_I0 ?_ | refine rd_U ?_ | refine rd_gsub ?_ | refine rd_lst ?_ | refine rd_tup ?_ | refine rd_if ?_ | refine rd_not ?_ | refine rd_rng1 ?_ | refine rd_itup ?_ | refine rd_ilst ?_ | refine rd_bm ?_ | refine rd_bm0 ?_ | refine rd_andV ?_ | refine rd_orV ?_ | refine rd_notV ?_)
local macro_rules | `(tactic| walk_at "rd") => `(tactic| repeat walk_at "rd1")
local macro_rules | `(tactic| walk_at "ci") => `(tactic| first | assumption | (show (0 : Int) < _; first | decide | omega) | exact ⟨by decide, by decide⟩ | exact Or.inr ⟨by decide, by decide⟩ | exact Or.inl ⟨by decide, by decide⟩ | exact ⟨by decide, by decide, by decide⟩ | exact Or.inl ⟨by omega, by omega⟩ | exact Or.inr ⟨by omega, by omega⟩)
local macro_rules | `(tactic| walk_at "ix") => `(tactic| first
  | ((with_reducible apply rd_ixL); (walk_at "hl"); exact rfl)
  | ((with_reducible apply rd_ixT); (walk_at "ht"); exact rfl)
  | ((with_reducible apply rd_lenL); (walk_at "hl"))
  | ((with_reducible apply rd_lenT); (walk_at "ht"))
  | ((with_reducible apply rd_tupOf); (walk_at "hl"))
  | ((with_reducible apply rd_listOf); (walk_at "hl"))
  | (with_reducible refine rd_min2 ?_)
  | ((with_reducible apply rd_I); (walk_at "ci"))
  | ((with_reducible apply rd_setL); (walk_at "hp"); exact rfl))
local macro_rules | `(tactic| walk_at "gs") => `(tactic| repeat first | walk_at "rd1" | walk_at "ix")
local macro_rules | `(tactic| walk_at "go") => `(tactic| repeat first | walk_at "rd1" | walk_at "ix" | with_reducible refine rd_and ?_ | with_reducible refine rd_or ?_)
local macro_rules | `(tactic| walk_at "fo") => `(tactic| (with_reducible refine rd_for ?_))
local macro_rules | `(tactic| walk_at "pm") => `(tactic| repeat first
  | with_reducible first | refine rd_pcons ?_ | refine rd_pstr ?_ | refine rd_pcap ?_ | refine rd_pwild ?_ | refine rd_pnil ?_ | refine rd_por ?_ | refine rd_pno ?_
  | ((with_reducible refine rd_eq rfl ?_); refine ⟨_, rfl, ?_⟩; first | refine rd_T rfl ?_ | refine rd_F (by decide) ?_)
  | dsimp only [List.nil_append, List.singleton_append, List.cons_append, setAll])
local macro_rules | `(tactic| walk_at "pc") => `(tactic| (refine rd_case ?_); (first | (refine rd_phit (SqT.of (by assumption)) rfl ?_) | (refine rd_pmiss (SqT.of (by assumption)) (by simp) ?_)); (walk_at "pm"))

/-! ### a call of one of several classes' method whose exceptions are caught here -/
def tDynS (Cs : Addr → Prop) (m : Str) (sp : Addr → Sp) (E : L2.St → XK) (ta : TE) : TE := fun σ H Q => ta σ H fun x H1 => ∃ a C dx fs, x = .ref a ∧ Cs C ∧ H1 a = some (.ins C dx fs) ∧ fs.lookup m = none ∧ sp C [.ref a] H1 Q (E σ)
theorem rd_dynS {σ : L2.St} {H : Hp} {Q : VK} {m : Str} {ta : TE} {E : L2.St → XK} {Cs : Addr → Prop} {sp : Addr → Sp} (h : ta σ H fun x H1 => ∃ a C dx fs, x = .ref a ∧ Cs C ∧ H1 a = some (.ins C dx fs) ∧ fs.lookup m = none ∧ sp C [.ref a] H1 Q (E σ)) : tDynS Cs m sp E ta σ H Q := h
theorem pe_dyn0S {X : Cx} {CX : CXT} {k : Nat} {m : Str} {ps : List Str} {E : L2.St → XK} {o : Expr} {ta : TE} {pos apos : Pos} {Cs : Addr → Prop} {sp : Addr → Sp} {pl : Sem Bool} (he : PE X o ta) (G : ∀ C, Cs C → CalM X.prog X.w X.K X.mg X.base CX k C m ps (sp C)) (hr : Room k X.A) (hx : ∀ σ, PassesAt CX X σ (E σ))
    (ht : eval (.Call (.Attribute o m apos) [] [] pos) X.env = (do
      let ov ← eval o X.env
      standAt apos.atName
      let (f, first) ← holding [ov] (getMethod ov m pl)
      callWith pos f first (backTo pos (starEach [] X.env)) (backToKw pos (keywordEach [] X.env))) := by rfl) :
    PE X (.Call (.Attribute o m apos) [] [] pos) (tDynS Cs m sp E ta) := by
  refine ⟨fun pins s σ H Q I h => ?_⟩
  refine PySem.W.methodCall_KW (pl := pl) (thn (he.run pins s σ H _ I h) fun u s1 ⟨x, H1, I1, rx, a, C, dx, fs, ex, hC, ea, l, q⟩ => ?_) ht
  subst ex
  obtain rfl : u = Value.ref a := rx
  obtain ⟨f, fd, F, b, hm, c⟩ := G C hC
  refine getmeth_ok I1 ea c hm l ?_
  exact PySem.W.callWith_K0 (first := [.ref a]) I1.kIn hm.kp (run_fnS (us := [.ref a]) (vs := [.ref a]) F hr b (hx σ) I1 (.cons rfl .nil) q)
/-! ### the drawer -/
structure DrF (K : PySem.W.Frag) (J : Cls') : Prop where
  c : Cls K J.drawer
  meter : NoAttr K J.drawer "_meter"
  last : NoAttr K J.drawer "_last"
  back : NoAttr K J.drawer "_back"
  stopped : NoAttr K J.drawer "_stopped"
structure DrS where
  me : Addr
  cs : Addr
  lo : Addr
  da : Addr
  bk : Addr
  t : Tr
def DrS.ads (D : DrS) : List Addr := (D.t.ads ++ [D.me, D.cs, D.lo]) ++ [D.da, D.bk]
/-- what of it may change: a drawer that has stopped needs its tree no more -/
def DrS.lads (D : DrS) (s : Bool) : List Addr := (if s = true then [D.me, D.cs, D.lo] else D.t.ads ++ [D.me, D.cs, D.lo]) ++ [D.da, D.bk]
structure DrAt (J : Cls') (H : Hp) (D : DrS) (x : Nd) (m : Mt) (st : Bool) (bs : List Int) : Prop where
  ob : ∃ dx, H D.da = some (.ins J.drawer dx [("_meter", .ref D.me), ("_last", .ref D.t.ad), ("_back", .ref D.bk), ("_stopped", .bl st)])
  bk : H D.bk = some (.lst (bs.map .int))
  mt : MetAt J H D.me D.cs D.lo m x.gv
  nd : st = false → NdAt J H D.me 0 x D.t
  sep : Sep D.me D.cs D.lo D.t
  n1 : D.da ∉ D.t.ads ++ [D.me, D.cs, D.lo]
  n2 : D.bk ∉ D.t.ads ++ [D.me, D.cs, D.lo]
def Rs.isLong : Rs → Bool
  | .long => true
  | _ => false
def Rs.vals : Rs → List V
  | .num n => [.str "number", .int n]
  | .fin => [.str "end"]
  | .long => [.str "long"]
def NextR (x : Nd) (m : Mt) (st : Bool) (bs : List Int) (r : Rs) (x' : Nd) (m' : Mt) (st' : Bool) (bs' : List Int) : Prop :=
  (∃ b v, bs = b ++ [v] ∧ r = .num v ∧ x' = x ∧ m' = m ∧ st' = st ∧ bs' = b) ∨ (bs = [] ∧ st = true ∧ r = .long ∧ x' = x ∧ m' = m ∧ st' = true ∧ bs' = []) ∨
  (bs = [] ∧ st = false ∧ (∃ f, draw f x { m with book := 0 } = some (r, x', m')) ∧ st' = r.isLong ∧ bs' = [])
def spNext (J : Cls') (d : Nat) : Sp := fun vs H Q _ => ∃ (D : DrS) (x : Nd) (m : Mt) (st : Bool) (bs : List Int) (r : Rs) (x' : Nd) (m' : Mt) (st' : Bool) (bs' : List Int), vs = [.ref D.da] ∧ DrAt J H D x m st bs ∧ x.inv ∧ x.dep ≤ d ∧ m.lost.length + x.alive ≤ 1000 ∧
  NextR x m st bs r x' m' st' bs' ∧ ∀ H' q, H' q = some (.tup r.vals) → DrAt J H' D x' m' st' bs' → Fr (D.lads st) H H' → Q (.ref q) H'
section
variable {P : Program} {w : World} {K : PySem.W.Frag} {mg : Str → Option Value} {base : Heap} {J : Cls'} {f f2 : Addr} {fd fd2 : FuncData}
theorem DrAt.fresh {H : Hp} {D : DrS} {x : Nd} {m : Mt} {st : Bool} {bs : List Int} {p : Addr} {o : HO} (h : DrAt J H D x m st bs) (n : H p = none) : DrAt J (upd H p o) D x m st bs := by
  obtain ⟨⟨dx, e⟩, h1, h2, h3, h4, h5, h6⟩ := h
  exact ⟨⟨dx, upd_keep e n⟩, upd_keep h1 n, h2.fresh n, fun z => (h3 z).fr (Fr.new (S := []) n) (fun b hb q => by cases q), h4, h5, h6⟩
theorem DrAt.back {H : Hp} {D : DrS} {x : Nd} {m : Mt} {st : Bool} {bs bs' : List Int} (h : DrAt J H D x m st bs) : DrAt J (upd H D.bk (.lst (bs'.map .int))) D x m st bs' := by
  obtain ⟨⟨dx, e⟩, h1, h2, h3, h4, h5, h6⟩ := h
  have n1 := h6
  simp only [List.mem_append, List.mem_cons, List.not_mem_nil, or_false, not_or] at n1
  exact ⟨⟨dx, upd_other (ne_of e h1 (by intro q; cases q)) e⟩, upd_same, h2.put ⟨n1.2.1, n1.2.2.1, n1.2.2.2⟩, fun z => (h3 z).fr (Fr.put (S := [D.bk]) (by simp) (nt h1)) (fun b hb q => by rw [List.mem_singleton] at q; rw [q] at hb; exact n1.1 hb), h4, h5, h6⟩
theorem sc_Drawer_next : FnScope ["self", "number"] ["self"] (defScope s_Drawer_next) := ⟨rfl, rfl, rfl, by decide +kernel, rfl, by decide +kernel, by decide +kernel⟩
theorem ok_Drawer_next {d : Nat} (T : Txt K mg) (Z : DrF K J) (L : LongF K mg J) (hx : PySem.W.exmOne K (.ref J.long) (.ref J.long) = some true) (F : FnP K "next" "Drawer.next" s_Drawer_next f fd)
    (G_begin : CalM P w K mg base CX0 1 J.meter "begin_next" ["self"] (spBegin J))
    (G_draw : ∀ C, DrawC J C → CalM P w K mg base (L2.CX P w) (2 * d + 2) C "draw" ["self"] (spDraw J d C)) :
    FnOk P w K mg base CX0 (2 * d + 3) f fd ["self"] (spNext J d) := by
  refine ok0 F sc_Drawer_next (fun vs H Q E h => ?_) (fun cdv A outer s H vs Q E hr h => ?_)
  · obtain ⟨D, x, m, st, bs, r, x', m', st', bs', rfl, _⟩ := h
    rfl
  · obtain ⟨D, x, m, st, bs, r, x', m', st', bs', rfl, G, hinv, hdep, hal, hN, k⟩ := h
    obtain ⟨dx, e⟩ := G.ob
    have eb := G.bk
    refine ⟨_, (pss_cons (ps_if (pt_truth (pe_fld (pv 0) rfl) (by intro _; rfl))
    (pss_one (ps_ret (pe_tup (pa_cons pe_str (pa_cons (pe_bm0 PySem.F.plainAttrs_list PySem.F.slot_list_pop PySem.F.type_list_pop mt_pop (pe_fld (pv 0) rfl)) pa_nil))))) pss_nil)
  (pss_cons (ps_if (pt_val (pe_fld (pv 0) rfl))
    (pss_one (ps_ret (pe_tup (pa_cons pe_str pa_nil)))) pss_nil)
  (pss_cons (ps_expr (pe_cm0 (pe_fld (pv 0) rfl) G_begin (hr.mono (by omega)) pass0))
  (pss_cons (ps_try_only (tb := fun W => tAsg (tDynS (DrawC J) "draw" (spDraw J d) (WE W) (tFld K (tVar 0) "_last")) (gName 1)) (ts := fun _ _ _ => tSeq (sFld K (tVar 0) (tC (.bl true)) "_stopped") (tRet (tTup (tCons (tC (.str "long")) tNil)))) (Wout := fun _ _ _ _ => False) rfl rfl ⟨rfl, by decide, Or.inl L.g⟩ takes0 (fun W pn xe tk _ => pss_one (ps_set (i := 1) sc_Drawer_next.nd rfl (Or.inl rfl) (pe_dyn0S (pe_fld (pv 0) rfl) G_draw (hr.mono (by omega)) (fun σ => passAt tk σ)))) (fun _ _ _ _ _ _ _ => pss_cons (ps_fld (pv 0) pe_bl rfl) (pss_one (ps_ret (pe_tup (pa_cons pe_str pa_nil))))))
  (pss_cons (ps_if (pt_cmpR op_isN (pv 1) pe_non (nomark _))
    (pss_one (ps_ret (pe_tup (pa_cons pe_str pa_nil)))) pss_nil)
  (pss_one (ps_ret (pe_tup (pa_cons pe_str (pa_cons (pv 1) pa_nil)))))))))), ?_⟩
    try dsimp only [cxOf, Cx.nox, Cx.wish]
    refine rd_at (σ' := [some (.ref D.da), none]) rfl ?_
    walk_at "go"
    refine rd_sf rfl e Z.c Z.back rfl ?_
    have nme : ∀ b, b ∈ D.t.ads → b ∉ [D.me] := fun b hb z => by
      rw [List.mem_singleton] at z
      exact G.sep.hme (z ▸ hb)
    have dm : D.da ∉ [D.me] := fun z => G.n1 (List.mem_append_right _ (by rw [List.mem_singleton] at z; simp [z]))
    have bm : D.bk ∉ [D.me] := fun z => G.n2 (List.mem_append_right _ (by rw [List.mem_singleton] at z; simp [z]))
    rcases hN with ⟨b, v, rfl, rfl, rfl, rfl, rfl, rfl⟩ | ⟨rfl, rfl, rfl, rfl, rfl, rfl, rfl⟩ | ⟨rfl, rfl, ⟨f, hd⟩, rfl, rfl⟩
    · refine ⟨true, .inl ⟨_, SqL.of eb, by simp⟩, ?_⟩
      walk_at "go"
      refine rd_sf rfl e Z.c Z.back rfl ?_
      refine ⟨tyl eb, D.bk, _, .int v, rfl, rfl, eb, by simp, ?_⟩
      walk_at "go"
      refine ⟨by show 2 ≤ sizeLine; decide, fun q hq => ?_⟩
      have G1 := G.back (bs' := bs')
      have e1 : ((bs' ++ [v]).map V.int).dropLast = bs'.map V.int := by simp
      rw [e1] at hq ⊢
      exact k _ q upd_same (G1.fresh hq) ((Fr.put (by simp [DrS.lads]) (nt eb)).newN hq)
    · refine ⟨false, .inl ⟨_, SqL.of eb, rfl⟩, ?_⟩
      walk_at "go"
      refine rd_sf rfl e Z.c Z.stopped rfl ?_
      walk_at "go"
      refine ⟨by show 1 ≤ sizeLine; decide, fun q hq => ?_⟩
      exact k _ q upd_same (G.fresh hq) (Fr.new hq)
    · refine ⟨false, .inl ⟨_, SqL.of eb, rfl⟩, ?_⟩
      walk_at "go"
      refine rd_sf rfl e Z.c Z.stopped rfl ?_
      walk_at "go"
      refine rd_meth ?_
      refine rd_sf rfl e Z.c Z.meter rfl ?_
      obtain ⟨⟨dm0, em⟩, _, _⟩ := id G.mt
      refine rd_m em rfl ?_
      walk_at "go"
      refine ⟨D.me, D.cs, D.lo, m, x.gv, rfl, G.mt, G.sep.n1, G.sep.n2, G.sep.n3, fun H1 M1 f1 => ?_⟩
      have e1 := f1.at e dm
      have eb1 := f1.at eb bm
      have nd1 := (G.nd rfl).fr f1 nme
      walk_at "go"
      refine rd_dynS ?_
      refine rd_sf rfl e1 Z.c Z.last rfl ?_
      obtain ⟨dc, fc, ec, lc⟩ := nd1.obj
      refine rd_d (x.cls_draw J) ec lc ?_
      have fall : ∀ {H'}, Fr (D.t.ads ++ [D.me, D.cs, D.lo]) H1 H' → Fr (D.lads false) H H' := fun {H'} f' => (f1.mono fun b hb => by show b ∈ D.ads; rw [List.mem_singleton] at hb; simp [DrS.ads, hb]).tr (f'.mono fun b hb => by show b ∈ D.ads; exact List.mem_append_left _ hb)
      refine ⟨D.me, D.cs, D.lo, [], [], D.t, x, { m with book := 0 }, f, r, x', m', rfl, rfl, hd, ⟨G.sep, nd1, by simpa using M1, hinv, hdep, Nat.zero_le _, hal, fun n hn H' nd' mt' f' => ?_, fun hn H' nd' mt' f' => ?_, fun hn H' mt' f' => ?_⟩⟩
      · subst hn
        walk_at "go"
        refine ⟨rfl, ?_⟩
        walk_at "go"
        refine rd_F (fun z => by cases z) ?_
        walk_at "go"
        refine ⟨by show 2 ≤ sizeLine; decide, fun q hq => ?_⟩
        have G2 : DrAt J H' D x' m' false [] := ⟨⟨dx, f'.at e1 G.n1⟩, f'.at eb1 G.n2, by simpa using mt', fun _ => nd', G.sep, G.n1, G.n2⟩
        exact k _ q upd_same (G2.fresh hq) ((fall f').newN hq)
      · subst hn
        walk_at "go"
        refine ⟨rfl, ?_⟩
        walk_at "go"
        refine rd_T rfl ?_
        walk_at "go"
        refine ⟨by show 1 ≤ sizeLine; decide, fun q hq => ?_⟩
        have G2 : DrAt J H' D x' m' false [] := ⟨⟨dx, f'.at e1 G.n1⟩, f'.at eb1 G.n2, by simpa using mt', fun _ => nd', G.sep, G.n1, G.n2⟩
        exact k _ q upd_same (G2.fresh hq) ((fall f').newN hq)
      · subst hn
        refine ⟨true, hx, fun _ a ha => ?_, fun z => by cases z⟩
        have e2 := f'.at e1 G.n1
        have eb2 := f'.at eb1 G.n2
        walk_at "go"
        refine rd_fset ?_
        walk_at "go"
        refine rd_st e2 Z.c Z.stopped (by show 4 < 1000; omega) ?_
        walk_at "go"
        refine ⟨by show 1 ≤ sizeLine; decide, fun q hq => ?_⟩
        have nb : D.bk ≠ D.da := ne_of eb2 e2 (by intro q; cases q)
        have n1 := G.n1
        simp only [List.mem_append, List.mem_cons, List.not_mem_nil, or_false, not_or] at n1
        have G2 : DrAt J (upd H' D.da (.ins J.drawer dx (putF "_stopped" (.bl true) [("_meter", .ref D.me), ("_last", .ref D.t.ad), ("_back", .ref D.bk), ("_stopped", .bl false)]))) D x' m' true [] :=
          ⟨⟨dx, upd_same.trans rfl⟩, upd_other nb eb2, (by simpa using mt' : MetAt J H' D.me D.cs D.lo m' x'.gv).put ⟨n1.2.1, n1.2.2.1, n1.2.2.2⟩, fun z => (by cases z), G.sep, G.n1, G.n2⟩
        exact k _ q upd_same (G2.fresh hq) (((fall f').putN (.inl (by show D.da ∈ D.ads; simp [DrS.ads])) (nt e2)).newN hq)
end
end Dc

set_option Elab.async false
set_option linter.all false
set_option maxRecDepth 100000
set_option maxHeartbeats 2000000
namespace Dc
open PySem PySem.Spec PyProof.Rows L2
local macro_rules | `(tactic| walk_at "ne") => `(tactic| first | assumption | (refine Ne.symm ?_; assumption) | exact ne_of (by assumption) (by assumption) (by intro q; cases q) | exact ne_of_none (by assumption) (by assumption) | exact Ne.symm (ne_of_none (by assumption) (by assumption)))
local macro_rules | `(tactic| walk_at "hp") => `(tactic| first | assumption | exact upd_same | (refine upd_keep ?_ (by assumption); walk_at "hp") | (refine upd_other ?_ ?_; · walk_at "ne"; · walk_at "hp"))
local macro_rules | `(tactic| walk_at "hl") => `(tactic| first | assumption | exact SqL.of (by walk_at "hp"))
local macro_rules | `(tactic| walk_at "ht") => `(tactic| first | assumption | exact SqT.of (by walk_at "hp"))
local macro_rules | `(tactic| walk_at "rd1") => `(tactic| first
  | ((with_reducible apply rd_var); exact rfl)
  | ((with_reducible apply rd_eq); exact rfl) | ((with_reducible apply rd_ne); exact rfl)
  | with_reducible first
  | refine iteT ?_ | refine iteF ?_ | refine rd_nF ?_ | refine rd_nT ?_ | refine rd_yes ?_ | refine rd_c ?_ | refine rd_op ?_ | refine rd_un ?_ | refine rd_test ?_ | refine rd_B ?_ | refine rd_bl ?_ | refine rd_seq ?_ | refine rd_next ?_ | refine rd_ifs ?_ | refine rd_asg ?_ | refine rd_name ?_ | refine rd_ret ?_ | refine rd_drop ?_
  | refine rd_call ?_ | refine rd_cons ?_ | refine rd_nil ?_ | refine rd_cb ?_ | refine rd_I0 ?_ | refine rd_U ?_ | refine rd_gsub ?_ | refine rd_lst ?_ | refine rd_tup ?_ | refine rd_if ?_ | refine rd_not ?_ | refine rd_rng1 ?_ | refine rd_itup ?_ | refine rd_ilst ?_ | refine rd_bm ?_ | refine rd_bm0 ?_ | refine rd_andV ?_ | refine rd_orV ?_ | refine rd_notV ?_)
local macro_rules | `(tactic| walk_at "rd") => `(tactic| repeat walk_at "rd1")
local macro_rules | `(tactic| walk_at "ci") => `(tactic| first | assumption | (show (0 : Int) < _; first | decide | omega) | exact ⟨by decide, by decide⟩ | exact Or.inr ⟨by decide, by decide⟩ | exact Or.inl ⟨by decide, by decide⟩ | exact ⟨by decide, by decide, by decide⟩ | exact Or.inl ⟨by omega, by omega⟩ | exact Or.inr ⟨by omega, by omega⟩)
local macro_rules | `(tactic| walk_at "ix") => `(tactic| first
  | ((with_reducible apply rd_ixL); (walk_at "hl"); exact rfl)
  | ((with_reducible apply rd_ixT); (walk_at "ht"); exact rfl)
  | ((with_reducible apply rd_lenL); (walk_at "hl"))
  | ((with_reducible apply rd_lenT); (walk_at "ht"))
  | ((with_reducible apply rd_tupOf); (walk_at "hl"))
  | ((with_reducible apply rd_listOf); (walk_at "hl"))
  | (with_reducible refine rd_min2 ?_)
  | ((with_reducible apply rd_I); (walk_at "ci"))
  | ((with_reducible apply rd_setL); (walk_at "hp"); exact rfl))
local macro_rules | `(tactic| walk_at "gs") => `(tactic| repeat first | walk_at "rd1" | walk_at "ix")
local macro_rules | `(tactic| walk_at "go") => `(tactic| repeat first | walk_at "rd1" | walk_at "ix" | with_reducible refine rd_and ?_ | with_reducible refine rd_or ?_)
local macro_rules | `(tactic| walk_at "fo") => `(tactic| (with_reducible refine rd_for ?_))
local macro_rules | `(tactic| walk_at "pm") => `(tactic| repeat first
  | with_reducible first | refine rd_pcons ?_ | refine rd_pstr ?_ | refine rd_pcap ?_ | refine rd_pwild ?_ | refine rd_pnil ?_ | refine rd_por ?_ | refine rd_pno ?_
  | ((with_reducible refine rd_eq rfl ?_); refine ⟨_, rfl, ?_⟩; first | refine rd_T rfl ?_ | refine rd_F (by decide) ?_)
  | dsimp only [List.nil_append, List.singleton_append, List.cons_append, setAll])
local macro_rules | `(tactic| walk_at "pc") => `(tactic| (refine rd_case ?_); (first | (refine rd_phit (SqT.of (by assumption)) rfl ?_) | (refine rd_pmiss (SqT.of (by assumption)) (by simp) ?_)); (walk_at "pm"))

def spDInit (J : Cls') : Sp := fun vs H Q _ => ∃ (x dx p : Addr) (c : Ch), vs = [.ref x, .ref p] ∧ H x = some (.ins J.drawer dx []) ∧ ChAt H p c ∧ c.ok ∧ c.nm ≤ 4 ∧ c.ns ≤ 12 ∧
  ∀ H' D, D.da = x → DrAt J H' D c.nd ⟨200, []⟩ false [] → (∀ b, b ∈ D.ads → b = x ∨ H b = none) → Fr [x] H H' → Q .non H'
def spDrawnP (J : Cls') : Sp := fun vs H Q _ => ∃ (D : DrS) (x : Nd) (m : Mt) (st : Bool) (bs : List Int), vs = [.ref D.da] ∧ DrAt J H D x m st bs ∧
  ∀ H' q, H' q = some (.lst (x.gv.map V.int)) → H q = none → DrAt J H' D x m st bs → Fr [] H H' → Q (.ref q) H'
def spUndoneP (J : Cls') : Sp := fun vs H Q _ => ∃ (D : DrS) (x : Nd) (m : Mt) (st : Bool) (bs : List Int), vs = [.ref D.da] ∧ DrAt J H D x m st bs ∧
  ∀ H' q, H' q = some (.lst (m.lost.map V.int)) → H q = none → DrAt J H' D x m st bs → Fr [] H H' → Q (.ref q) H'
def spPut (J : Cls') : Sp := fun vs H Q _ => ∃ (D : DrS) (x : Nd) (m : Mt) (st : Bool) (bs : List Int) (n : Int), vs = [.ref D.da, .int n] ∧ DrAt J H D x m st bs ∧ bs.length ≤ 1000000 ∧
  ∀ H', DrAt J H' D x m st (bs ++ [n]) → Fr [D.bk] H H' → Q .non H'
section
variable {P : Program} {w : World} {K : PySem.W.Frag} {mg : Str → Option Value} {base : Heap} {J : Cls'} {f f2 : Addr} {fd fd2 : FuncData}
theorem nocon {H : Hp} {b : Addr} {o : HO} (h : H b = none) (h' : H b = some o) : False := by rw [h] at h'; cases h'
theorem none_upd {H : Hp} {p b : Addr} {o : HO} (h : upd H p o b = none) : b ≠ p ∧ H b = none := by
  have n : b ≠ p := fun z => by rw [z, upd_same] at h; cases h
  rw [upd_ne n] at h
  exact ⟨n, h⟩
theorem sc_Drawer_drawn : FnScope ["self"] ["self"] (defScope s_Drawer_drawn) := ⟨rfl, rfl, rfl, by decide +kernel, rfl, by decide +kernel, by decide +kernel⟩
theorem ok_Drawer_drawn (T : Txt K mg) (Z : DrF K J) (M : MetF K J) (F : FnP K "drawn" "Drawer.drawn" s_Drawer_drawn f fd) : FnOk P w K mg base CX0 1 f fd ["self"] (spDrawnP J) := by
  refine ok0 F sc_Drawer_drawn (fun vs H Q E h => ?_) (fun cdv A outer s H vs Q E hr h => ?_)
  · obtain ⟨D, x, m, st, bs, rfl, _⟩ := h
    rfl
  · obtain ⟨D, x, m, st, bs, rfl, G, k⟩ := h
    obtain ⟨dx, e⟩ := G.ob
    obtain ⟨⟨dm, em⟩, e1, e2⟩ := id G.mt
    refine ⟨_, (pss_one (ps_ret (pe_callTy (call_listOfK K) (by rfl) T.free_list (by decide +kernel) (pa_cons (pe_fld (pe_fld (pv 0) rfl) rfl) pa_nil)))), ?_⟩
    try dsimp only [cxOf, Cx.nox, Cx.wish]
    refine rd_at (σ' := [some (.ref D.da)]) rfl ?_
    walk_at "go"
    refine rd_fld ?_
    refine rd_sf rfl e Z.c Z.meter rfl ?_
    refine ⟨D.me, J.meter, dm, _, _, rfl, em, M.c, M.counts, rfl, ?_⟩
    walk_at "go"
    intro q hq
    exact k _ q upd_same hq (G.fresh hq) (Fr.new hq)
theorem sc_Drawer___init__ : FnScope ["self", "chain"] ["self", "chain"] (defScope s_Drawer___init__) := ⟨rfl, rfl, rfl, by decide +kernel, rfl, by decide +kernel, by decide +kernel⟩
theorem ok_Drawer___init__ (T : Txt K mg) (Z : DrF K J) (F : FnP K "__init__" "Drawer.__init__" s_Drawer___init__ f fd) (G_check_chain : Cal P w K mg base CX0 5 "check_chain" ["chain"] spCheck)
    (I_Meter : CalI P w K mg base CX0 1 "Meter" J.meter ["self"] (spMInit J)) (G_chain_end : Cal P w K mg base CX0 13 "chain_end" ["chain", "meter"] (spEnd J 4)) : FnOk P w K mg base CX0 14 f fd ["self", "chain"] (spDInit J) := by
  refine ok0 F sc_Drawer___init__ (fun vs H Q E h => ?_) (fun cdv A outer s H vs Q E hr h => ?_)
  · obtain ⟨x, dx, p, c, rfl, _⟩ := h
    rfl
  · obtain ⟨x, dx, p, c, rfl, e, hc, hok, hm, hs, k⟩ := h
    refine ⟨_, (pss_cons (ps_expr (pe_cal G_check_chain (hr.mono (by omega)) pass0 (pa_cons (pv 1) pa_nil)))
  (pss_cons (ps_fld (pv 0) (pe_mk0 I_Meter (hr.mono (by omega)) pass0) rfl)
  (pss_cons (ps_fld (pv 0) (pe_cal G_chain_end (hr.mono (by omega)) pass0 (pa_cons (pv 1) (pa_cons (pe_fld (pv 0) rfl) pa_nil))) rfl)
  (pss_cons (ps_fld (pv 0) (pe_lst pa_nil) rfl)
  (pss_one (ps_fld (pv 0) pe_bl rfl)))))), ?_⟩
    try dsimp only [cxOf, Cx.nox, Cx.wish]
    refine rd_at (σ' := [some (.ref x), some (.ref p)]) rfl ?_
    walk_at "go"
    refine ⟨p, c, rfl, hc, hok, hm, hs, fun H1 f1 => ?_⟩
    have e1 := f1.at e (by simp)
    replace hc := hc.fr f1
    walk_at "go"
    refine rd_fset ?_
    refine rd_make ?_
    walk_at "go"
    intro me dm hme hdm nd
    have hme' : upd H1 dm (.own me) me = none := by rw [upd_ne nd.symm]; exact hme
    refine ⟨me, dm, rfl, upd_same, fun H2 cs lo M n1 n2 n3 hcs hlo f2 => ⟨rfl, ?_⟩⟩
    have f12 : Fr [] H1 H2 := ((Fr.new hdm).newN hme').trans f2 fun b hb => by rw [List.mem_singleton] at hb; rw [hb]; exact .inr hme
    have e2 := f12.at e1 (by simp)
    replace hc := hc.fr f12
    have nxm : x ≠ me := fun z => by rw [z, hme] at e1; cases e1
    have nxc : x ≠ cs := ne_of e2 M.2.1 (by intro q; cases q)
    have nxl : x ≠ lo := ne_of e2 M.2.2 (by intro q; cases q)
    have fH2 : Fr [] H H2 := f1.tr f12
    walk_at "go"
    refine rd_st e2 Z.c Z.meter (by show 0 < 1000; omega) ?_
    have e3 : upd H2 x (.ins J.drawer dx [("_meter", .ref me)]) x = some (.ins J.drawer dx [("_meter", .ref me)]) := upd_same
    have M3 := M.put (o := .ins J.drawer dx [("_meter", .ref me)]) ⟨nxm, nxc, nxl⟩
    have f3 : Fr [x] H2 (upd H2 x (.ins J.drawer dx [("_meter", .ref me)])) := Fr.put (by simp) (nt e2)
    dsimp only
    refine rd_fset ?_
    walk_at "go"
    refine rd_sf rfl e3 Z.c Z.meter rfl ?_
    walk_at "go"
    refine ⟨p, me, cs, lo, ⟨200, []⟩, [], c, rfl, hc.fr f3, hok, hm, M3, n1, n2, n3, by show 0 + c.nm ≤ 1000; omega, fun H4 t nt4 M4 ft dj f4 => ?_⟩
    have e4 := f4.at e3 (by simpa using nxc)
    walk_at "go"
    refine rd_st e4 Z.c Z.last (by show 1 < 1000; omega) ?_
    have e5 : upd H4 x (.ins J.drawer dx [("_meter", .ref me), ("_last", .ref t.ad)]) x = some (.ins J.drawer dx [("_meter", .ref me), ("_last", .ref t.ad)]) := upd_same
    dsimp only
    refine rd_fset ?_
    walk_at "go"
    refine ⟨Nat.zero_le _, fun bk hbk => ?_⟩
    have hbk : upd H4 x (.ins J.drawer dx [("_meter", .ref me), ("_last", .ref t.ad)]) bk = none := hbk
    walk_at "go"
    refine rd_st (upd_keep e5 hbk) Z.c Z.back (by show 2 < 1000; omega) ?_
    have nbx : x ≠ bk := ne_of_none e5 hbk
    have e6 : upd (upd (upd H4 x (.ins J.drawer dx [("_meter", .ref me), ("_last", .ref t.ad)])) bk (.lst [])) x (.ins J.drawer dx [("_meter", .ref me), ("_last", .ref t.ad), ("_back", .ref bk)]) x = some (.ins J.drawer dx [("_meter", .ref me), ("_last", .ref t.ad), ("_back", .ref bk)]) := upd_same
    dsimp only
    refine rd_fset ?_
    walk_at "go"
    refine rd_st e6 Z.c Z.stopped (by show 3 < 1000; omega) ?_
    obtain ⟨nbk, hbk4⟩ := none_upd hbk
    have xt : x ∉ t.ads := fun z => nocon (ft x z) e3
    have bt : bk ∉ t.ads := fun z => by
      obtain ⟨C, d', fs, q⟩ := nt4.ins bk z
      exact nocon hbk4 q
    obtain ⟨⟨dm3, em3⟩, ec3, el3⟩ := id M3
    have S : Sep me cs lo t := ⟨dj, fun z => nocon (ft _ z) em3, fun z => nocon (ft _ z) ec3, fun z => nocon (ft _ z) el3, n1, n2, n3⟩
    obtain ⟨⟨dm4, em4⟩, ec4, el4⟩ := id M4
    have nb : bk ≠ me ∧ bk ≠ cs ∧ bk ≠ lo := ⟨(ne_of_none em4 hbk4).symm, (ne_of_none ec4 hbk4).symm, (ne_of_none el4 hbk4).symm⟩
    have f4' : Fr [x] H4 (upd (upd (upd (upd H4 x (.ins J.drawer dx [("_meter", .ref me), ("_last", .ref t.ad)])) bk (.lst [])) x (.ins J.drawer dx [("_meter", .ref me), ("_last", .ref t.ad), ("_back", .ref bk)])) x (.ins J.drawer dx [("_meter", .ref me), ("_last", .ref t.ad), ("_back", .ref bk), ("_stopped", .bl false)])) :=
      (((Fr.put (by simp) (nt e4)).newN hbk).putN (.inl (by simp)) (nt (upd_keep e5 hbk))).putN (.inl (by simp)) (nt e6)
    have hcs0 : H cs = none := f1.free (by simp) (none_upd (none_upd hcs).2).2
    have hlo0 : H lo = none := f1.free (by simp) (none_upd (none_upd hlo).2).2
    have hme0 : H me = none := f1.free (by simp) hme
    have f03 := (fH2.mono (S' := [x]) (fun b hb => by cases hb)).tr f3
    have f04 := f03.trans f4 fun b hb => by rw [List.mem_singleton] at hb; rw [hb]; exact .inr hcs0
    have h3 : ∀ b, b ≠ x → upd H2 x (.ins J.drawer dx [("_meter", .ref me)]) b = none → H b = none := fun b nb z => f03.free (by simpa using nb) z
    refine k _ ⟨me, cs, lo, x, bk, t⟩ rfl ⟨⟨dx, upd_same.trans rfl⟩, upd_other nbk (upd_other nbk upd_same), ?_, fun _ => nt4.fr f4' (fun b hb z => ?_), S, ?_, ?_⟩ (fun b hb => ?_) (f04.tr f4')
    · have M4' : MetAt J H4 me cs lo ⟨200, []⟩ c.nd.gv := M4
      exact M4'.fr f4' fun b hb z => by
        rw [List.mem_singleton] at z
        subst z
        simp only [List.mem_cons, List.not_mem_nil, or_false] at hb
        rcases hb with z | z | z
        · exact nxm z
        · exact nxc z
        · exact nxl z
    · rw [List.mem_singleton] at z
      exact xt (z ▸ hb)
    · simp only [List.mem_append, List.mem_cons, List.not_mem_nil, or_false, not_or]
      exact ⟨xt, nxm, nxc, nxl⟩
    · simp only [List.mem_append, List.mem_cons, List.not_mem_nil, or_false, not_or]
      exact ⟨bt, nb.1, nb.2.1, nb.2.2⟩
    · simp only [DrS.ads, List.mem_append, List.mem_cons, List.not_mem_nil, or_false] at hb
      rcases hb with (hb | rfl | rfl | rfl) | rfl | rfl
      · exact .inr (h3 b (fun z => xt (z ▸ hb)) (ft b hb))
      · exact .inr hme0
      · exact .inr hcs0
      · exact .inr hlo0
      · exact .inl rfl
      · refine .inr (h3 _ nbk (f4.free ?_ hbk4))
        simpa using nb.2.1
end
end Dc

set_option Elab.async false
set_option linter.all false
set_option maxRecDepth 100000
set_option maxHeartbeats 2000000
namespace Dc
open PySem PySem.Spec PyProof.Rows L2
/-- a def of the top, by its name -/
def FnM (K : PySem.W.Frag) (mg : Str → Option Value) (x : Str) (s : Stmt) : Prop := ∃ f fd, FnP K x x s f fd ∧ mg x = some (.ref f)
/-- a class made by its own __init__ -/
def IniM (K : PySem.W.Frag) (mg : Str → Option Value) (x : Str) (C : Addr) (qual : Str) (s : Stmt) : Prop := ∃ f fd, FnP K "__init__" qual s f fd ∧ Mk K C f ∧ mg x = some (.ref C)
/-- a stage, made by super().__init__ first -/
def SupM (P : Program) (K : PySem.W.Frag) (mg : Str → Option Value) (x : Str) (C f2 : Addr) (qual : Str) (s : Stmt) : Prop := ∃ f fd, SupTxt P K mg "__init__" qual (defArgs s) (defBody s) (defScope s) C f f2 fd ∧ Mk K C f ∧ mg x = some (.ref C)
structure ProgA (P : Program) (K : PySem.W.Frag) (mg : Str → Option Value) (J : Cls') : Prop where
  d : ProgD K mg J
  z : DrF K J
  xm : PySem.W.exmOne K (.ref J.long) (.ref J.long) = some true
  check_chain : FnM K mg "check_chain" s_check_chain
  is_chain : FnM K mg "is_chain" s_is_chain
  is_pair : FnM K mg "is_pair" s_is_pair
  is_maker : FnM K mg "is_maker" s_is_maker
  is_row : FnM K mg "is_row" s_is_row
  is_stage : FnM K mg "is_stage" s_is_stage
  has_chain : FnM K mg "has_chain" s_has_chain
  is_within : FnM K mg "is_within" s_is_within
  is_number : FnM K mg "is_number" s_is_number
  chain_end : FnM K mg "chain_end" s_chain_end
  maker_of : FnM K mg "maker_of" s_maker_of
  stage_behind : FnM K mg "stage_behind" s_stage_behind
  meter : IniM K mg "Meter" J.meter "Meter.__init__" s_Meter___init__
  count : IniM K mg "Count" J.count "Count.__init__" s_Count___init__
  row : IniM K mg "Row" J.row "Row.__init__" s_Row___init__
  drawer : IniM K mg "Drawer" J.drawer "Drawer.__init__" s_Drawer___init__
  next : MT K J.drawer "next" "next" "Drawer.next" s_Drawer_next
  drawn : MT K J.drawer "drawn" "drawn" "Drawer.drawn" s_Drawer_drawn
  stage : ∃ f2 fd2, FnP K "__init__" "Stage.__init__" s_Stage___init__ f2 fd2 ∧
    SupM P K mg "Reckon" J.reckon f2 "Reckon.__init__" s_Reckon___init__ ∧ SupM P K mg "Keep" J.keep f2 "Keep.__init__" s_Keep___init__ ∧ SupM P K mg "Drop" J.drop f2 "Drop.__init__" s_Drop___init__ ∧
    SupM P K mg "Take" J.take f2 "Take.__init__" s_Take___init__ ∧ SupM P K mg "Each" J.each f2 "Each.__init__" s_Each___init__ ∧ SupM P K mg "Until" J.until' f2 "Until.__init__" s_Until___init__ ∧
    SupM P K mg "Unlike" J.unlike f2 "Unlike.__init__" s_Unlike___init__ ∧ SupM P K mg "Both" J.both f2 "Both.__init__" s_Both___init__ ∧ SupM P K mg "Then" J.thn f2 "Then.__init__" s_Then___init__
section
variable {P : Program} {w : World} {K : PySem.W.Frag} {mg : Str → Option Value} {base : Heap} {J : Cls'}
theorem cali_of {k : Nat} {x : Str} {C : Addr} {qual : Str} {st : Stmt} {ps : List Str} {sp : Sp} (R : IniM K mg x C qual st) (ok : ∀ f fd, FnP K "__init__" qual st f fd → FnOk P w K mg base CX0 k f fd ps sp)
    (h : ∀ (kV doc pm : Value) (an : Option Addr) (cdv ct : Value) (us : List Value), us.length = ps.length → bindArgs (PySem.W.fnOf "__init__" qual (defArgs st) (defBody st) (defScope st) .none kV doc pm an cdv ct) ⟨us, []⟩ = pure (ps.zip us)) :
    CalI P w K mg base CX0 k x C ps sp := by
  obtain ⟨f, fd, F, M, g⟩ := R
  exact ⟨f, fd, ok f fd F, F.bindsN h, M, g⟩
theorem cals_of {k : Nat} {x : Str} {C f2 : Addr} {qual : Str} {st : Stmt} {ps : List Str} {sp : Sp} (R : SupM P K mg x C f2 qual st) (ok : ∀ f fd, SupTxt P K mg "__init__" qual (defArgs st) (defBody st) (defScope st) C f f2 fd → FnOk P w K mg base CX0 k f fd ps sp)
    (h : ∀ (kV doc pm : Value) (an : Option Addr) (cdv ct : Value) (cc : Addr) (us : List Value), us.length = ps.length → bindArgs (PySem.W.ksFn "__init__" qual (defArgs st) (defBody st) (defScope st) .none kV doc pm an cdv ct cc) ⟨us, []⟩ = pure (ps.zip us)) :
    CalI P w K mg base CX0 k x C ps sp := by
  obtain ⟨f, fd, S, M, g⟩ := R
  have S' := S
  obtain ⟨oc, od, kV, doc, pm, an, cda, cc, ct, osl, ccl, cdd, ws, ccs, file, tf, cl, cld, csl, cdD, e, _⟩ := S'.ex
  exact ⟨f, fd, ok f fd S, by rw [e]; exact .all (h kV doc pm an (.ref cda) ct cc), M, g⟩
/-- a good chain is let by -/
theorem checks (T : Txt K mg) (R : ProgA P K mg J) : Cal P w K mg base CX0 5 "check_chain" ["chain"] spCheck := by
  obtain ⟨f1, d1, F1, g1⟩ := R.is_number
  obtain ⟨f2, d2, F2, g2⟩ := R.is_within
  obtain ⟨f3, d3, F3, g3⟩ := R.is_row
  obtain ⟨f4, d4, F4, g4⟩ := R.is_maker
  obtain ⟨f5, d5, F5, g5⟩ := R.is_stage
  obtain ⟨f6, d6, F6, g6⟩ := R.has_chain
  obtain ⟨f7, d7, F7, g7⟩ := R.is_pair
  obtain ⟨f8, d8, F8, g8⟩ := R.is_chain
  obtain ⟨f9, d9, F9, g9⟩ := R.check_chain
  have G1 : Cal P w K mg base CX0 1 "is_number" ["number"] spIsNumber := cal_of F1 g1 (ok_is_number T F1) fun _ _ _ _ _ _ us hl => match us, hl with | [_], _ => rfl
  have G2 : Cal P w K mg base CX0 2 "is_within" ["number", "low", "high"] spIsWithin := cal_of F2 g2 (ok_is_within T F2 G1) fun _ _ _ _ _ _ us hl => match us, hl with | [_, _, _], _ => rfl
  have G3 : Cal P w K mg base CX0 2 "is_row" ["numbers"] spIsRow := cal_of F3 g3 (ok_is_row T F3 G1) fun _ _ _ _ _ _ us hl => match us, hl with | [_], _ => rfl
  have G4 : Cal P w K mg base CX0 3 "is_maker" ["maker"] spIsMaker := cal_of F4 g4 (ok_is_maker T F4 G1 G3) fun _ _ _ _ _ _ us hl => match us, hl with | [_], _ => rfl
  have G5 : Cal P w K mg base CX0 3 "is_stage" ["stage"] spIsStage := cal_of F5 g5 (ok_is_stage T F5 G1 G2) fun _ _ _ _ _ _ us hl => match us, hl with | [_], _ => rfl
  have G6 : Cal P w K mg base CX0 1 "has_chain" ["stage"] spHasChain := cal_of F6 g6 (ok_has_chain T F6) fun _ _ _ _ _ _ us hl => match us, hl with | [_], _ => rfl
  have G7 : Cal P w K mg base CX0 1 "is_pair" ["part"] spIsPair := cal_of F7 g7 (ok_is_pair T F7) fun _ _ _ _ _ _ us hl => match us, hl with | [_], _ => rfl
  have G8 : Cal P w K mg base CX0 4 "is_chain" ["chain"] spIsChain := cal_of F8 g8 (ok_is_chain T F8 G7 G4 G5 G6) fun _ _ _ _ _ _ us hl => match us, hl with | [_], _ => rfl
  exact cal_of F9 g9 (ok_check_chain T F9 G8) fun _ _ _ _ _ _ us hl => match us, hl with | [_], _ => rfl
/-- the drawer is made -/
theorem makes (T : Txt K mg) (R : ProgA P K mg J) : CalI P w K mg base CX0 14 "Drawer" J.drawer ["self", "chain"] (spDInit J) := by
  have N := R.d.node
  have M := R.d.met
  have Ge : CalM P w K mg base CX0 1 J.meter "enter" ["self"] (spEnter J) := calm_of R.d.enter M.c (fun f fd F => ok_Meter_enter T M F) fun _ _ _ _ _ _ us hl => match us, hl with | [_], _ => rfl
  have I_Meter : CalI P w K mg base CX0 1 "Meter" J.meter ["self"] (spMInit J) := cali_of R.meter (fun f fd F => ok_Meter___init__ T M F) fun _ _ _ _ _ _ us hl => match us, hl with | [_], _ => rfl
  have I_Count : CalI P w K mg base CX0 2 "Count" J.count ["self", "begin", "step", "meter"] (spCInit J) := cali_of R.count (fun f fd F => ok_Count___init__ T N F Ge) fun _ _ _ _ _ _ us hl => match us, hl with | [_, _, _, _], _ => rfl
  have I_Row : CalI P w K mg base CX0 2 "Row" J.row ["self", "numbers", "meter"] (spRInit J) := cali_of R.row (fun f fd F => ok_Row___init__ T N F Ge) fun _ _ _ _ _ _ us hl => match us, hl with | [_, _, _], _ => rfl
  obtain ⟨f2, fd2, F2, S1, S2, S3, S4, S5, S6, S7, S8, S9⟩ := R.stage
  have G2 : FnOk P w K mg base CX0 1 f2 fd2 ["self", "ahead"] (spSuper J) := ok_Stage___init__ T N F2
  have b2 : Binds K fd2 ["self", "ahead"] [] := F2.bindsN fun _ _ _ _ _ _ us hl => match us, hl with | [_, _], _ => rfl
  have I1 := cals_of S1 (fun f fd S => ok_Reckon___init__ (base := base) (w := w) T N S G2 b2) fun _ _ _ _ _ _ _ us hl => match us, hl with | [_, _, _, _], _ => rfl
  have I2 := cals_of S2 (fun f fd S => ok_Keep___init__ (base := base) (w := w) T N S G2 b2) fun _ _ _ _ _ _ _ us hl => match us, hl with | [_, _, _, _], _ => rfl
  have I3 := cals_of S3 (fun f fd S => ok_Drop___init__ (base := base) (w := w) T N S G2 b2) fun _ _ _ _ _ _ _ us hl => match us, hl with | [_, _, _], _ => rfl
  have I4 := cals_of S4 (fun f fd S => ok_Take___init__ (base := base) (w := w) T N S G2 b2) fun _ _ _ _ _ _ _ us hl => match us, hl with | [_, _, _], _ => rfl
  have I5 := cals_of S5 (fun f fd S => ok_Each___init__ (base := base) (w := w) T N S G2 b2) fun _ _ _ _ _ _ _ us hl => match us, hl with | [_, _, _], _ => rfl
  have I6 := cals_of S6 (fun f fd S => ok_Until___init__ (base := base) (w := w) T N S G2 b2) fun _ _ _ _ _ _ _ us hl => match us, hl with | [_, _, _, _], _ => rfl
  have I7 := cals_of S7 (fun f fd S => ok_Unlike___init__ (base := base) (w := w) T N S G2 b2) fun _ _ _ _ _ _ _ us hl => match us, hl with | [_, _], _ => rfl
  have I8 := cals_of S8 (fun f fd S => ok_Both___init__ (base := base) (w := w) T N S G2 b2) fun _ _ _ _ _ _ _ us hl => match us, hl with | [_, _, _, _], _ => rfl
  have I9 := cals_of S9 (fun f fd S => ok_Then___init__ (base := base) (w := w) T N S G2 b2) fun _ _ _ _ _ _ _ us hl => match us, hl with | [_, _, _], _ => rfl
  obtain ⟨fM, dM, FM, gM⟩ := R.maker_of
  obtain ⟨fB, dB, FB, gB⟩ := R.stage_behind
  obtain ⟨fE, dE, FE, gE⟩ := R.chain_end
  have GE := ends T FM FB FE gM gB gE I_Count I_Row I1 I2 I3 I4 I5 I6 I7 I8 I9 4
  exact cali_of R.drawer (fun f fd F => ok_Drawer___init__ T R.z F (checks T R) I_Meter GE) fun _ _ _ _ _ _ us hl => match us, hl with | [_, _], _ => rfl
theorem nexts (T : Txt K mg) (R : ProgA P K mg J) (d : Nat) : CalM P w K mg base CX0 (2 * d + 3) J.drawer "next" ["self"] (spNext J d) := by
  have Gb : CalM P w K mg base CX0 1 J.meter "begin_next" ["self"] (spBegin J) := calm_of R.d.begin_ R.d.met.c (fun f fd F => ok_Meter_begin_next T R.d.met F) fun _ _ _ _ _ _ us hl => match us, hl with | [_], _ => rfl
  exact calm_of R.next R.z.c (fun f fd F => ok_Drawer_next T R.z R.d.long R.xm F Gb (draws T R.d d)) fun _ _ _ _ _ _ us hl => match us, hl with | [_], _ => rfl
theorem drawns (T : Txt K mg) (R : ProgA P K mg J) : CalM P w K mg base CX0 1 J.drawer "drawn" ["self"] (spDrawnP J) := calm_of R.drawn R.z.c (fun f fd F => ok_Drawer_drawn T R.z R.d.met F) fun _ _ _ _ _ _ us hl => match us, hl with | [_], _ => rfl
end
end Dc

set_option Elab.async false
set_option linter.all false
set_option maxRecDepth 100000
set_option maxHeartbeats 2000000
namespace Dc
open PySem PySem.Spec PyProof.Rows L2
local macro_rules | `(tactic| walk_at "ne") => `(tactic| first | assumption | (refine Ne.symm ?_; assumption) | exact ne_of (by assumption) (by assumption) (by intro q; cases q) | exact ne_of_none (by assumption) (by assumption) | exact Ne.symm (ne_of_none (by assumption) (by assumption)))
local macro_rules | `(tactic| walk_at "hp") => `(tactic| first | assumption | exact upd_same | (refine upd_keep ?_ (by assumption); walk_at "hp") | (refine upd_other ?_ ?_; · walk_at "ne"; · walk_at "hp"))
local macro_rules | `(tactic| walk_at "hl") => `(tactic| first | assumption | exact SqL.of (by walk_at "hp"))
local macro_rules | `(tactic| walk_at "ht") => `(tactic| first | assumption | exact SqT.of (by walk_at "hp"))
local macro_rules | `(tactic| walk_at "rd1") => `(tactic| first
  | ((with_reducible apply rd_var); exact rfl)
  | ((with_reducible apply rd_eq); exact rfl) | ((with_reducible apply rd_ne); exact rfl)
  | with_reducible first
  | refine iteT ?_ | refine iteF ?_ | refine rd_nF ?_ | refine rd_nT ?_ | refine rd_yes ?_ | refine rd_c ?_ | refine rd_op ?_ | refine rd_un ?_ | refine rd_test ?_ | refine rd_B ?_ | refine rd_bl ?_ | refine rd_seq ?_ | refine rd_next ?_ | refine rd_ifs ?_ | refine rd_asg ?_ | refine rd_name ?_ | refine rd_ret ?_ | refine rd_drop ?_
  | refine rd_call ?_ | refine rd_cons ?_ | refine rd_nil ?_ | refine rd_cb ?_ | refine rd_I0 ?_ | refine rd_U ?_ | refine rd_gsub ?_ | refine rd_lst ?_ | refine rd_tup ?_ | refine rd_if ?_ | refine rd_not ?_ | refine rd_rng1 ?_ | refine rd_itup ?_ | refine rd_ilst ?_ | refine rd_bm ?_ | refine rd_bm0 ?_ | refine rd_andV ?_ | refine rd_orV ?_ | refine rd_notV ?_)
local macro_rules | `(tactic| walk_at "rd") => `(tactic| repeat walk_at "rd1")
local macro_rules | `(tactic| walk_at "ci") => `(tactic| first | assumption | (show (0 : Int) < _; first | decide | omega) | exact ⟨by decide, by decide⟩ | exact Or.inr ⟨by decide, by decide⟩ | exact Or.inl ⟨by decide, by decide⟩ | exact ⟨by decide, by decide, by decide⟩ | exact Or.inl ⟨by omega, by omega⟩ | exact Or.inr ⟨by omega, by omega⟩)
local macro_rules | `(tactic| walk_at "ix") => `(tactic| first
  | ((with_reducible apply rd_ixL); (walk_at "hl"); exact rfl)
  | ((with_reducible apply rd_ixT); (walk_at "ht"); exact rfl)
  | ((with_reducible apply rd_lenL); (walk_at "hl"))
  | ((with_reducible apply rd_lenT); (walk_at "ht"))
  | ((with_reducible apply rd_tupOf); (walk_at "hl"))
  | ((with_reducible apply rd_listOf); (walk_at "hl"))
  | (with_reducible refine rd_min2 ?_)
  | ((with_reducible apply rd_I); (walk_at "ci"))
  | ((with_reducible apply rd_setL); (walk_at "hp"); exact rfl))
local macro_rules | `(tactic| walk_at "gs") => `(tactic| repeat first | walk_at "rd1" | walk_at "ix")
local macro_rules | `(tactic| walk_at "go") => `(tactic| repeat first | walk_at "rd1" | walk_at "ix" | with_reducible refine rd_and ?_ | with_reducible refine rd_or ?_)
local macro_rules | `(tactic| walk_at "fo") => `(tactic| (with_reducible refine rd_for ?_))
local macro_rules | `(tactic| walk_at "pm") => `(tactic| repeat first
  | with_reducible first | refine rd_pcons ?_ | refine rd_pstr ?_ | refine rd_pcap ?_ | refine rd_pwild ?_ | refine rd_pnil ?_ | refine rd_por ?_ | refine rd_pno ?_
  | ((with_reducible refine rd_eq rfl ?_); refine ⟨_, rfl, ?_⟩; first | refine rd_T rfl ?_ | refine rd_F (by decide) ?_)
  | dsimp only [List.nil_append, List.singleton_append, List.cons_append, setAll])
local macro_rules | `(tactic| walk_at "pc") => `(tactic| (refine rd_case ?_); (first | (refine rd_phit (SqT.of (by assumption)) rfl ?_) | (refine rd_pmiss (SqT.of (by assumption)) (by simp) ?_)); (walk_at "pm"))

/-- the script: locked, or in the written part -/
def ScAt (K : PySem.W.Frag) (ns : List Int) (H : Hp) (sc : Addr) : Prop := (∃ o, H sc = some (.frz o (.lst (ns.map V.int)))) ∨ ∀ H' : Hp, SqL K H' sc (ns.map V.int)
theorem ScAt.seq {K : PySem.W.Frag} {ns : List Int} {H : Hp} {sc : Addr} (h : ScAt K ns H sc) : SqL K H sc (ns.map V.int) := by
  rcases h with ⟨o, h⟩ | h
  · exact .inl (.inr ⟨o, h⟩)
  · exact h H
theorem ScAt.fr {K : PySem.W.Frag} {ns : List Int} {H H' : Hp} {sc : Addr} {S : List Addr} (h : ScAt K ns H sc) (f : Fr S H H') : ScAt K ns H' sc := by
  rcases h with ⟨o, h⟩ | h
  · exact .inl ⟨o, f.fz h⟩
  · exact .inr h
/-- where drawing stands: the list at a, the script at sc -/
structure StAt (K : PySem.W.Frag) (ns : List Int) (H : Hp) (a sc : Addr) : Prop where
  lst : ∃ (b m l : Int), H a = some (.lst [.ref sc, .int b, .int m, .int l]) ∧ 0 ≤ b
  scr : ScAt K ns H sc
theorem StAt.fr {K : PySem.W.Frag} {ns : List Int} {H H' : Hp} {a sc : Addr} {S : List Addr} (s : StAt K ns H a sc) (f : Fr S H H') (n : a ∉ S) : StAt K ns H' a sc := by
  obtain ⟨⟨b, m, l, h1, h2⟩, h3⟩ := s
  exact ⟨⟨b, m, l, f.at h1 n, h2⟩, h3.fr f⟩
theorem StAt.put {K : PySem.W.Frag} {ns : List Int} {H : Hp} {a sc : Addr} (s : StAt K ns H a sc) {b m l : Int} (hb : 0 ≤ b) : StAt K ns (upd H a (.lst [.ref sc, .int b, .int m, .int l])) a sc ∧ Fr [a] H (upd H a (.lst [.ref sc, .int b, .int m, .int l])) := by
  obtain ⟨⟨b0, m0, l0, h1, h2⟩, h3⟩ := s
  have f : Fr [a] H (upd H a (.lst [.ref sc, .int b, .int m, .int l])) := Fr.put List.mem_cons_self (nt h1)
  exact ⟨⟨⟨b, m, l, upd_same, hb⟩, h3.fr f⟩, f⟩
def spDrawn (K : PySem.W.Frag) (ns : List Int) : Sp := fun vs H Q _ => ∃ (a sc : Addr) (many : Int), vs = [.ref a, .int many] ∧ StAt K ns H a sc ∧ 0 < many ∧ many.natAbs < 2 ^ 200 ∧
  ∀ (r : Int) (H' : Hp), 0 ≤ r → r < many → StAt K ns H' a sc → Fr [a] H H' → Q (.int r) H'
def spStart (K : PySem.W.Frag) (ns : List Int) : Sp := fun vs H Q _ => ∃ (sc : Addr), vs = [.ref sc] ∧ ScAt K ns H sc ∧ ∀ (a : Addr) (H' : Hp), StAt K ns H' a sc → H a = none → Fr [] H H' → Q (.ref a) H'
theorem st_new {K : PySem.W.Frag} {ns : List Int} {H : Hp} {a sc p : Addr} {o : HO} (S : StAt K ns H a sc) (h : H p = none) : StAt K ns (upd H p o) a sc ∧ a ≠ p := by
  obtain ⟨⟨b, m, l, h1, h2⟩, h3⟩ := id S
  have n := ne_of_none h1 h
  exact ⟨⟨⟨b, m, l, by rw [upd_ne n]; exact h1, h2⟩, h3.fr (Fr.new (S := []) h)⟩, n⟩
section
variable {P : Program} {w : World} {K : PySem.W.Frag} {mg : Str → Option Value} {base : Heap}
theorem sc__law_drawn : FnScope ["_law_state", "_law_many", "_law_found", "_law_cell"] ["_law_state", "_law_many"] (defScope s__law_drawn) := ⟨rfl, rfl, rfl, by decide +kernel, rfl, by decide +kernel, by decide +kernel⟩
theorem ok_law_drawn {f : Addr} {fd : FuncData} {ns : List Int} (T : Txt K mg) (F : FnP K "_law_drawn" "_law_drawn" s__law_drawn f fd) (hl : ns.length ≤ 63) : FnOk P w K mg base CX0 1 f fd ["_law_state", "_law_many"] (spDrawn K ns) := by
  refine ok0 F sc__law_drawn (fun vs H Q E h => ?_) (fun cdv A outer s H vs Q E hr h => ?_)
  · obtain ⟨a, sc, many, rfl, _⟩ := h
    rfl
  · obtain ⟨a, sc, many, rfl, S, hp, hb, k⟩ := h
    refine ⟨_, (pss_cons (ps_if (pt_cmpR op_gt (pe_ix (ix_listK K) (pv 0) pe_int (fun _ _ => rfl)) pe_int (nomark _))
    (pss_cons (ps_set (i := 2) sc__law_drawn.nd rfl (Or.inl rfl) (pe_op op_mod (pe_ix (ix_listK K) (pv 0) pe_int (fun _ _ => rfl)) (pv 1)))
    (pss_cons (ps_asg (pe_op op_fdivW (pe_ix (ix_listK K) (pv 0) pe_int (fun _ _ => rfl)) (pv 1)) (pg_sub (pv 0) pe_int set_list))
    (pss_one (ps_ret (pv 2))))) pss_nil)
  (pss_cons (ps_asg (pe_op op_add (pe_ix (ix_listK K) (pv 0) pe_int (fun _ _ => rfl)) pe_int) (pg_sub (pv 0) pe_int set_list))
  (pss_cons (ps_if (pt_cmpR op_le (pe_ix (ix_listK K) (pv 0) pe_int (fun _ _ => rfl)) (pe_callB (call_len1K K) (by rfl) T.free_len (by decide +kernel) (pa_cons (pe_ix (ix_listK K) (pv 0) pe_int (fun _ _ => rfl)) pa_nil)) (nomark _))
    (pss_cons (ps_set (i := 3) sc__law_drawn.nd rfl (Or.inl rfl) (pe_ix (ix_listK K) (pe_ix (ix_listK K) (pv 0) pe_int (fun _ _ => rfl)) (pe_op op_sub (pe_ix (ix_listK K) (pv 0) pe_int (fun _ _ => rfl)) pe_int) (fun _ _ => rfl)))
    (pss_cons (ps_asg (pe_ifExp (pt_cmpR op_ge (pv 3) (pe_op op_pow pe_int pe_int) (nomark _)) (pe_op op_fdivW (pv 3) (pv 1)) pe_int) (pg_sub (pv 0) pe_int set_list))
    (pss_one (ps_ret (pe_op op_mod (pv 3) (pv 1)))))) pss_nil)
  (pss_cons (ps_asg (pe_op op_mod (pe_op op_add (pe_op op_mul (pe_ix (ix_listK K) (pv 0) pe_int (fun _ _ => rfl)) pe_int) pe_int) pe_int) (pg_sub (pv 0) pe_int set_list))
  (pss_one (ps_ret (pe_op op_mod (pe_op op_fdiv (pe_ix (ix_listK K) (pv 0) pe_int (fun _ _ => rfl)) pe_int) (pv 1)))))))), ?_⟩
    obtain ⟨⟨b, m, l, h1, h2⟩, h3⟩ := id S
    try dsimp only [cxOf, Cx.nox, Cx.wish]
    refine rd_at (σ' := [some (.ref a), some (.int many), none, none]) rfl ?_
    walk_at "go"
    refine rd_dec (fun c => ?_) (fun c => ?_)
    · walk_at "go"
      refine rd_I (wide_div hp hb (by decide) (by decide)) ?_
      walk_at "go"
      obtain ⟨S', f⟩ := S.put (m := m) (l := l / many) h2
      exact k _ _ (Int.emod_nonneg _ (by omega)) (Int.emod_lt_of_pos _ hp) S' f
    · walk_at "go"
      obtain ⟨S1, f1⟩ := S.put (b := b + 1) (m := m) (l := l) (by omega)
      refine rd_lenL S1.scr.seq ?_
      walk_at "go"
      rw [List.length_map]
      refine rd_dec (fun c1 => ?_) (fun c1 => ?_)
      · walk_at "go"
        obtain ⟨j, ej, hj⟩ : ∃ j : Nat, b + 1 - 1 = (j : Int) ∧ j < ns.length := ⟨b.toNat, by omega, by omega⟩
        refine rd_ixL S1.scr.seq (at_of (v := V.int ns[j]) ej (by rw [List.getElem?_map, List.getElem?_eq_getElem hj]; rfl)) ?_
        walk_at "go"
        have put2 : ∀ z : Int, StAt K ns (upd (upd H a (.lst [.ref sc, .int (b + 1), .int m, .int l])) a (.lst [.ref sc, .int (b + 1), .int m, .int z])) a sc ∧
            Fr [a] H (upd (upd H a (.lst [.ref sc, .int (b + 1), .int m, .int l])) a (.lst [.ref sc, .int (b + 1), .int m, .int z])) := fun z => by
          obtain ⟨S2, f2⟩ := S1.put (b := b + 1) (m := m) (l := z) (by omega)
          exact ⟨S2, f1.tr f2⟩
        refine rd_dec (fun c2 => ?_) (fun c2 => ?_)
        · walk_at "go"
          refine rd_I (wide_div hp hb (by decide) (by decide)) ?_
          walk_at "go"
          obtain ⟨S2, f2⟩ := put2 (ns[j] / many)
          exact k _ _ (Int.emod_nonneg _ (by omega)) (Int.emod_lt_of_pos _ hp) S2 f2
        · walk_at "go"
          obtain ⟨S2, f2⟩ := put2 0
          exact k _ _ (Int.emod_nonneg _ (by omega)) (Int.emod_lt_of_pos _ hp) S2 f2
      · walk_at "go"
        obtain ⟨S2, f2⟩ := S1.put (b := b + 1) (m := (m * 48271 + 11) % 2147483647) (l := l) (by omega)
        exact k _ _ (Int.emod_nonneg _ (by omega)) (Int.emod_lt_of_pos _ hp) S2 (f1.tr f2)
theorem sc__law_start : FnScope ["_law_script", "_law_mixed", "_law_cell"] ["_law_script"] (defScope s__law_start) := ⟨rfl, rfl, rfl, by decide +kernel, rfl, by decide +kernel, by decide +kernel⟩
theorem ok_law_start {f : Addr} {fd : FuncData} {ns : List Int} (T : Txt K mg) (F : FnP K "_law_start" "_law_start" s__law_start f fd) : FnOk P w K mg base CX0 1 f fd ["_law_script"] (spStart K ns) := by
  refine ok0 F sc__law_start (fun vs H Q E h => ?_) (fun cdv A outer s H vs Q E hr h => ?_)
  · obtain ⟨sc, rfl, _⟩ := h
    rfl
  · obtain ⟨sc, rfl, S, k⟩ := h
    refine ⟨_, (pss_cons (ps_set (i := 1) sc__law_start.nd rfl (Or.inl rfl) pe_int)
  (pss_cons (ps_for PassesOwn.never rfl (pi_list (pv 0)) (pg_name (i := 2) sc__law_start.nd rfl (Or.inl rfl))
    (pss_one (ps_set (i := 1) sc__law_start.nd rfl (Or.inl rfl) (pe_op op_mod (pe_op op_add (pe_op op_add (pe_op op_mul (pv 1) pe_int) (pv 2)) pe_int) pe_int))))
  (pss_one (ps_ret (pe_lst (pa_cons (pv 0) (pa_cons pe_int (pa_cons (pv 1) (pa_cons pe_int pa_nil))))))))), ?_⟩
    try dsimp only [cxOf, Cx.nox, Cx.wish]
    refine rd_at (σ' := [some (.ref sc), none, none]) rfl ?_
    walk_at "go"
    refine ⟨_, rfl, sc, rfl, ⟨_, S.seq⟩, for_list (K := K) (a := sc) (xs := ns.map V.int) (fun i σ H1 => ∃ (m : Int) (v : Option V), σ = [some (.ref sc), some (.int m), v] ∧ H1 = H) ⟨1, none, rfl, rfl⟩ (fun i σ H1 _ ⟨_, _, _, e⟩ => by rw [e]; exact S.seq) ?_ ?_⟩
    · rintro i y σ H1 hi ⟨m, v, rfl, rfl⟩
      obtain ⟨z, rfl⟩ : ∃ z, y = V.int z := by
        rw [List.getElem?_map] at hi
        cases e : ns[i]? with
        | none => rw [e] at hi; cases hi
        | some z => rw [e] at hi; exact ⟨z, (Option.some.inj hi).symm⟩
      walk_at "go"
      exact ⟨_, _, rfl, rfl⟩
    · rintro σ H1 ⟨m, v, rfl, rfl⟩
      walk_at "go"
      refine ⟨by show 4 ≤ sizeLine; decide, fun p hp => ?_⟩
      exact k p _ ⟨⟨0, m, 0, upd_same, Int.le_refl _⟩, S.fr (Fr.new (S := []) hp)⟩ hp (Fr.new hp)
end
end Dc

set_option Elab.async false
set_option linter.all false
set_option maxRecDepth 100000
set_option maxHeartbeats 2000000
namespace Dc
open PySem PySem.Spec PyProof.Rows L2
/-- the law's own drawing of numbers -/
structure StartL (K : PySem.W.Frag) (mg : Str → Option Value) : Prop where
  start : FnM K mg "_law_start" s__law_start
  drawn : FnM K mg "_law_drawn" s__law_drawn
section
variable {P : Program} {w : World} {K : PySem.W.Frag} {mg : Str → Option Value} {base : Heap} {J : Cls'}
theorem l_drawn (T : Txt K mg) (L : StartL K mg) {ns : List Int} (hl : ns.length ≤ 63) : Cal P w K mg base CX0 1 "_law_drawn" ["_law_state", "_law_many"] (spDrawn K ns) := by
  obtain ⟨f, fd, F, g⟩ := L.drawn
  exact cal_of F g (ok_law_drawn T F hl) fun _ _ _ _ _ _ us hl => match us, hl with | [_, _], _ => rfl
theorem l_start (T : Txt K mg) (L : StartL K mg) {ns : List Int} : Cal P w K mg base CX0 1 "_law_start" ["_law_script"] (spStart K ns) := by
  obtain ⟨f, fd, F, g⟩ := L.start
  exact cal_of F g (ok_law_start T F) fun _ _ _ _ _ _ us hl => match us, hl with | [_], _ => rfl
end
end Dc

set_option Elab.async false
set_option linter.all false
set_option maxRecDepth 100000
set_option maxHeartbeats 2000000
namespace Dc
open PySem PySem.Spec PyProof.Rows L2
local macro_rules | `(tactic| walk_at "ne") => `(tactic| first | assumption | (refine Ne.symm ?_; assumption) | exact ne_of (by assumption) (by assumption) (by intro q; cases q) | exact ne_of_none (by assumption) (by assumption) | exact Ne.symm (ne_of_none (by assumption) (by assumption)))
local macro_rules | `(tactic| walk_at "hp") => `(tactic| first | assumption | exact upd_same | (refine upd_keep ?_ (by assumption); walk_at "hp") | (refine upd_other ?_ ?_; · walk_at "ne"; · walk_at "hp"))
local macro_rules | `(tactic| walk_at "hl") => `(tactic| first | assumption | exact SqL.of (by walk_at "hp"))
local macro_rules | `(tactic| walk_at "ht") => `(tactic| first | assumption | exact SqT.of (by walk_at "hp"))
local macro_rules | `(tactic| walk_at "rd1") => `(tactic| first
  | ((with_reducible apply rd_var); exact rfl)
  | ((with_reducible apply rd_eq); exact rfl) | ((with_reducible apply rd_ne); exact rfl)
  | with_reducible first
  | refine iteT ?_ | refine iteF ?_ | refine rd_nF ?_ | refine rd_nT ?_ | refine rd_yes ?_ | refine rd_c ?_ | refine rd_op ?_ | refine rd_un ?_ | refine rd_test ?_ | refine rd_B ?_ | refine rd_bl ?_ | refine rd_seq ?_ | refine rd_next ?_ | refine rd_ifs ?_ | refine rd_asg ?_ | refine rd_name ?_ | refine rd_ret ?_ | refine rd_drop ?_
  | refine rd_call ?_ | refine rd_cons ?_ | refine rd_nil ?_ | refine rd_cb ?_ | refine rd_I0 ?_ | refine rd_U ?_ | refine rd_gsub ?_ | refine rd_lst ?_ | refine rd_tup ?_ | refine rd_if ?_ | refine rd_not ?_ | refine rd_rng1 ?_ | refine rd_itup ?_ | refine rd_ilst ?_ | refine rd_bm ?_ | refine rd_bm0 ?_ | refine rd_andV ?_ | refine rd_orV ?_ | refine rd_notV ?_)
local macro_rules | `(tactic| walk_at "rd") => `(tactic| repeat walk_at "rd1")
local macro_rules | `(tactic| walk_at "ci") => `(tactic| first | assumption | (show (0 : Int) < _; first | decide | omega) | exact ⟨by decide, by decide⟩ | exact Or.inr ⟨by decide, by decide⟩ | exact Or.inl ⟨by decide, by decide⟩ | exact ⟨by decide, by decide, by decide⟩ | exact Or.inl ⟨by omega, by omega⟩ | exact Or.inr ⟨by omega, by omega⟩)
local macro_rules | `(tactic| walk_at "ix") => `(tactic| first
  | ((with_reducible apply rd_ixL); (walk_at "hl"); exact rfl)
  | ((with_reducible apply rd_ixT); (walk_at "ht"); exact rfl)
  | ((with_reducible apply rd_lenL); (walk_at "hl"))
  | ((with_reducible apply rd_lenT); (walk_at "ht"))
  | ((with_reducible apply rd_tupOf); (walk_at "hl"))
  | ((with_reducible apply rd_listOf); (walk_at "hl"))
  | (with_reducible refine rd_min2 ?_)
  | ((with_reducible apply rd_I); (walk_at "ci"))
  | ((with_reducible apply rd_setL); (walk_at "hp"); exact rfl))
local macro_rules | `(tactic| walk_at "gs") => `(tactic| repeat first | walk_at "rd1" | walk_at "ix")
local macro_rules | `(tactic| walk_at "go") => `(tactic| repeat first | walk_at "rd1" | walk_at "ix" | with_reducible refine rd_and ?_ | with_reducible refine rd_or ?_)
local macro_rules | `(tactic| walk_at "fo") => `(tactic| (with_reducible refine rd_for ?_))
local macro_rules | `(tactic| walk_at "pm") => `(tactic| repeat first
  | with_reducible first | refine rd_pcons ?_ | refine rd_pstr ?_ | refine rd_pcap ?_ | refine rd_pwild ?_ | refine rd_pnil ?_ | refine rd_por ?_ | refine rd_pno ?_
  | ((with_reducible refine rd_eq rfl ?_); refine ⟨_, rfl, ?_⟩; first | refine rd_T rfl ?_ | refine rd_F (by decide) ?_)
  | dsimp only [List.nil_append, List.singleton_append, List.cons_append, setAll])
local macro_rules | `(tactic| walk_at "pc") => `(tactic| (refine rd_case ?_); (first | (refine rd_phit (SqT.of (by assumption)) rfl ?_) | (refine rd_pmiss (SqT.of (by assumption)) (by simp) ?_)); (walk_at "pm"))

def spNumber (K : PySem.W.Frag) (ns : List Int) : Sp := fun vs H Q _ => ∃ (a sc : Addr), vs = [.ref a] ∧ StAt K ns H a sc ∧
  ∀ (n : Int) (H' : Hp), -(10 ^ 20) ≤ n → n ≤ 10 ^ 20 → StAt K ns H' a sc → Fr [a] H H' → Q (.int n) H'
section
variable {P : Program} {w : World} {K : PySem.W.Frag} {mg : Str → Option Value} {base : Heap}
theorem sc__law_number : FnScope ["_law_state", "_law_far"] ["_law_state"] (defScope s__law_number) := ⟨rfl, rfl, rfl, by decide +kernel, rfl, by decide +kernel, by decide +kernel⟩
theorem ok_law_number {f : Addr} {fd : FuncData} {ns : List Int} (T : Txt K mg) (F : FnP K "_law_number" "_law_number" s__law_number f fd)
    (G__law_drawn : Cal P w K mg base CX0 1 "_law_drawn" ["_law_state", "_law_many"] (spDrawn K ns)) : FnOk P w K mg base CX0 2 f fd ["_law_state"] (spNumber K ns) := by
  refine ok0 F sc__law_number (fun vs H Q E h => ?_) (fun cdv A outer s H vs Q E hr h => ?_)
  · obtain ⟨a, sc, rfl, _⟩ := h
    rfl
  · obtain ⟨a, sc, rfl, S, k⟩ := h
    refine ⟨_, (pss_cons (ps_set (i := 1) sc__law_number.nd rfl (Or.inl rfl) (pe_ix (ix_listK K) (pe_lst (pa_cons pe_int (pa_cons pe_int (pa_cons (pe_op op_pow pe_int pe_int) pa_nil)))) (pe_op op_fdiv (pe_cal G__law_drawn (hr.mono (by omega)) pass0 (pa_cons (pv 0) (pa_cons pe_int pa_nil))) pe_int) (fun _ _ => rfl)))
  (pss_one (ps_ret (pe_op op_sub (pe_cal G__law_drawn (hr.mono (by omega)) pass0 (pa_cons (pv 0) (pa_cons (pv 1) pa_nil))) (pe_op op_mul (pe_cal G__law_drawn (hr.mono (by omega)) pass0 (pa_cons (pv 0) (pa_cons pe_int pa_nil))) (pv 1)))))), ?_⟩
    try dsimp only [cxOf, Cx.nox, Cx.wish]
    refine rd_at (σ' := [some (.ref a), none]) rfl ?_
    walk_at "go"
    refine ⟨by show 3 ≤ sizeLine; decide, fun p hp => ?_⟩
    obtain ⟨S1, np⟩ := st_new (o := .lst [.int 4, .int 30, .int (10 ^ 20)]) S hp
    walk_at "go"
    refine ⟨a, sc, 12, rfl, S1, by decide, by decide, fun r H2 r0 r1 S2 f2 => ?_⟩
    walk_at "go"
    have hp2 : H2 p = some (.lst [.int 4, .int 30, .int (10 ^ 20)]) := f2.at upd_same (by simpa using np.symm)
    obtain ⟨v, hv, ev⟩ := at_in (xs := [V.int 4, .int 30, .int (10 ^ 20)]) (i := r / 5) (by omega) (by show r / 5 < 3; omega)
    refine rd_ixL (SqL.of hp2) ev ?_
    obtain ⟨far, rfl, hf⟩ : ∃ far : Int, v = .int far ∧ (far = 4 ∨ far = 30 ∨ far = 10 ^ 20) := by
      simp only [List.mem_cons, List.not_mem_nil, or_false] at hv
      rcases hv with rfl | rfl | rfl
      · exact ⟨_, rfl, .inl rfl⟩
      · exact ⟨_, rfl, .inr (.inl rfl)⟩
      · exact ⟨_, rfl, .inr (.inr rfl)⟩
    have h0 : 0 < far := by omega
    have h1 : far ≤ 10 ^ 20 := by omega
    walk_at "go"
    refine ⟨a, sc, far, rfl, S2, h0, by rcases hf with rfl | rfl | rfl <;> decide, fun r2 H3 a0 a1 S3 f3 => ?_⟩
    walk_at "go"
    refine ⟨a, sc, 2, rfl, S3, by decide, by decide, fun r3 H4 b0 b1 S4 f4 => ?_⟩
    walk_at "go"
    have e : r3 = 0 ∨ r3 = 1 := by omega
    refine k _ _ ?_ ?_ S4 (((Fr.new hp).tr f2).tr (f3.tr f4))
    · rcases e with rfl | rfl <;> omega
    · rcases e with rfl | rfl <;> omega
end
end Dc

set_option Elab.async false
set_option linter.all false
set_option maxRecDepth 100000
set_option maxHeartbeats 2000000
namespace Dc
open PySem PySem.Spec PyProof.Rows L2
local macro_rules | `(tactic| walk_at "ne") => `(tactic| first | assumption | (refine Ne.symm ?_; assumption) | exact ne_of (by assumption) (by assumption) (by intro q; cases q) | exact ne_of_none (by assumption) (by assumption) | exact Ne.symm (ne_of_none (by assumption) (by assumption)))
local macro_rules | `(tactic| walk_at "hp") => `(tactic| first | assumption | exact upd_same | (refine upd_keep ?_ (by assumption); walk_at "hp") | (refine upd_other ?_ ?_; · walk_at "ne"; · walk_at "hp"))
local macro_rules | `(tactic| walk_at "hl") => `(tactic| first | assumption | exact SqL.of (by walk_at "hp"))
local macro_rules | `(tactic| walk_at "ht") => `(tactic| first | assumption | exact SqT.of (by walk_at "hp"))
local macro_rules | `(tactic| walk_at "rd1") => `(tactic| first
  | ((with_reducible apply rd_var); exact rfl)
  | ((with_reducible apply rd_eq); exact rfl) | ((with_reducible apply rd_ne); exact rfl)
  | with_reducible first
  | refine iteT ?_ | refine iteF ?_ | refine rd_nF ?_ | refine rd_nT ?_ | refine rd_yes ?_ | refine rd_c ?_ | refine rd_op ?_ | refine rd_un ?_ | refine rd_test ?_ | refine rd_B ?_ | refine rd_bl ?_ | refine rd_seq ?_ | refine rd_next ?_ | refine rd_ifs ?_ | refine rd_asg ?_ | refine rd_name ?_ | refine rd_ret ?_ | refine rd_drop ?_
  | refine rd_call ?_ | refine rd_cons ?_ | refine rd_nil ?_ | refine rd_cb ?_ | refine rd_I0 ?_ | refine rd_U ?_ | refine rd_gsub ?_ | refine rd_lst ?_ | refine rd_tup ?_ | refine rd_if ?_ | refine rd_not ?_ | refine rd_rng1 ?_ | refine rd_itup ?_ | refine rd_ilst ?_ | refine rd_bm ?_ | refine rd_bm0 ?_ | refine rd_andV ?_ | refine rd_orV ?_ | refine rd_notV ?_)
local macro_rules | `(tactic| walk_at "rd") => `(tactic| repeat walk_at "rd1")
local macro_rules | `(tactic| walk_at "ci") => `(tactic| first | assumption | (show (0 : Int) < _; first | decide | omega) | exact ⟨by decide, by decide⟩ | exact Or.inr ⟨by decide, by decide⟩ | exact Or.inl ⟨by decide, by decide⟩ | exact ⟨by decide, by decide, by decide⟩ | exact Or.inl ⟨by omega, by omega⟩ | exact Or.inr ⟨by omega, by omega⟩)
local macro_rules | `(tactic| walk_at "ix") => `(tactic| first
  | ((with_reducible apply rd_ixL); (walk_at "hl"); exact rfl)
  | ((with_reducible apply rd_ixT); (walk_at "ht"); exact rfl)
  | ((with_reducible apply rd_lenL); (walk_at "hl"))
  | ((with_reducible apply rd_lenT); (walk_at "ht"))
  | ((with_reducible apply rd_tupOf); (walk_at "hl"))
  | ((with_reducible apply rd_listOf); (walk_at "hl"))
  | (with_reducible refine rd_min2 ?_)
  | ((with_reducible apply rd_I); (walk_at "ci"))
  | ((with_reducible apply rd_setL); (walk_at "hp"); exact rfl))
local macro_rules | `(tactic| walk_at "gs") => `(tactic| repeat first | walk_at "rd1" | walk_at "ix")
local macro_rules | `(tactic| walk_at "go") => `(tactic| repeat first | walk_at "rd1" | walk_at "ix" | with_reducible refine rd_and ?_ | with_reducible refine rd_or ?_)
local macro_rules | `(tactic| walk_at "fo") => `(tactic| (with_reducible refine rd_for ?_))
local macro_rules | `(tactic| walk_at "pm") => `(tactic| repeat first
  | with_reducible first | refine rd_pcons ?_ | refine rd_pstr ?_ | refine rd_pcap ?_ | refine rd_pwild ?_ | refine rd_pnil ?_ | refine rd_por ?_ | refine rd_pno ?_
  | ((with_reducible refine rd_eq rfl ?_); refine ⟨_, rfl, ?_⟩; first | refine rd_T rfl ?_ | refine rd_F (by decide) ?_)
  | dsimp only [List.nil_append, List.singleton_append, List.cons_append, setAll])
local macro_rules | `(tactic| walk_at "pc") => `(tactic| (refine rd_case ?_); (first | (refine rd_phit (SqT.of (by assumption)) rfl ?_) | (refine rd_pmiss (SqT.of (by assumption)) (by simp) ?_)); (walk_at "pm"))

def spMaker (K : PySem.W.Frag) (ns : List Int) : Sp := fun vs H Q _ => ∃ (a sc : Addr) (rows : Bool), vs = [.ref a, .bl rows] ∧ StAt K ns H a sc ∧
  ∀ (p : Addr) (m : Mkr) (H' : Hp), m.ok → (rows = true → m.isRow) → MkAt H' p m → StAt K ns H' a sc → Fr [a] H H' → Q (.ref p) H'
section
variable {P : Program} {w : World} {K : PySem.W.Frag} {mg : Str → Option Value} {base : Heap}
theorem sc__law_maker : FnScope ["_law_state", "_law_rows", "_law_many", "_law_few", "_law_k"] ["_law_state", "_law_rows"] (defScope s__law_maker) := ⟨rfl, rfl, rfl, by decide +kernel, rfl, by decide +kernel, by decide +kernel⟩
theorem ok_law_maker {f : Addr} {fd : FuncData} {ns : List Int} (T : Txt K mg) (F : FnP K "_law_maker" "_law_maker" s__law_maker f fd)
    (G__law_drawn : Cal P w K mg base CX0 1 "_law_drawn" ["_law_state", "_law_many"] (spDrawn K ns)) (G__law_number : Cal P w K mg base CX0 2 "_law_number" ["_law_state"] (spNumber K ns)) :
    FnOk P w K mg base CX0 3 f fd ["_law_state", "_law_rows"] (spMaker K ns) := by
  refine ok0 F sc__law_maker (fun vs H Q E h => ?_) (fun cdv A outer s H vs Q E hr h => ?_)
  · obtain ⟨a, sc, rows, rfl, _⟩ := h
    rfl
  · obtain ⟨a, sc, rows, rfl, S, k⟩ := h
    refine ⟨_, (pss_cons (ps_if (PW.pt (pw_and (pt_not (pt_val (pv 1))) (pw_and1 (pt_cmpR op_eq (pe_cal G__law_drawn (hr.mono (by omega)) pass0 (pa_cons (pv 0) (pa_cons pe_int pa_nil))) pe_int (nomark _)))))
    (pss_one (ps_ret (pe_tup (pa_cons pe_str (pa_cons (pe_cal G__law_number (hr.mono (by omega)) pass0 (pa_cons (pv 0) pa_nil)) (pa_cons (pe_ix (ix_listK K) (pe_lst (pa_cons pe_int (pa_cons pe_int (pa_cons pe_int (pa_cons pe_int (pa_cons (pe_op op_sub pe_int pe_int) (pa_cons (pe_cal G__law_number (hr.mono (by omega)) pass0 (pa_cons (pv 0) pa_nil)) pa_nil))))))) (pe_cal G__law_drawn (hr.mono (by omega)) pass0 (pa_cons (pv 0) (pa_cons pe_int pa_nil))) (fun _ _ => rfl)) pa_nil)))))) pss_nil)
  (pss_cons (ps_set (i := 2) sc__law_maker.nd rfl (Or.inl rfl) (pe_cal G__law_drawn (hr.mono (by omega)) pass0 (pa_cons (pv 0) (pa_cons (pe_ix (ix_listK K) (pe_lst (pa_cons pe_int (pa_cons pe_int (pa_cons pe_int pa_nil)))) (pe_cal G__law_drawn (hr.mono (by omega)) pass0 (pa_cons (pv 0) (pa_cons pe_int pa_nil))) (fun _ _ => rfl)) pa_nil))))
  (pss_cons (ps_set (i := 3) sc__law_maker.nd rfl (Or.inr rfl) (pe_cal G__law_drawn (hr.mono (by omega)) pass0 (pa_cons (pv 0) (pa_cons pe_int pa_nil))))
  (pss_one (ps_ret (pe_tup (pa_cons pe_str (pa_cons (pe_callTy (call_tupOfK K) (by rfl) T.free_tuple (by decide +kernel) (pa_cons (pe_lc (own := [("_law_k", 4)]) (g := gName 4) rfl sc__law_maker.nd (pi_range1 (by rfl) T.free_range (pa_cons (pv 2) pa_nil)) (blkOk_by (N := ["_law_state", "_law_rows", "_law_many", "_law_few", "_law_k"]) (sc := defScope s__law_maker) (by decide +kernel)) (fun _ _ _ _ _ => pg_name (i := 4) sc__law_maker.nd rfl (Or.inl rfl)) (fun _ _ _ _ _ => pts_nil) (fun _ _ _ _ _ => (pe_ix (ix_listK K) (pe_lst (pa_cons (pe_cal G__law_drawn (hr.mono (by omega)) pass0 (pa_cons (pv 0) (pa_cons pe_int pa_nil))) (pa_cons (pe_cal G__law_number (hr.mono (by omega)) pass0 (pa_cons (pv 0) pa_nil)) (pa_cons (pv 4) pa_nil)))) (pv 3) (fun _ _ => rfl)))) pa_nil)) pa_nil)))))))), ?_⟩
    try dsimp only [cxOf, Cx.nox, Cx.wish]
    refine rd_at (σ' := [some (.ref a), some (.bl rows), none, none, none]) rfl ?_
    walk_at "go"
    cases rows with
    | false =>
      walk_at "go"
      refine ⟨a, sc, 2, rfl, S, by decide, by decide, fun r H1 r0 r1 S1 f1 => ?_⟩
      walk_at "go"
      refine rd_dec (fun c => ?_) (fun c => ?_)
      · -- a count
        walk_at "go"
        refine ⟨a, sc, rfl, S1, fun n1 H2 n10 n11 S2 f2 => ?_⟩
        walk_at "go"
        refine ⟨a, sc, rfl, S2, fun n2 H3 n20 n21 S3 f3 => ?_⟩
        walk_at "go"
        refine ⟨by show 6 ≤ sizeLine; decide, fun p hp => ?_⟩
        obtain ⟨S4, np⟩ := st_new (o := .lst [.int 0, .int 1, .int 1, .int 2, .int (0 - 1), .int n2]) S3 hp
        walk_at "go"
        refine ⟨a, sc, 6, rfl, S4, by decide, by decide, fun r2 H5 a0 a1 S5 f5 => ?_⟩
        walk_at "go"
        have hp5 := f5.at upd_same (by simpa using np.symm)
        obtain ⟨v, hv, ev⟩ := at_in (xs := [V.int 0, .int 1, .int 1, .int 2, .int (0 - 1), .int n2]) (i := r2) a0 a1
        refine rd_ixL (SqL.of hp5) ev ?_
        obtain ⟨st, rfl, hst⟩ : ∃ st : Int, v = .int st ∧ numOk st := by
          simp only [List.mem_cons, List.not_mem_nil, or_false] at hv
          unfold numOk
          rcases hv with rfl | rfl | rfl | rfl | rfl | rfl
          all_goals exact ⟨_, rfl, by omega, by omega⟩
        walk_at "go"
        refine ⟨by show 3 ≤ sizeLine; decide, fun q hq => ?_⟩
        have fr : Fr [a] H (upd H5 q (.tup [.str "count", .int n1, .int st])) := ((f1.tr f2).tr (f3.tr ((Fr.new hp).tr f5))).newN hq
        exact k q (.count n1 st) _ ⟨by unfold numOk; omega, hst⟩ (fun z => by cases z) upd_same (st_new S5 hq).1 fr
      · walk_at "go"
        refine ⟨by show 3 ≤ sizeLine; decide, fun p hp => ?_⟩
        obtain ⟨S2, np⟩ := st_new (o := .lst [.int 4, .int 12, .int 101]) S1 hp
        walk_at "go"
        refine ⟨a, sc, 3, rfl, S2, by decide, by decide, fun r2 H3 a0 a1 S3 f3 => ?_⟩
        walk_at "go"
        have hp3 := f3.at upd_same (by simpa using np.symm)
        obtain ⟨v, hv, ev⟩ := at_in (xs := [V.int 4, .int 12, .int 101]) (i := r2) a0 a1
        refine rd_ixL (SqL.of hp3) ev ?_
        obtain ⟨mx, rfl, m0, m1⟩ : ∃ mx : Int, v = .int mx ∧ 0 < mx ∧ mx ≤ 101 := by
          simp only [List.mem_cons, List.not_mem_nil, or_false] at hv
          rcases hv with rfl | rfl | rfl
          all_goals exact ⟨_, rfl, by omega, by omega⟩
        walk_at "go"
        refine ⟨a, sc, mx, rfl, S3, m0, Nat.lt_of_le_of_lt (show mx.natAbs ≤ 101 by omega) (by decide), fun many H4 b0 b1 S4 f4 => ?_⟩
        walk_at "go"
        refine ⟨a, sc, 3, rfl, S4, by decide, by decide, fun few H5 c0 c1 S5 f5 => ?_⟩
        walk_at "go"
        refine ⟨_, rfl, many, rfl, by omega, by omega, fun D hD => ?_⟩
        have f05 : Fr [a] H H5 := (f1.tr ((Fr.new hp).tr f3)).tr (f4.tr f5)
        refine lc_range (lo := 0) (n := many.toNat) (fun i H6 => ∃ acc : List Int, H6 D = some (.lst (acc.map V.int)) ∧ acc.length = i ∧ (∀ n ∈ acc, numOk n) ∧ StAt K ns H6 a sc ∧ Fr [a] H5 H6) ⟨[], upd_same, rfl, (fun _ z => by cases z), (st_new S5 hD).1, Fr.new hD⟩ ?_ ?_
        · rintro i H6 hi ⟨acc, g1, g2, g3, S6, f6⟩
          walk_at "go"
          refine ⟨rfl, ?_⟩
          have nD : D ∉ [a] := by
            obtain ⟨⟨_, _, _, z, _⟩, _⟩ := S5
            have := ne_of_none z hD
            simpa using this.symm
          walk_at "go"
          refine ⟨a, sc, 3, rfl, S6, by decide, by decide, fun x1 H7 x10 x11 S7 f7 => ?_⟩
          walk_at "go"
          refine ⟨a, sc, rfl, S7, fun x2 H8 x20 x21 S8 f8 => ?_⟩
          walk_at "go"
          refine ⟨by show 3 ≤ sizeLine; decide, fun q hq => ?_⟩
          walk_at "go"
          obtain ⟨v, hv, ev⟩ := at_in (xs := [V.int x1, .int x2, .int (0 + (i : Int))]) (i := few) c0 c1
          refine rd_ixL (SqL.of upd_same) ev ?_
          obtain ⟨z, rfl, hz⟩ : ∃ z : Int, v = .int z ∧ numOk z := by
            simp only [List.mem_cons, List.not_mem_nil, or_false] at hv
            unfold numOk
            rcases hv with rfl | rfl | rfl
            all_goals exact ⟨_, rfl, by omega, by omega⟩
          have gD : H8 D = some (.lst (acc.map V.int)) := f8.at (f7.at g1 nD) nD
          refine ⟨_, upd_keep gD hq, by rw [List.length_map]; exact small1000 (by omega), acc ++ [z], ?_, ?_, ?_, ?_, ?_⟩
          · rw [upd_same]; simp
          · simp [g2]
          · intro n hn
            rcases List.mem_append.mp hn with h | h
            · exact g3 n h
            · simp at h; rw [h]; exact hz
          · exact ((st_new S8 hq).1).fr (Fr.put (S := [D]) List.mem_cons_self (nt (upd_keep gD hq))) (by simp at nD; simpa using fun e => nD e.symm)
          · exact (((f6.tr f7).tr f8).newN hq).putN (.inr hD) (nt (upd_keep gD hq))
        · rintro H6 ⟨acc, g1, g2, g3, S6, f6⟩
          walk_at "go"
          intro r hr
          walk_at "go"
          refine ⟨by show 2 ≤ sizeLine; decide, fun q hq => ?_⟩
          refine k q (.row acc) _ ⟨by omega, g3⟩ (fun _ => trivial) ⟨r, upd_same, upd_keep upd_same hq⟩ (st_new (st_new S6 hr).1 hq).1 (((f05.tr f6).newN hr).newN hq)
    | true =>
      have S1 := S
      have f1 := Fr.refl [a] H
      walk_at "go"
      refine ⟨by show 3 ≤ sizeLine; decide, fun p hp => ?_⟩
      obtain ⟨S2, np⟩ := st_new (o := .lst [.int 4, .int 12, .int 101]) S1 hp
      walk_at "go"
      refine ⟨a, sc, 3, rfl, S2, by decide, by decide, fun r2 H3 a0 a1 S3 f3 => ?_⟩
      walk_at "go"
      have hp3 := f3.at upd_same (by simpa using np.symm)
      obtain ⟨v, hv, ev⟩ := at_in (xs := [V.int 4, .int 12, .int 101]) (i := r2) a0 a1
      refine rd_ixL (SqL.of hp3) ev ?_
      obtain ⟨mx, rfl, m0, m1⟩ : ∃ mx : Int, v = .int mx ∧ 0 < mx ∧ mx ≤ 101 := by
        simp only [List.mem_cons, List.not_mem_nil, or_false] at hv
        rcases hv with rfl | rfl | rfl
        all_goals exact ⟨_, rfl, by omega, by omega⟩
      walk_at "go"
      refine ⟨a, sc, mx, rfl, S3, m0, Nat.lt_of_le_of_lt (show mx.natAbs ≤ 101 by omega) (by decide), fun many H4 b0 b1 S4 f4 => ?_⟩
      walk_at "go"
      refine ⟨a, sc, 3, rfl, S4, by decide, by decide, fun few H5 c0 c1 S5 f5 => ?_⟩
      walk_at "go"
      refine ⟨_, rfl, many, rfl, by omega, by omega, fun D hD => ?_⟩
      have f05 : Fr [a] H H5 := (f1.tr ((Fr.new hp).tr f3)).tr (f4.tr f5)
      refine lc_range (lo := 0) (n := many.toNat) (fun i H6 => ∃ acc : List Int, H6 D = some (.lst (acc.map V.int)) ∧ acc.length = i ∧ (∀ n ∈ acc, numOk n) ∧ StAt K ns H6 a sc ∧ Fr [a] H5 H6) ⟨[], upd_same, rfl, (fun _ z => by cases z), (st_new S5 hD).1, Fr.new hD⟩ ?_ ?_
      · rintro i H6 hi ⟨acc, g1, g2, g3, S6, f6⟩
        walk_at "go"
        refine ⟨rfl, ?_⟩
        have nD : D ∉ [a] := by
          obtain ⟨⟨_, _, _, z, _⟩, _⟩ := S5
          have := ne_of_none z hD
          simpa using this.symm
        walk_at "go"
        refine ⟨a, sc, 3, rfl, S6, by decide, by decide, fun x1 H7 x10 x11 S7 f7 => ?_⟩
        walk_at "go"
        refine ⟨a, sc, rfl, S7, fun x2 H8 x20 x21 S8 f8 => ?_⟩
        walk_at "go"
        refine ⟨by show 3 ≤ sizeLine; decide, fun q hq => ?_⟩
        walk_at "go"
        obtain ⟨v, hv, ev⟩ := at_in (xs := [V.int x1, .int x2, .int (0 + (i : Int))]) (i := few) c0 c1
        refine rd_ixL (SqL.of upd_same) ev ?_
        obtain ⟨z, rfl, hz⟩ : ∃ z : Int, v = .int z ∧ numOk z := by
          simp only [List.mem_cons, List.not_mem_nil, or_false] at hv
          unfold numOk
          rcases hv with rfl | rfl | rfl
          all_goals exact ⟨_, rfl, by omega, by omega⟩
        have gD : H8 D = some (.lst (acc.map V.int)) := f8.at (f7.at g1 nD) nD
        refine ⟨_, upd_keep gD hq, by rw [List.length_map]; exact small1000 (by omega), acc ++ [z], ?_, ?_, ?_, ?_, ?_⟩
        · rw [upd_same]; simp
        · simp [g2]
        · intro n hn
          rcases List.mem_append.mp hn with h | h
          · exact g3 n h
          · simp at h; rw [h]; exact hz
        · exact ((st_new S8 hq).1).fr (Fr.put (S := [D]) List.mem_cons_self (nt (upd_keep gD hq))) (by simp at nD; simpa using fun e => nD e.symm)
        · exact (((f6.tr f7).tr f8).newN hq).putN (.inr hD) (nt (upd_keep gD hq))
      · rintro H6 ⟨acc, g1, g2, g3, S6, f6⟩
        walk_at "go"
        intro r hr
        walk_at "go"
        refine ⟨by show 2 ≤ sizeLine; decide, fun q hq => ?_⟩
        refine k q (.row acc) _ ⟨by omega, g3⟩ (fun _ => trivial) ⟨r, upd_same, upd_keep upd_same hq⟩ (st_new (st_new S6 hr).1 hq).1 (((f05.tr f6).newN hr).newN hq)
end
end Dc

set_option Elab.async false
set_option linter.all false
set_option maxRecDepth 100000
set_option maxHeartbeats 4000000
namespace Dc
open PySem PySem.Spec PyProof.Rows L2
local macro_rules | `(tactic| walk_at "ne") => `(tactic| first | assumption | (refine Ne.symm ?_; assumption) | exact ne_of (by assumption) (by assumption) (by intro q; cases q) | exact ne_of_none (by assumption) (by assumption) | exact Ne.symm (ne_of_none (by assumption) (by assumption)))
local macro_rules | `(tactic| walk_at "hp") => `(tactic| first | assumption | exact upd_same | (refine upd_keep ?_ (by assumption); walk_at "hp") | (refine upd_other ?_ ?_; · walk_at "ne"; · walk_at "hp"))
local macro_rules | `(tactic| walk_at "hl") => `(tactic| first | assumption | exact SqL.of (by walk_at "hp"))
local macro_rules | `(tactic| walk_at "ht") => `(tactic| first | assumption | exact SqT.of (by walk_at "hp"))
local macro_rules | `(tactic| walk_at "rd1") => `(tactic| first
  | ((with_reducible apply rd_var); exact rfl)
  | ((with_reducible apply rd_eq); exact rfl) | ((with_reducible apply rd_ne); exact rfl)
  | with_reducible first
  | refine iteT ?_ | refine iteF ?_ | refine rd_nF ?_ | refine rd_nT ?_ | refine rd_yes ?_ | refine rd_c ?_ | refine rd_op ?_ | refine rd_un ?_ | refine rd_test ?_ | refine rd_B ?_ | refine rd_bl ?_ | refine rd_seq ?_ | refine rd_next ?_ | refine rd_ifs ?_ | refine rd_asg ?_ | refine rd_name ?_ | refine rd_ret ?_ | refine rd_drop ?_
  | refine rd_call ?_ | refine rd_cons ?_ | refine rd_nil ?_ | refine rd_cb ?_ | refine rd_I0 ?_ | refine rd_U ?_ | refine rd_gsub ?_ | refine rd_lst ?_ | refine rd_tup ?_ | refine rd_if ?_ | refine rd_not ?_ | refine rd_rng1 ?_ | refine rd_itup ?_ | refine rd_ilst ?_ | refine rd_bm ?_ | refine rd_bm0 ?_ | refine rd_andV ?_ | refine rd_orV ?_ | refine rd_notV ?_)
local macro_rules | `(tactic| walk_at "rd") => `(tactic| repeat walk_at "rd1")
local macro_rules | `(tactic| walk_at "ci") => `(tactic| first | assumption | (show (0 : Int) < _; first | decide | omega) | exact ⟨by decide, by decide⟩ | exact Or.inr ⟨by decide, by decide⟩ | exact Or.inl ⟨by decide, by decide⟩ | exact ⟨by decide, by decide, by decide⟩ | exact Or.inl ⟨by omega, by omega⟩ | exact Or.inr ⟨by omega, by omega⟩)
local macro_rules | `(tactic| walk_at "ix") => `(tactic| first
  | ((with_reducible apply rd_ixL); (walk_at "hl"); exact rfl)
  | ((with_reducible apply rd_ixT); (walk_at "ht"); exact rfl)
  | ((with_reducible apply rd_lenL); (walk_at "hl"))
  | ((with_reducible apply rd_lenT); (walk_at "ht"))
  | ((with_reducible apply rd_tupOf); (walk_at "hl"))
  | ((with_reducible apply rd_listOf); (walk_at "hl"))
  | (with_reducible refine rd_min2 ?_)
  | ((with_reducible apply rd_I); (walk_at "ci"))
  | ((with_reducible apply rd_setL); (walk_at "hp"); exact rfl))
local macro_rules | `(tactic| walk_at "gs") => `(tactic| repeat first | walk_at "rd1" | walk_at "ix")
local macro_rules | `(tactic| walk_at "go") => `(tactic| repeat first | walk_at "rd1" | walk_at "ix" | with_reducible refine rd_and ?_ | with_reducible refine rd_or ?_)
local macro_rules | `(tactic| walk_at "fo") => `(tactic| (with_reducible refine rd_for ?_))
local macro_rules | `(tactic| walk_at "pm") => `(tactic| repeat first
  | with_reducible first | refine rd_pcons ?_ | refine rd_pstr ?_ | refine rd_pcap ?_ | refine rd_pwild ?_ | refine rd_pnil ?_ | refine rd_por ?_ | refine rd_pno ?_
  | ((with_reducible refine rd_eq rfl ?_); refine ⟨_, rfl, ?_⟩; first | refine rd_T rfl ?_ | refine rd_F (by decide) ?_)
  | dsimp only [List.nil_append, List.singleton_append, List.cons_append, setAll])
local macro_rules | `(tactic| walk_at "pc") => `(tactic| (refine rd_case ?_); (first | (refine rd_phit (SqT.of (by assumption)) rfl ?_) | (refine rd_pmiss (SqT.of (by assumption)) (by simp) ?_)); (walk_at "pm"))

def RoomAt (H : Hp) (r : Addr) (m s t : Int) : Prop := H r = some (.lst [.int m, .int s, .int t]) ∧ 1 ≤ t ∧ t ≤ 60
theorem room_ne {K : PySem.W.Frag} {ns : List Int} {H : Hp} {a sc r : Addr} {m s t : Int} (S : StAt K ns H a sc) (h : RoomAt H r m s t) : r ≠ a := by
  obtain ⟨⟨b, x, l, h1, _⟩, _⟩ := S
  exact ne_of h.1 h1 (by intro q; cases q)
theorem RoomAt.fr {H H' : Hp} {r : Addr} {m s t : Int} {S : List Addr} (h : RoomAt H r m s t) (f : Fr S H H') (n : r ∉ S) : RoomAt H' r m s t := ⟨f.at h.1 n, h.2⟩
def spChain (K : PySem.W.Frag) (ns : List Int) (n : Nat) : Sp := fun vs H Q _ => ∃ (a sc r : Addr) (rows : Bool) (m s t : Int), vs = [.ref a, .ref r, .bl rows] ∧ StAt K ns H a sc ∧ RoomAt H r m s t ∧ 1 ≤ m ∧ m ≤ n ∧ 0 ≤ s ∧
  ∀ (p : Addr) (c : Ch) (t' : Int) (H' : Hp), ChAt H' p c → c.ok → (rows = true → c.rows) → (c.nm : Int) ≤ m → (c.ns : Int) ≤ s → RoomAt H' r (m - c.nm) (s - c.ns) t' → StAt K ns H' a sc → Fr [a, r] H H' → Q (.ref p) H'
def spStage (K : PySem.W.Frag) (ns : List Int) (n : Nat) : Sp := fun vs H Q _ => ∃ (a sc r : Addr) (rows : Bool) (m s t : Int), vs = [.ref a, .ref r, .bl rows] ∧ StAt K ns H a sc ∧ RoomAt H r m s t ∧ 0 ≤ m ∧ m ≤ n ∧ 0 ≤ s ∧
  ∀ (x : Addr) (g : Sg) (t' : Int) (H' : Hp), SgAt H' x g → g.ok → (rows = true → g.rows) → (g.nm : Int) ≤ m → (g.ns : Int) ≤ s → RoomAt H' r (m - g.nm) (s - g.ns) t' → StAt K ns H' a sc → Fr [a, r] H H' → Q (.ref x) H'
section
variable {P : Program} {w : World} {K : PySem.W.Frag} {mg : Str → Option Value} {base : Heap}
theorem sc__law_stage : FnScope ["_law_state", "_law_room", "_law_rows", "_law_way", "_law_many", "_law_wheel", "_law_some", "_law_stage_here"] ["_law_state", "_law_room", "_law_rows"] (defScope s__law_stage) := ⟨rfl, rfl, rfl, by decide +kernel, rfl, by decide +kernel, by decide +kernel⟩
theorem ok_law_stage {f : Addr} {fd : FuncData} {ns : List Int} {n k : Nat} (T : Txt K mg) (F : FnP K "_law_stage" "_law_stage" s__law_stage f fd)
    (G__law_drawn : Cal P w K mg base CX0 1 "_law_drawn" ["_law_state", "_law_many"] (spDrawn K ns)) (G__law_number : Cal P w K mg base CX0 2 "_law_number" ["_law_state"] (spNumber K ns))
    (G__law_chain : Cal P w K mg base CX0 (k + 2) "_law_chain" ["_law_state", "_law_room", "_law_rows"] (spChain K ns n)) :
    FnOk P w K mg base CX0 (k + 3) f fd ["_law_state", "_law_room", "_law_rows"] (spStage K ns n) := by
  refine ok0 F sc__law_stage (fun vs H Q E h => ?_) (fun cdv A outer s H vs Q E hr h => ?_)
  · obtain ⟨a, sc, r, rows, m, s, t, rfl, _⟩ := h
    rfl
  · obtain ⟨a, sc, r, rows, m, s, t, rfl, S, R, m0, m1, s0, k⟩ := h
    refine ⟨_, (pss_cons (ps_set (i := 3) sc__law_stage.nd rfl (Or.inl rfl) (pe_cal G__law_drawn (hr.mono (by omega)) pass0 (pa_cons (pv 0) (pa_cons pe_int pa_nil))))
  (pss_cons (ps_if (PW.pt (pw_and (pt_cmpR op_gt (pv 3) pe_int (nomark _)) (pw_and1 (pt_cmpR op_gt (pe_ix (ix_listK K) (pv 1) pe_int (fun _ _ => rfl)) pe_int (nomark _)))))
    (pss_one (ps_ret (pe_tup (pa_cons (pe_ix (ix_listK K) (pe_lst (pa_cons pe_str (pa_cons pe_str pa_nil))) (pe_op op_mod (pv 3) pe_int) (fun _ _ => rfl)) (pa_cons (pe_cal G__law_chain (hr.mono (by omega)) pass0 (pa_cons (pv 0) (pa_cons (pv 1) (pa_cons (pv 2) pa_nil)))) pa_nil))))) pss_nil)
  (pss_cons (ps_set (i := 4) sc__law_stage.nd rfl (Or.inl rfl) (pe_ix (ix_listK K) (pe_lst (pa_cons (pe_cal G__law_drawn (hr.mono (by omega)) pass0 (pa_cons (pv 0) (pa_cons pe_int pa_nil))) (pa_cons (pe_cal G__law_drawn (hr.mono (by omega)) pass0 (pa_cons (pv 0) (pa_cons pe_int pa_nil))) (pa_cons (pe_cal G__law_drawn (hr.mono (by omega)) pass0 (pa_cons (pv 0) (pa_cons pe_int pa_nil))) pa_nil)))) (pe_cal G__law_drawn (hr.mono (by omega)) pass0 (pa_cons (pv 0) (pa_cons pe_int pa_nil))) (fun _ _ => rfl)))
  (pss_cons (ps_set (i := 5) sc__law_stage.nd rfl (Or.inl rfl) (pe_op op_add pe_int (pe_cal G__law_drawn (hr.mono (by omega)) pass0 (pa_cons (pv 0) (pa_cons (pe_ix (ix_listK K) (pe_lst (pa_cons pe_int (pa_cons pe_int pa_nil))) (pe_op op_fdiv (pe_cal G__law_drawn (hr.mono (by omega)) pass0 (pa_cons (pv 0) (pa_cons pe_int pa_nil))) pe_int) (fun _ _ => rfl)) pa_nil)))))
  (pss_cons (ps_set (i := 6) sc__law_stage.nd rfl (Or.inl rfl) (pe_lst (pa_cons (pe_tup (pa_cons pe_str (pa_cons (pe_cal G__law_number (hr.mono (by omega)) pass0 (pa_cons (pv 0) pa_nil)) pa_nil))) (pa_cons (pe_tup (pa_cons pe_str (pa_cons (pe_op op_sub (pe_cal G__law_drawn (hr.mono (by omega)) pass0 (pa_cons (pv 0) (pa_cons pe_int pa_nil))) pe_int) pa_nil))) (pa_cons (pe_tup (pa_cons pe_str (pa_cons (pe_cal G__law_drawn (hr.mono (by omega)) pass0 (pa_cons (pv 0) (pa_cons (pv 5) pa_nil))) (pa_cons (pv 5) pa_nil)))) pa_nil)))))
  (pss_cons (ps_set (i := 6) sc__law_stage.nd rfl (Or.inl rfl) (pe_op op_cat (pv 6) (pe_lst (pa_cons (pe_tup (pa_cons pe_str (pa_cons (pv 4) pa_nil))) (pa_cons (pe_tup (pa_cons pe_str (pa_cons (pv 4) pa_nil))) (pa_cons (pe_tup (pa_cons pe_str (pa_cons (pe_op op_add pe_int (pe_cal G__law_drawn (hr.mono (by omega)) pass0 (pa_cons (pv 0) (pa_cons (pe_ix (ix_listK K) (pe_lst (pa_cons pe_int (pa_cons pe_int pa_nil))) (pe_cal G__law_drawn (hr.mono (by omega)) pass0 (pa_cons (pv 0) (pa_cons pe_int pa_nil))) (fun _ _ => rfl)) pa_nil)))) pa_nil))) pa_nil))))))
  (pss_cons (ps_set (i := 7) sc__law_stage.nd rfl (Or.inl rfl) (pe_ix (ix_listK K) (pe_op op_cat (pv 6) (pe_lst (pa_cons (pe_tup (pa_cons pe_str (pa_cons (pe_cal G__law_number (hr.mono (by omega)) pass0 (pa_cons (pv 0) pa_nil)) pa_nil))) (pa_cons (pe_tup (pa_cons pe_str pa_nil)) (pa_cons (pe_tup (pa_cons pe_str (pa_cons pe_int pa_nil))) pa_nil))))) (pe_op op_mod (pv 3) pe_int) (fun _ _ => rfl)))
  (pss_cons (ps_if (pt_cmpR op_eq (pe_ix (ix_tupK K) (pv 7) pe_int (fun _ _ => rfl)) pe_str (nomark _))
    (pss_cons (ps_set (i := 7) sc__law_stage.nd rfl (Or.inl rfl) (pe_tup (pa_cons pe_str (pa_cons (pe_ifExp (pt_cmpR op_lt (pe_op op_mul (pe_ix (ix_listK K) (pv 1) pe_int (fun _ _ => rfl)) (pe_ix (ix_tupK K) (pv 7) pe_int (fun _ _ => rfl))) pe_int (nomark _)) (pe_ix (ix_tupK K) (pv 7) pe_int (fun _ _ => rfl)) pe_int) pa_nil))))
    (pss_one (ps_asg (pe_op op_mul (pe_ix (ix_listK K) (pv 1) pe_int (fun _ _ => rfl)) (pe_ix (ix_tupK K) (pv 7) pe_int (fun _ _ => rfl))) (pg_sub (pv 1) pe_int set_list)))) pss_nil)
  (pss_one (ps_ret (pv 7))))))))))), ?_⟩
    try dsimp only [cxOf, Cx.nox, Cx.wish]
    refine rd_at (σ' := [some (.ref a), some (.ref r), some (.bl rows), none, none, none, none, none]) rfl ?_
    have nra := room_ne S R
    walk_at "go"
    refine ⟨a, sc, 12, rfl, S, by decide, by decide, fun way H1 w0 w1 S1 f1 => ?_⟩
    have R1 := R.fr f1 (by simpa using nra)
    have r1 := R1.1
    walk_at "gs"
    refine rd_and_pure (b1 := decide (8 < way)) (b2 := decide (0 < m)) (fun Q q => ?_) (fun Q q => ?_) ?_
    · walk_at "go"; exact q
    · walk_at "go"; exact q
    refine rd_b2 (fun c1 c2 => ?_) (fun c => ?_)
    · have c2 : 0 < m := of_decide_eq_true c2
      walk_at "go"
      refine ⟨by show 2 ≤ sizeLine; decide, fun p hp => ?_⟩
      obtain ⟨S2, np⟩ := st_new (o := .lst [.str "both", .str "then"]) S1 hp
      have R2 : RoomAt (upd H1 p (.lst [.str "both", .str "then"])) r m s t := ⟨upd_keep r1 hp, R1.2⟩
      walk_at "go"
      obtain ⟨v, hv, ev⟩ := at_in (xs := [V.str "both", .str "then"]) (i := way % 2) (by omega) (by show way % 2 < 2; omega)
      refine rd_ixL (SqL.of upd_same) ev ?_
      walk_at "go"
      refine ⟨a, sc, r, rows, m, s, t, rfl, S2, R2, by omega, m1, s0, fun p2 c t' H3 hc cok crow cm cs R3 S3 f3 => ?_⟩
      walk_at "go"
      refine ⟨by show 2 ≤ sizeLine; decide, fun q hq => ?_⟩
      have fr : Fr [a, r] H (upd H3 q (.tup [v, .ref p2])) := (((f1.mono (by simp)).newN hp).tr f3).newN hq
      have hc' := hc.fr (Fr.new (S := []) (o := .tup [v, .ref p2]) hq)
      simp only [List.mem_cons, List.not_mem_nil, or_false] at hv
      rcases hv with rfl | rfl
      · exact k q (.both c) t' _ ⟨p2, upd_same, hc'⟩ cok crow cm cs ⟨upd_keep R3.1 hq, R3.2⟩ (st_new S3 hq).1 fr
      · exact k q (.thn c) t' _ ⟨p2, upd_same, hc'⟩ cok crow cm cs ⟨upd_keep R3.1 hq, R3.2⟩ (st_new S3 hq).1 fr
    · walk_at "go"
      refine ⟨a, sc, 4, rfl, S1, by decide, by decide, fun k1 H2 k10 k11 S2 f2 => ?_⟩
      walk_at "go"
      refine ⟨a, sc, 20, rfl, S2, by decide, by decide, fun k2 H3 k20 k21 S3 f3 => ?_⟩
      walk_at "go"
      refine ⟨a, sc, 101, rfl, S3, by decide, by decide, fun k3 H4 k30 k31 S4 f4 => ?_⟩
      walk_at "go"
      refine ⟨by show 3 ≤ sizeLine; decide, fun p hp => ?_⟩
      obtain ⟨S5, np⟩ := st_new (o := .lst [.int k1, .int k2, .int k3]) S4 hp
      have f15 : Fr [a] H (upd H4 p (.lst [.int k1, .int k2, .int k3])) := (((f1.tr f2).tr f3).tr f4).newN hp
      walk_at "go"
      refine ⟨a, sc, 3, rfl, S5, by decide, by decide, fun k4 H6 k40 k41 S6 f6 => ?_⟩
      walk_at "go"
      obtain ⟨v, hv, ev⟩ := at_in (xs := [V.int k1, .int k2, .int k3]) (i := k4) k40 k41
      refine rd_ixL (SqL.of (f6.at upd_same (by simpa using np.symm))) ev ?_
      obtain ⟨many, rfl, my0, my1⟩ : ∃ z : Int, v = .int z ∧ 0 ≤ z ∧ z ≤ 100 := by
        simp only [List.mem_cons, List.not_mem_nil, or_false] at hv
        rcases hv with rfl | rfl | rfl
        all_goals exact ⟨_, rfl, by omega, by omega⟩
      have f16 := f15.tr f6
      clear f15 f6 S5 ev hv np hp f2 f3 f4 S2 S3 S4
      walk_at "go"
      refine ⟨by show 2 ≤ sizeLine; decide, fun p hp => ?_⟩
      obtain ⟨S7, np⟩ := st_new (o := .lst [.int 3, .int 999]) S6 hp
      have f17 := f16.newN (o := .lst [.int 3, .int 999]) hp
      walk_at "go"
      refine ⟨a, sc, 6, rfl, S7, by decide, by decide, fun k5 H8 k50 k51 S8 f8 => ?_⟩
      walk_at "go"
      obtain ⟨v, hv, ev⟩ := at_in (xs := [V.int 3, .int 999]) (i := k5 / 5) (by omega) (by show k5 / 5 < 2; omega)
      refine rd_ixL (SqL.of (f8.at upd_same (by simpa using np.symm))) ev ?_
      obtain ⟨wm, rfl, wm0, wm1⟩ : ∃ z : Int, v = .int z ∧ 0 < z ∧ z ≤ 999 := by
        simp only [List.mem_cons, List.not_mem_nil, or_false] at hv
        rcases hv with rfl | rfl
        all_goals exact ⟨_, rfl, by omega, by omega⟩
      have f18 := f17.tr f8
      clear f17 f8 S7 ev hv np hp
      walk_at "go"
      refine ⟨a, sc, wm, rfl, S8, wm0, Nat.lt_of_le_of_lt (show wm.natAbs ≤ 999 by omega) (by decide), fun k6 H9 k60 k61 S9 f9 => ?_⟩
      have f19 := f18.tr f9
      obtain ⟨wheel, ew, wh0, wh1⟩ : ∃ wheel : Int, wheel = 2 + k6 ∧ 2 ≤ wheel ∧ wheel ≤ 1000 := ⟨2 + k6, rfl, by omega, by omega⟩
      walk_at "go"
      -- ('add', number), ('times', ..), ('keep', ..)
      refine ⟨a, sc, rfl, S9, fun n1 H10 n10 n11 S10 f10 => ?_⟩
      walk_at "go"
      refine ⟨by show 2 ≤ sizeLine; decide, fun x1 hx1 => ?_⟩
      have S11 := (st_new (o := .tup [.str "add", .int n1]) S10 hx1).1
      have f111 := (f19.tr f10).newN (o := .tup [.str "add", .int n1]) hx1
      have g1 : upd H10 x1 (.tup [.str "add", .int n1]) x1 = some (.tup [.str "add", .int n1]) := upd_same
      clear f10 f19 f9 f18 S10 S9 S8
      generalize upd H10 x1 (.tup [.str "add", .int n1]) = H11 at *
      walk_at "go"
      refine ⟨a, sc, 5, rfl, S11, by decide, by decide, fun k7 H12 k70 k71 S12 f12 => ?_⟩
      walk_at "go"
      refine ⟨by show 2 ≤ sizeLine; decide, fun x2 hx2 => ?_⟩
      have S13 := (st_new (o := .tup [.str "times", .int (k7 - 1)]) S12 hx2).1
      have f112 := f12.newN (o := .tup [.str "times", .int (k7 - 1)]) hx2
      have f113 := f111.tr f112
      have g2 : upd H12 x2 (.tup [.str "times", .int (k7 - 1)]) x2 = some (.tup [.str "times", .int (k7 - 1)]) := upd_same
      replace g1 := f112.tp g1
      clear f12 f111 f112 S11 S12
      generalize upd H12 x2 (.tup [.str "times", .int (k7 - 1)]) = H13 at *
      walk_at "go"
      rw [← ew]
      refine ⟨a, sc, wheel, rfl, S13, by omega, Nat.lt_of_le_of_lt (show wheel.natAbs ≤ 1000 by omega) (by decide), fun k8 H14 k80 k81 S14 f14 => ?_⟩
      walk_at "go"
      refine ⟨by show 3 ≤ sizeLine; decide, fun x3 hx3 => ?_⟩
      try rw [← ew]
      have S15 := (st_new (o := .tup [.str "keep", .int k8, .int wheel]) S14 hx3).1
      have f114 := f14.newN (o := .tup [.str "keep", .int k8, .int wheel]) hx3
      have f115 := f113.tr f114
      have g3 : upd H14 x3 (.tup [.str "keep", .int k8, .int wheel]) x3 = some (.tup [.str "keep", .int k8, .int wheel]) := upd_same
      replace g1 := f114.tp g1
      replace g2 := f114.tp g2
      clear f14 f113 f114 S13 S14
      generalize upd H14 x3 (.tup [.str "keep", .int k8, .int wheel]) = H15 at *
      walk_at "go"
      refine ⟨by show 3 ≤ sizeLine; decide, fun p hp => ?_⟩
      have S16 := (st_new (o := .lst [.ref x1, .ref x2, .ref x3]) S15 hp).1
      have f15 := Fr.new (S := [a]) (o := .lst [.ref x1, .ref x2, .ref x3]) hp
      have f116 := f115.tr f15
      have gp : upd H15 p (.lst [.ref x1, .ref x2, .ref x3]) p = some (.lst [.ref x1, .ref x2, .ref x3]) := upd_same
      replace g1 := f15.tp g1
      replace g2 := f15.tp g2
      replace g3 := f15.tp g3
      clear f15 f115 S15
      generalize upd H15 p (.lst [.ref x1, .ref x2, .ref x3]) = H16 at *
      walk_at "go"
      -- ('drop', many), ('take', many), ('each', ..)
      refine ⟨by show 2 ≤ sizeLine; decide, fun x4 hx4 => ?_⟩
      walk_at "go"
      refine ⟨by show 2 ≤ sizeLine; decide, fun x5 hx5 => ?_⟩
      have g4 : upd (upd H16 x4 (.tup [.str "drop", .int many])) x5 (.tup [.str "take", .int many]) x4 = some (.tup [.str "drop", .int many]) := upd_keep upd_same hx5
      have g5 : upd (upd H16 x4 (.tup [.str "drop", .int many])) x5 (.tup [.str "take", .int many]) x5 = some (.tup [.str "take", .int many]) := upd_same
      have S17 := (st_new (o := .tup [.str "take", .int many]) (st_new (o := .tup [.str "drop", .int many]) S16 hx4).1 hx5).1
      have f16 := (Fr.new (S := [a]) (o := .tup [.str "drop", .int many]) hx4).newN (o := .tup [.str "take", .int many]) hx5
      have f117 := f116.tr f16
      have np16 : p ∉ [a] := by
        obtain ⟨⟨_, _, _, z, _⟩, _⟩ := S16
        have := ne_of gp z (by intro q; cases q)
        simpa using this
      replace g1 := f16.tp g1
      replace g2 := f16.tp g2
      replace g3 := f16.tp g3
      replace gp := f16.at gp np16
      clear f16 f116 S16
      generalize upd (upd H16 x4 (.tup [.str "drop", .int many])) x5 (.tup [.str "take", .int many]) = H17 at *
      walk_at "go"
      refine ⟨by show 2 ≤ sizeLine; decide, fun p2 hp2 => ?_⟩
      obtain ⟨S18, np2⟩ := st_new (o := .lst [.int 3, .int 10]) S17 hp2
      walk_at "go"
      refine ⟨a, sc, 2, rfl, S18, by decide, by decide, fun k9 H19 k90 k91 S19 f19 => ?_⟩
      walk_at "go"
      obtain ⟨v, hv, ev⟩ := at_in (xs := [V.int 3, .int 10]) (i := k9) k90 k91
      refine rd_ixL (SqL.of (f19.at upd_same (by simpa using np2.symm))) ev ?_
      obtain ⟨em, rfl, em0, em1⟩ : ∃ z : Int, v = .int z ∧ 0 < z ∧ z ≤ 10 := by
        simp only [List.mem_cons, List.not_mem_nil, or_false] at hv
        rcases hv with rfl | rfl
        all_goals exact ⟨_, rfl, by omega, by omega⟩
      walk_at "go"
      refine ⟨a, sc, em, rfl, S19, em0, Nat.lt_of_le_of_lt (show em.natAbs ≤ 10 by omega) (by decide), fun k10 H20 k100 k101 S20 f20 => ?_⟩
      walk_at "go"
      refine ⟨by show 2 ≤ sizeLine; decide, fun x6 hx6 => ?_⟩
      have S21 := (st_new (o := .tup [.str "each", .int (1 + k10)]) S20 hx6).1
      have f1721 := (((Fr.new (S := [a]) (o := .lst [.int 3, .int 10]) hp2).tr f19).tr f20).newN (o := .tup [.str "each", .int (1 + k10)]) hx6
      have g6 : upd H20 x6 (.tup [.str "each", .int (1 + k10)]) x6 = some (.tup [.str "each", .int (1 + k10)]) := upd_same
      have f121 := f117.tr f1721
      replace g1 := f1721.tp g1
      replace g2 := f1721.tp g2
      replace g3 := f1721.tp g3
      replace g4 := f1721.tp g4
      replace g5 := f1721.tp g5
      replace gp := f1721.at gp np16
      clear f1721 f20 f19 f117 S17 S18 S19 S20 ev hv
      generalize upd H20 x6 (.tup [.str "each", .int (1 + k10)]) = H21 at *
      walk_at "go"
      refine ⟨by show 3 ≤ sizeLine; decide, fun p3 hp3 => ?_⟩
      have S22 := (st_new (o := .lst [.ref x4, .ref x5, .ref x6]) S21 hp3).1
      refine rd_cat (upd_keep gp hp3) upd_same (by show 6 ≤ sizeLine; decide) fun p4 hp4 => ?_
      have S23 := (st_new (o := .lst [.ref x1, .ref x2, .ref x3, .ref x4, .ref x5, .ref x6]) S22 hp4).1
      have f2123 := (Fr.new (S := [a]) (o := .lst [.ref x4, .ref x5, .ref x6]) hp3).newN (o := .lst [.ref x1, .ref x2, .ref x3, .ref x4, .ref x5, .ref x6]) hp4
      have f123 := f121.tr f2123
      replace g1 := f2123.tp g1
      replace g2 := f2123.tp g2
      replace g3 := f2123.tp g3
      replace g4 := f2123.tp g4
      replace g5 := f2123.tp g5
      replace g6 := f2123.tp g6
      clear gp
      have gp : upd (upd H21 p3 (.lst [.ref x4, .ref x5, .ref x6])) p4 (.lst [.ref x1, .ref x2, .ref x3, .ref x4, .ref x5, .ref x6]) p4 = some (.lst [.ref x1, .ref x2, .ref x3, .ref x4, .ref x5, .ref x6]) := upd_same
      show gName 6 (.ref p4) _ (upd (upd H21 p3 (.lst [.ref x4, .ref x5, .ref x6])) p4 (.lst [.ref x1, .ref x2, .ref x3, .ref x4, .ref x5, .ref x6])) _
      clear f2123 f121 S21 S22
      generalize upd (upd H21 p3 (.lst [.ref x4, .ref x5, .ref x6])) p4 (.lst [.ref x1, .ref x2, .ref x3, .ref x4, .ref x5, .ref x6]) = H23 at *
      walk_at "go"
      -- ('until', number), ('unlike',), ('until', 25)
      refine ⟨a, sc, rfl, S23, fun n2 H24 n20 n21 S24 f24 => ?_⟩
      have np23 : p4 ∉ [a] := by
        obtain ⟨⟨_, _, _, z, _⟩, _⟩ := S23
        have := ne_of gp z (by intro q; cases q)
        simpa using this
      walk_at "go"
      refine ⟨by show 2 ≤ sizeLine; decide, fun x7 hx7 => ?_⟩
      walk_at "go"
      refine ⟨by show 1 ≤ sizeLine; decide, fun x8 hx8 => ?_⟩
      walk_at "go"
      refine ⟨by show 2 ≤ sizeLine; decide, fun x9 hx9 => ?_⟩
      walk_at "go"
      refine ⟨by show 3 ≤ sizeLine; decide, fun p5 hp5 => ?_⟩
      have S25 := (st_new (o := .lst [.ref x7, .ref x8, .ref x9]) (st_new (o := .tup [.str "until", .int 25]) (st_new (o := .tup [.str "unlike"]) (st_new (o := .tup [.str "until", .int n2]) S24 hx7).1 hx8).1 hx9).1 hp5).1
      have f2325 := (((f24.newN (o := .tup [.str "until", .int n2]) hx7).newN (o := .tup [.str "unlike"]) hx8).newN (o := .tup [.str "until", .int 25]) hx9).newN (o := .lst [.ref x7, .ref x8, .ref x9]) hp5
      refine rd_cat (f2325.at gp np23) upd_same (by show 9 ≤ sizeLine; decide) fun p6 hp6 => ?_
      have S26 := (st_new (o := .lst [.ref x1, .ref x2, .ref x3, .ref x4, .ref x5, .ref x6, .ref x7, .ref x8, .ref x9]) S25 hp6).1
      have f2326 := f2325.newN (o := .lst [.ref x1, .ref x2, .ref x3, .ref x4, .ref x5, .ref x6, .ref x7, .ref x8, .ref x9]) hp6
      have f126 := f123.tr f2326
      replace g1 := f2326.tp g1
      replace g2 := f2326.tp g2
      replace g3 := f2326.tp g3
      replace g4 := f2326.tp g4
      replace g5 := f2326.tp g5
      replace g6 := f2326.tp g6
      have g7 := upd_keep (u := .lst [.ref x1, .ref x2, .ref x3, .ref x4, .ref x5, .ref x6, .ref x7, .ref x8, .ref x9]) (upd_keep (u := .lst [.ref x7, .ref x8, .ref x9]) (upd_keep (u := .tup [.str "until", .int 25]) (upd_keep (u := .tup [.str "unlike"]) (upd_same (H := H24) (a := x7) (o := .tup [.str "until", .int n2])) hx8) hx9) hp5) hp6
      have g8 := upd_keep (u := .lst [.ref x1, .ref x2, .ref x3, .ref x4, .ref x5, .ref x6, .ref x7, .ref x8, .ref x9]) (upd_keep (u := .lst [.ref x7, .ref x8, .ref x9]) (upd_keep (u := .tup [.str "until", .int 25]) (upd_same (H := upd H24 x7 (.tup [.str "until", .int n2])) (a := x8) (o := .tup [.str "unlike"])) hx9) hp5) hp6
      have g9 := upd_keep (u := .lst [.ref x1, .ref x2, .ref x3, .ref x4, .ref x5, .ref x6, .ref x7, .ref x8, .ref x9]) (upd_keep (u := .lst [.ref x7, .ref x8, .ref x9]) (upd_same (H := upd (upd H24 x7 (.tup [.str "until", .int n2])) x8 (.tup [.str "unlike"])) (a := x9) (o := .tup [.str "until", .int 25])) hp5) hp6
      have gq : upd (upd (upd (upd (upd H24 x7 (.tup [.str "until", .int n2])) x8 (.tup [.str "unlike"])) x9 (.tup [.str "until", .int 25])) p5 (.lst [.ref x7, .ref x8, .ref x9])) p6 (.lst [.ref x1, .ref x2, .ref x3, .ref x4, .ref x5, .ref x6, .ref x7, .ref x8, .ref x9]) p6 = some (.lst [.ref x1, .ref x2, .ref x3, .ref x4, .ref x5, .ref x6, .ref x7, .ref x8, .ref x9]) := upd_same
      show tOp _ (tVar 3) (tC (.int 9)) _ (upd (upd (upd (upd (upd H24 x7 (.tup [.str "until", .int n2])) x8 (.tup [.str "unlike"])) x9 (.tup [.str "until", .int 25])) p5 (.lst [.ref x7, .ref x8, .ref x9])) p6 (.lst [.ref x1, .ref x2, .ref x3, .ref x4, .ref x5, .ref x6, .ref x7, .ref x8, .ref x9])) _
      clear f2326 f2325 f24 f123 S25 S24 S23 gp
      generalize upd (upd (upd (upd (upd H24 x7 (.tup [.str "until", .int n2])) x8 (.tup [.str "unlike"])) x9 (.tup [.str "until", .int 25])) p5 (.lst [.ref x7, .ref x8, .ref x9])) p6 (.lst [.ref x1, .ref x2, .ref x3, .ref x4, .ref x5, .ref x6, .ref x7, .ref x8, .ref x9]) = H26 at *
      walk_at "go"
      obtain ⟨v, hv, ev⟩ := at_in (xs := [V.ref x1, .ref x2, .ref x3, .ref x4, .ref x5, .ref x6, .ref x7, .ref x8, .ref x9]) (i := way % 9) (by omega) (by show way % 9 < 9; omega)
      refine rd_ixL (SqL.of gq) ev ?_
      obtain ⟨x, kd, rfl, gx, kok⟩ : ∃ (x : Addr) (kd : Kd), v = .ref x ∧ H26 x = some (.tup kd.vals) ∧ kd.ok := by
        simp only [List.mem_cons, List.not_mem_nil, or_false] at hv
        rcases hv with rfl | rfl | rfl | rfl | rfl | rfl | rfl | rfl | rfl
        · exact ⟨_, .add n1, rfl, g1, by show numOk n1; unfold numOk; omega⟩
        · exact ⟨_, .times (k7 - 1), rfl, g2, by show numOk (k7 - 1); unfold numOk; omega, by omega, by omega⟩
        · exact ⟨_, .keep k8 wheel, rfl, g3, by omega, by omega, by omega, by omega⟩
        · exact ⟨_, .drop many, rfl, g4, by omega, by omega⟩
        · exact ⟨_, .take many, rfl, g5, by omega, by omega⟩
        · exact ⟨_, .each (1 + k10), rfl, g6, by omega, by omega⟩
        · exact ⟨_, .until n2, rfl, g7, by show numOk n2; unfold numOk; omega⟩
        · exact ⟨_, .unlike, rfl, g8, trivial⟩
        · exact ⟨_, .until 25, rfl, g9, by show numOk 25; unfold numOk; omega⟩
      clear g1 g2 g3 g4 g5 g6 g7 g8 g9 ev hv
      have R26 := R.fr f126 (by simpa using nra)
      have r26 := R26.1
      have fw : Fr [a, r] H H26 := f126.mono (by simp)
      walk_at "go"
      refine rd_ixT (SqT.of gx) kd.at0 ?_
      walk_at "go"
      refine rd_dec (fun c => ?_) (fun c => ?_)
      · -- each
        obtain ⟨j, rfl⟩ : ∃ j, kd = .each j := by
          cases kd with
          | each j => exact ⟨j, rfl⟩
          | _ => simp only [Kd.name] at c; exact absurd c (by decide +kernel)
        have ht1 := R.2.1
        have ht2 := R.2.2
        walk_at "go"
        refine rd_dec (fun c2 => ?_) (fun c2 => ?_)
        · walk_at "go"
          refine ⟨by show 2 ≤ sizeLine; decide, fun y hy => ?_⟩
          have gy : upd H26 y (.tup [.str "each", .int j]) y = some (.tup [.str "each", .int j]) := upd_same
          have ry := upd_keep (u := .tup [.str "each", .int j]) r26 hy
          walk_at "go"
          have nry : y ≠ r := (ne_of_none r26 hy).symm
          have bt : 1 ≤ t * j ∧ t * j ≤ 60 := by
            have hj : 1 ≤ j := kok.1
            have h1 : 1 ≤ t := R.2.1
            have := Int.mul_le_mul h1 hj (by omega) (by omega)
            omega
          refine k y (.one (.each j)) (t * j) _ (upd_other nry gy) kok (fun _ => trivial) m0 s0 ⟨?_, bt.1, bt.2⟩ ?_ ?_
          · rw [upd_same]; simp [Sg.nm, Sg.ns]
          · exact ((st_new S26 hy).1).fr (Fr.put (S := [r]) List.mem_cons_self (nt ry)) (by simpa using nra.symm)
          · exact (fw.newN hy).putN (.inl (by simp)) (nt ry)
        · walk_at "go"
          refine ⟨by show 2 ≤ sizeLine; decide, fun y hy => ?_⟩
          have gy : upd H26 y (.tup [.str "each", .int 1]) y = some (.tup [.str "each", .int 1]) := upd_same
          have ry := upd_keep (u := .tup [.str "each", .int 1]) r26 hy
          walk_at "go"
          have nry : y ≠ r := (ne_of_none r26 hy).symm
          refine k y (.one (.each 1)) (t * 1) _ (upd_other nry gy) ⟨by omega, by omega⟩ (fun _ => trivial) m0 s0 ⟨?_, by have := R.2; omega, by have := R.2; omega⟩ ?_ ?_
          · rw [upd_same]; simp [Sg.nm, Sg.ns]
          · exact ((st_new S26 hy).1).fr (Fr.put (S := [r]) List.mem_cons_self (nt ry)) (by simpa using nra.symm)
          · exact (fw.newN hy).putN (.inl (by simp)) (nt ry)
      · walk_at "go"
        refine k x (.one kd) t _ gx kok (fun _ => trivial) m0 s0 ⟨?_, R.2⟩ S26 fw
        rw [r26]; simp [Sg.nm, Sg.ns]
end
end Dc

set_option Elab.async false
set_option linter.all false
set_option maxRecDepth 100000
set_option maxHeartbeats 4000000
namespace Dc
open PySem PySem.Spec PyProof.Rows L2
local macro_rules | `(tactic| walk_at "ne") => `(tactic| first | assumption | (refine Ne.symm ?_; assumption) | exact ne_of (by assumption) (by assumption) (by intro q; cases q) | exact ne_of_none (by assumption) (by assumption) | exact Ne.symm (ne_of_none (by assumption) (by assumption)))
local macro_rules | `(tactic| walk_at "hp") => `(tactic| first | assumption | exact upd_same | (refine upd_keep ?_ (by assumption); walk_at "hp") | (refine upd_other ?_ ?_; · walk_at "ne"; · walk_at "hp"))
local macro_rules | `(tactic| walk_at "hl") => `(tactic| first | assumption | exact SqL.of (by walk_at "hp"))
local macro_rules | `(tactic| walk_at "ht") => `(tactic| first | assumption | exact SqT.of (by walk_at "hp"))
local macro_rules | `(tactic| walk_at "rd1") => `(tactic| first
  | ((with_reducible apply rd_var); exact rfl)
  | ((with_reducible apply rd_eq); exact rfl) | ((with_reducible apply rd_ne); exact rfl)
  | with_reducible first
  | refine iteT ?_ | refine iteF ?_ | refine rd_nF ?_ | refine rd_nT ?_ | refine rd_yes ?_ | refine rd_c ?_ | refine rd_op ?_ | refine rd_un ?_ | refine rd_test ?_ | refine rd_B ?_ | refine rd_bl ?_ | refine rd_seq ?_ | refine rd_next ?_ | refine rd_ifs ?_ | refine rd_asg ?_ | refine rd_name ?_ | refine rd_ret ?_ | refine rd_drop ?_
  | refine rd_call ?_ | refine rd_cons ?_ | refine rd_nil ?_ | refine rd_cb ?_ | refine rd_I0 ?_ | refine rd_U ?_ | refine rd_gsub ?_ | refine rd_lst ?_ | refine rd_tup ?_ | refine rd_if ?_ | refine rd_not ?_ | refine rd_rng1 ?_ | refine rd_itup ?_ | refine rd_ilst ?_ | refine rd_bm ?_ | refine rd_bm0 ?_ | refine rd_andV ?_ | refine rd_orV ?_ | refine rd_notV ?_)
local macro_rules | `(tactic| walk_at "rd") => `(tactic| repeat walk_at "rd1")
local macro_rules | `(tactic| walk_at "ci") => `(tactic| first | assumption | (show (0 : Int) < _; first | decide | omega) | exact ⟨by decide, by decide⟩ | exact Or.inr ⟨by decide, by decide⟩ | exact Or.inl ⟨by decide, by decide⟩ | exact ⟨by decide, by decide, by decide⟩ | exact Or.inl ⟨by omega, by omega⟩ | exact Or.inr ⟨by omega, by omega⟩)
local macro_rules | `(tactic| walk_at "ix") => `(tactic| first
  | ((with_reducible apply rd_ixL); (walk_at "hl"); exact rfl)
  | ((with_reducible apply rd_ixT); (walk_at "ht"); exact rfl)
  | ((with_reducible apply rd_lenL); (walk_at "hl"))
  | ((with_reducible apply rd_lenT); (walk_at "ht"))
  | ((with_reducible apply rd_tupOf); (walk_at "hl"))
  | ((with_reducible apply rd_listOf); (walk_at "hl"))
  | (with_reducible refine rd_min2 ?_)
  | ((with_reducible apply rd_I); (walk_at "ci"))
  | ((with_reducible apply rd_setL); (walk_at "hp"); exact rfl))
local macro_rules | `(tactic| walk_at "gs") => `(tactic| repeat first | walk_at "rd1" | walk_at "ix")
local macro_rules | `(tactic| walk_at "go") => `(tactic| repeat first | walk_at "rd1" | walk_at "ix" | with_reducible refine rd_and ?_ | with_reducible refine rd_or ?_)
local macro_rules | `(tactic| walk_at "fo") => `(tactic| (with_reducible refine rd_for ?_))
local macro_rules | `(tactic| walk_at "pm") => `(tactic| repeat first
  | with_reducible first | refine rd_pcons ?_ | refine rd_pstr ?_ | refine rd_pcap ?_ | refine rd_pwild ?_ | refine rd_pnil ?_ | refine rd_por ?_ | refine rd_pno ?_
  | ((with_reducible refine rd_eq rfl ?_); refine ⟨_, rfl, ?_⟩; first | refine rd_T rfl ?_ | refine rd_F (by decide) ?_)
  | dsimp only [List.nil_append, List.singleton_append, List.cons_append, setAll])
local macro_rules | `(tactic| walk_at "pc") => `(tactic| (refine rd_case ?_); (first | (refine rd_phit (SqT.of (by assumption)) rfl ?_) | (refine rd_pmiss (SqT.of (by assumption)) (by simp) ?_)); (walk_at "pm"))

def spAny (K : PySem.W.Frag) (ns : List Int) : Sp := fun vs H Q _ => ∃ (a sc : Addr) (rows : Bool), vs = [.ref a, .bl rows] ∧ StAt K ns H a sc ∧
  ∀ (p : Addr) (c : Ch) (H' : Hp), ChAt H' p c → c.ok → (rows = true → c.rows) → c.nm ≤ 4 → c.ns ≤ 12 → StAt K ns H' a sc → Fr [a] H H' → Q (.ref p) H'
section
variable {P : Program} {w : World} {K : PySem.W.Frag} {mg : Str → Option Value} {base : Heap}
theorem sc__law_chain : FnScope ["_law_state", "_law_room", "_law_rows", "_law_maker_here", "_law_stages", "_law_k"] ["_law_state", "_law_room", "_law_rows"] (defScope s__law_chain) := ⟨rfl, rfl, rfl, by decide +kernel, rfl, by decide +kernel, by decide +kernel⟩
theorem ok_law_chain {f : Addr} {fd : FuncData} {ns : List Int} {n k : Nat} (T : Txt K mg) (F : FnP K "_law_chain" "_law_chain" s__law_chain f fd)
    (G__law_drawn : Cal P w K mg base CX0 1 "_law_drawn" ["_law_state", "_law_many"] (spDrawn K ns)) (G__law_maker : Cal P w K mg base CX0 3 "_law_maker" ["_law_state", "_law_rows"] (spMaker K ns))
    (G__law_stage : Cal P w K mg base CX0 (k + 3) "_law_stage" ["_law_state", "_law_room", "_law_rows"] (spStage K ns n)) :
    FnOk P w K mg base CX0 (k + 4) f fd ["_law_state", "_law_room", "_law_rows"] (spChain K ns (n + 1)) := by
  refine ok0 F sc__law_chain (fun vs H Q E h => ?_) (fun cdv A outer s H vs Q E hr h => ?_)
  · obtain ⟨a, sc, r, rows, m, s, t, rfl, _⟩ := h
    rfl
  · obtain ⟨a, sc, r, rows, m, s, t, rfl, S, R, m0, m1, s0, k⟩ := h
    refine ⟨_, (pss_cons (ps_asg (pe_op op_sub (pe_ix (ix_listK K) (pv 1) pe_int (fun _ _ => rfl)) pe_int) (pg_sub (pv 1) pe_int set_list))
  (pss_cons (ps_set (i := 3) sc__law_chain.nd rfl (Or.inl rfl) (pe_cal G__law_maker (hr.mono (by omega)) pass0 (pa_cons (pv 0) (pa_cons (pv 2) pa_nil))))
  (pss_cons (ps_set (i := 4) sc__law_chain.nd rfl (Or.inl rfl) (pe_lst pa_nil))
  (pss_cons (ps_for PassesOwn.never rfl (pi_range1 (by rfl) T.free_range (pa_cons (pe_cal G__law_drawn (hr.mono (by omega)) pass0 (pa_cons (pv 0) (pa_cons (pe_op op_add pe_int (pe_callB (call_min2n rfl) (by rfl) T.free_min (by decide +kernel) (pa_cons pe_int (pa_cons (pe_ix (ix_listK K) (pv 1) pe_int (fun _ _ => rfl)) pa_nil)))) pa_nil))) pa_nil)) (pg_name (i := 5) sc__law_chain.nd rfl (Or.inl rfl))
    (pss_one (ps_if (pt_cmpR op_gt (pe_ix (ix_listK K) (pv 1) pe_int (fun _ _ => rfl)) pe_int (nomark _))
      (pss_cons (ps_asg (pe_op op_sub (pe_ix (ix_listK K) (pv 1) pe_int (fun _ _ => rfl)) pe_int) (pg_sub (pv 1) pe_int set_list))
      (pss_one (ps_expr (pe_bm PySem.F.plainAttrs_list PySem.F.slot_list_append PySem.F.type_list_append mt_append (pv 4) (pa_cons (pe_cal G__law_stage (hr.mono (by omega)) pass0 (pa_cons (pv 0) (pa_cons (pv 1) (pa_cons (pv 2) pa_nil)))) pa_nil))))) pss_nil)))
  (pss_one (ps_ret (pe_tup (pa_cons (pv 3) (pa_cons (pe_callTy (call_tupOfK K) (by rfl) T.free_tuple (by decide +kernel) (pa_cons (pv 4) pa_nil)) pa_nil))))))))), ?_⟩
    try dsimp only [cxOf, Cx.nox, Cx.wish]
    refine rd_at (σ' := [some (.ref a), some (.ref r), some (.bl rows), none, none, none]) rfl ?_
    have nra := room_ne S R
    have r1 := R.1
    walk_at "go"
    have f0 : Fr [a, r] H (upd H r (.lst [.int (m - 1), .int s, .int t])) := Fr.put (by simp) (nt r1)
    have S0 : StAt K ns (upd H r (.lst [.int (m - 1), .int s, .int t])) a sc := S.fr (Fr.put (S := [r]) List.mem_cons_self (nt r1)) (by simpa using nra.symm)
    refine ⟨a, sc, rows, rfl, S0, fun mk mkr H1 mok mrow hmk S1 f1 => ?_⟩
    have r2 : H1 r = some (.lst [.int (m - 1), .int s, .int t]) := f1.at upd_same (by simpa using nra)
    have f01 : Fr [a, r] H H1 := f0.tr (f1.mono (by simp))
    walk_at "go"
    refine ⟨by show 0 ≤ sizeLine; decide, fun l hl => ?_⟩
    have fl := Fr.new (S := [a, r]) (o := .lst []) hl
    have hl0 : H l = none := f01.free (by
      have h1 := ne_of_none r2 hl
      obtain ⟨⟨_, _, _, z, _⟩, _⟩ := S1
      have h2 := ne_of_none z hl
      simp [Ne.symm h1, Ne.symm h2]) hl
    have S2 := (st_new (o := .lst []) S1 hl).1
    have r3 := upd_keep (u := .lst []) r2 hl
    have gl : upd H1 l (.lst []) l = some (.lst []) := upd_same
    have hmk2 := hmk.fr fl
    have f02 := f01.tr fl
    clear fl
    generalize upd H1 l (.lst []) = H2 at *
    walk_at "go"
    walk_at "fo"
    walk_at "go"
    have hmin : 0 ≤ (if s < 6 then s else 6) ∧ (if s < 6 then s else 6) ≤ 6 := by split <;> omega
    refine ⟨a, sc, _, rfl, S2, by omega, Nat.lt_of_le_of_lt (show _ ≤ 7 by omega) (by decide), fun d H3 d0 d1 S3 f3 => ?_⟩
    refine ⟨d, rfl, by omega, by omega, ?_⟩
    have nla : l ∉ [a] := by
      obtain ⟨⟨_, _, _, z, _⟩, _⟩ := S2
      have := ne_of gl z (by intro q; cases q)
      simpa using this
    have nlr : l ≠ r := ne_of gl r3 (by intro q; cases q)
    refine for_range (lo := 0) (n := d.toNat) (fun i σ H4 => ∃ (c : Ch) (as : List Addr) (t' : Int) (v : Option V), σ = [some (.ref a), some (.ref r), some (.bl rows), some (.ref mk), some (.ref l), v] ∧ StsAt H4 c mk as ∧ H4 l = some (.lst (as.map V.ref)) ∧
      c.ok ∧ (rows = true → c.rows) ∧ (c.nm : Int) ≤ m ∧ (c.ns : Int) ≤ s ∧ c.len ≤ i ∧ RoomAt H4 r (m - c.nm) (s - c.ns) t' ∧ StAt K ns H4 a sc ∧ Fr [a, r] H H4)
      ⟨.mkr mkr, [], t, none, rfl, ⟨rfl, hmk2.fr f3⟩, f3.at gl nla, mok, mrow, by show (1 : Int) ≤ m; omega, by show (0 : Int) ≤ s; omega, Nat.le_refl _, ⟨by rw [f3.at r3 (by simpa using nra)]; simp [Ch.nm, Ch.ns], R.2⟩, S3, f02.tr (f3.mono (by simp))⟩ ?_ ?_
    · rintro i σ H4 hi ⟨c, as, t', v, rfl, hc, hl4, cok, crow, cm, cs, cl, R4, S4, f4⟩
      have r4 := R4.1
      walk_at "go"
      refine rd_dec (fun q => ?_) (fun q => ?_)
      · walk_at "go"
        have f5 : Fr [a, r] H4 (upd H4 r (.lst [.int (m - c.nm), .int (s - c.ns - 1), .int t'])) := Fr.put (by simp) (nt r4)
        refine ⟨tyl (xs := as.map V.ref) (upd_other nlr hl4), ?_⟩
        walk_at "go"
        have hpos := c.nm_pos
        refine ⟨a, sc, r, rows, m - c.nm, s - c.ns - 1, t', rfl, S4.fr (Fr.put (S := [r]) List.mem_cons_self (nt r4)) (by simpa using nra.symm), ⟨upd_same, R4.2⟩, by omega, by omega, by omega, fun x g t2 H6 hg gok grow gm gs R6 S6 f6 => ?_⟩
        have hl6 : H6 l = some (.lst (as.map V.ref)) := f6.at (upd_other nlr hl4) (by simp at nla; simp [nla, nlr])
        have las : as.length = c.len := hc.length
        walk_at "go"
        refine rd_append hl6 (by rw [List.length_map]; exact small1000 (by omega)) ?_
        have f7 : Fr [l] H6 (upd H6 l (.lst (as.map V.ref ++ [.ref x]))) := Fr.put List.mem_cons_self (nt hl6)
        refine ⟨c.snoc g, as ++ [x], t2, _, rfl, ?_, ?_, Ch.snoc_ok cok gok, fun z => Ch.snoc_rows (crow z) (grow z), by rw [Ch.snoc_nm]; omega, by rw [Ch.snoc_ns]; omega, ?_, ?_, S6.fr f7 (by simp at nla; simp [Ne.symm nla]), ?_⟩
        · exact (((hc.fr f5).fr f6).snoc hg).fr f7
        · rw [upd_same, List.map_append]; rfl
        · cases g <;> exact Nat.succ_le_succ cl
        · refine ⟨?_, R6.2⟩
          have := (R6.fr f7 (by simp [Ne.symm nlr])).1
          rw [this, Ch.snoc_nm, Ch.snoc_ns]
          have e1 : m - (c.nm : Int) - (g.nm : Int) = m - ((c.nm + g.nm : Nat) : Int) := by omega
          have e2 : s - (c.ns : Int) - 1 - (g.ns : Int) = s - ((c.ns + g.ns + 1 : Nat) : Int) := by omega
          rw [e1, e2]
        · exact ((f4.tr f5).tr f6).putN (.inr hl0) (nt hl6)
      · walk_at "go"
        exact ⟨c, as, t', _, rfl, hc, hl4, cok, crow, cm, cs, by omega, R4, S4, f4⟩
    · rintro σ H4 ⟨c, as, t', v, rfl, hc, hl4, cok, crow, cm, cs, cl, R4, S4, f4⟩
      walk_at "go"
      intro ss hss
      walk_at "go"
      refine ⟨by show 2 ≤ sizeLine; decide, fun p hp => ?_⟩
      have fs := (Fr.new (S := [a, r]) (o := .tup (as.map V.ref)) hss).newN (o := .tup [.ref mk, .ref ss]) hp
      refine k p c t' _ ⟨mk, ss, as, upd_same, upd_keep upd_same hp, hc.fr fs⟩ cok crow cm cs ⟨upd_keep (upd_keep R4.1 hss) hp, R4.2⟩ (st_new (st_new S4 hss).1 hp).1 (f4.tr fs)
theorem ok_law_chain0 {f : Addr} {fd : FuncData} {ns : List Int} (F : FnP K "_law_chain" "_law_chain" s__law_chain f fd) : FnOk P w K mg base CX0 2 f fd ["_law_state", "_law_room", "_law_rows"] (spChain K ns 0) := by
  refine ok0 F sc__law_chain (fun vs H Q E h => ?_) (fun cdv A outer s H vs Q E hr h => ?_)
  · obtain ⟨a, sc, r, rows, m, s, t, rfl, _⟩ := h
    rfl
  · obtain ⟨a, sc, r, rows, m, s, t, rfl, S, R, m0, m1, _⟩ := h
    exact absurd m0 (by simp at m1; omega)
/-- the chain's makers, by induction upon how many are left -/
theorem cal_law_chain {f fS : Addr} {fd fdS : FuncData} {ns : List Int} (T : Txt K mg) (F : FnP K "_law_chain" "_law_chain" s__law_chain f fd) (FS : FnP K "_law_stage" "_law_stage" s__law_stage fS fdS)
    (g : mg "_law_chain" = some (.ref f)) (gS : mg "_law_stage" = some (.ref fS))
    (Gd : Cal P w K mg base CX0 1 "_law_drawn" ["_law_state", "_law_many"] (spDrawn K ns)) (Gn : Cal P w K mg base CX0 2 "_law_number" ["_law_state"] (spNumber K ns)) (Gm : Cal P w K mg base CX0 3 "_law_maker" ["_law_state", "_law_rows"] (spMaker K ns)) :
    ∀ n : Nat, Cal P w K mg base CX0 (2 * n + 2) "_law_chain" ["_law_state", "_law_room", "_law_rows"] (spChain K ns n)
  | 0 => cal_of F g (ok_law_chain0 F) fun _ _ _ _ _ _ us hl => match us, hl with | [_, _, _], _ => rfl
  | n + 1 => by
    have ih := cal_law_chain T F FS g gS Gd Gn Gm n
    have GS : Cal P w K mg base CX0 (2 * n + 3) "_law_stage" ["_law_state", "_law_room", "_law_rows"] (spStage K ns n) := cal_of FS gS (ok_law_stage (k := 2 * n) T FS Gd Gn ih) fun _ _ _ _ _ _ us hl => match us, hl with | [_, _, _], _ => rfl
    exact cal_of F g (ok_law_chain (k := 2 * n) T F Gd Gm GS) fun _ _ _ _ _ _ us hl => match us, hl with | [_, _, _], _ => rfl
theorem sc__law_any : FnScope ["_law_state", "_law_rows"] ["_law_state", "_law_rows"] (defScope s__law_any) := ⟨rfl, rfl, rfl, by decide +kernel, rfl, by decide +kernel, by decide +kernel⟩
theorem ok_law_any {f : Addr} {fd : FuncData} {ns : List Int} (T : Txt K mg) (F : FnP K "_law_any" "_law_any" s__law_any f fd)
    (G__law_drawn : Cal P w K mg base CX0 1 "_law_drawn" ["_law_state", "_law_many"] (spDrawn K ns)) (G__law_chain : Cal P w K mg base CX0 10 "_law_chain" ["_law_state", "_law_room", "_law_rows"] (spChain K ns 4)) :
    FnOk P w K mg base CX0 11 f fd ["_law_state", "_law_rows"] (spAny K ns) := by
  refine ok0 F sc__law_any (fun vs H Q E h => ?_) (fun cdv A outer s H vs Q E hr h => ?_)
  · obtain ⟨a, sc, rows, rfl, _⟩ := h
    rfl
  · obtain ⟨a, sc, rows, rfl, S, k⟩ := h
    refine ⟨_, (pss_one (ps_ret (pe_cal G__law_chain (hr.mono (by omega)) pass0 (pa_cons (pv 0) (pa_cons (pe_lst (pa_cons (pe_op op_add pe_int (pe_cal G__law_drawn (hr.mono (by omega)) pass0 (pa_cons (pv 0) (pa_cons pe_int pa_nil)))) (pa_cons (pe_ix (ix_listK K) (pe_lst (pa_cons pe_int (pa_cons pe_int pa_nil))) (pe_cal G__law_drawn (hr.mono (by omega)) pass0 (pa_cons (pv 0) (pa_cons pe_int pa_nil))) (fun _ _ => rfl)) (pa_cons pe_int pa_nil)))) (pa_cons (pv 1) pa_nil)))))), ?_⟩
    try dsimp only [cxOf, Cx.nox, Cx.wish]
    refine rd_at (σ' := [some (.ref a), some (.bl rows)]) rfl ?_
    walk_at "go"
    refine ⟨a, sc, 4, rfl, S, by decide, by decide, fun m H1 m0 m1 S1 f1 => ?_⟩
    walk_at "go"
    refine ⟨by show 2 ≤ sizeLine; decide, fun p hp => ?_⟩
    obtain ⟨S2, np⟩ := st_new (o := .lst [.int 4, .int 12]) S1 hp
    walk_at "go"
    refine ⟨a, sc, 2, rfl, S2, by decide, by decide, fun d H3 d0 d1 S3 f3 => ?_⟩
    walk_at "go"
    obtain ⟨v, hv, ev⟩ := at_in (xs := [V.int 4, .int 12]) (i := d) d0 d1
    refine rd_ixL (SqL.of (f3.at upd_same (by simpa using np.symm))) ev ?_
    obtain ⟨s, rfl, s0, s1⟩ : ∃ z : Int, v = .int z ∧ 0 ≤ z ∧ z ≤ 12 := by
      simp only [List.mem_cons, List.not_mem_nil, or_false] at hv
      rcases hv with rfl | rfl
      all_goals exact ⟨_, rfl, by omega, by omega⟩
    walk_at "go"
    refine ⟨by show 3 ≤ sizeLine; decide, fun r hr => ?_⟩
    have f04 : Fr [a] H (upd H3 r (.lst [.int (1 + m), .int s, .int 1])) := (f1.tr ((Fr.new hp).tr f3)).newN hr
    have hr0 : H r = none := (f1.tr ((Fr.new hp).tr f3)).free (by
      obtain ⟨⟨_, _, _, z, _⟩, _⟩ := S3
      have := ne_of_none z hr
      simpa using this.symm) hr
    walk_at "go"
    refine ⟨a, sc, r, rows, 1 + m, s, 1, rfl, (st_new S3 hr).1, ⟨upd_same, by decide, by decide⟩, by omega, by omega, s0, fun p2 c t' H5 hc cok crow cm cs R5 S5 f5 => ?_⟩
    exact k p2 c H5 hc cok crow (by omega) (by omega) S5 (f04.trans f5 fun b hb => by
      simp only [List.mem_cons, List.not_mem_nil, or_false] at hb
      rcases hb with rfl | rfl
      · exact .inl List.mem_cons_self
      · exact .inr hr0)
end
end Dc

set_option Elab.async false
set_option linter.all false
set_option maxRecDepth 100000
set_option maxHeartbeats 2000000
namespace Dc
open PySem PySem.Spec PyProof.Rows L2
/-- the law's own defs: chains are drawn -/
structure ChainsL (K : PySem.W.Frag) (mg : Str → Option Value) : Prop where
  number : FnM K mg "_law_number" s__law_number
  maker : FnM K mg "_law_maker" s__law_maker
  stage : FnM K mg "_law_stage" s__law_stage
  chain : FnM K mg "_law_chain" s__law_chain
  any : FnM K mg "_law_any" s__law_any
section
variable {P : Program} {w : World} {K : PySem.W.Frag} {mg : Str → Option Value} {base : Heap} {J : Cls'}
theorem l_number (T : Txt K mg) (S : StartL K mg) (L : ChainsL K mg) {ns : List Int} (hl : ns.length ≤ 63) : Cal P w K mg base CX0 2 "_law_number" ["_law_state"] (spNumber K ns) := by
  obtain ⟨f, fd, F, g⟩ := L.number
  exact cal_of F g (ok_law_number T F (l_drawn T S hl)) fun _ _ _ _ _ _ us hl => match us, hl with | [_], _ => rfl
theorem l_any (T : Txt K mg) (S : StartL K mg) (L : ChainsL K mg) {ns : List Int} (hl : ns.length ≤ 63) : Cal P w K mg base CX0 11 "_law_any" ["_law_state", "_law_rows"] (spAny K ns) := by
  have Gd := l_drawn (P := P) (w := w) (base := base) T S hl
  have Gn := l_number (P := P) (w := w) (base := base) T S L hl
  obtain ⟨fM, dM, FM, gM⟩ := L.maker
  have GM : Cal P w K mg base CX0 3 "_law_maker" ["_law_state", "_law_rows"] (spMaker K ns) := cal_of FM gM (ok_law_maker T FM Gd Gn) fun _ _ _ _ _ _ us hl => match us, hl with | [_, _], _ => rfl
  obtain ⟨fC, dC, FC, gC⟩ := L.chain
  obtain ⟨fS, dS, FS, gS⟩ := L.stage
  obtain ⟨fA, dA, FA, gA⟩ := L.any
  exact cal_of FA gA (ok_law_any T FA Gd (cal_law_chain T FC FS gC gS Gd Gn GM 4)) fun _ _ _ _ _ _ us hl => match us, hl with | [_, _], _ => rfl
end
end Dc

set_option Elab.async false
set_option linter.all false
set_option maxRecDepth 100000
set_option maxHeartbeats 2000000
namespace Dc
open PySem PySem.Spec PyProof.Rows L2
/-! ### whole rows, as functions -/
def unl : Option Int → List Int → List Int
  | _, [] => []
  | p, x :: r => if p = some x then unl (some x) r else x :: unl (some x) r
def Kd.row : Kd → List Int → List Int
  | .add n, xs => xs.map (· + n)
  | .times n, xs => xs.map (· * n)
  | .keep r w, xs => xs.filter fun x => decide (x % w = r)
  | .drop k, xs => xs.drop k.toNat
  | .take k, xs => xs.take k.toNat
  | .each k, xs => xs.flatMap fun x => List.replicate k.toNat x
  | .until n, xs => xs.takeWhile fun x => decide (x < n)
  | .unlike, xs => unl none xs
def cap (xs : List Int) : Option (List Int) := if xs.length ≤ 10000 then some xs else none
def Ch.row : Ch → Option (List Int)
  | .mkr (.row ns) => some ns
  | .mkr (.count _ _) => none
  | .st c k => c.row.bind fun xs => cap (k.row xs)
  | .both c o => c.row.bind fun xs => o.row.bind fun ys => cap (List.zipWith (· + ·) xs ys)
  | .thn c o => c.row.bind fun xs => o.row.bind fun ys => cap (xs ++ ys)
/-- what one stage makes of a row -/
def Sg.row (g : Sg) (xs : List Int) : Option (List Int) := match g with
  | .one k => some (k.row xs)
  | .both o => o.row.map fun ys => List.zipWith (· + ·) xs ys
  | .thn o => o.row.map fun ys => xs ++ ys
theorem row_snoc (c : Ch) (g : Sg) : (c.snoc g).row = c.row.bind fun xs => (g.row xs).bind cap := by
  cases g with
  | one k => rfl
  | both o => show (c.row.bind fun xs => o.row.bind fun ys => cap (List.zipWith (· + ·) xs ys)) = _; cases c.row with
    | none => rfl
    | some xs => show (o.row.bind fun ys => cap (List.zipWith (· + ·) xs ys)) = (o.row.map fun ys => List.zipWith (· + ·) xs ys).bind cap; cases o.row <;> rfl
  | thn o => show (c.row.bind fun xs => o.row.bind fun ys => cap (xs ++ ys)) = _; cases c.row with
    | none => rfl
    | some xs => show (o.row.bind fun ys => cap (xs ++ ys)) = (o.row.map fun ys => xs ++ ys).bind cap; cases o.row <;> rfl
theorem unl_snoc : ∀ (l : List Int) (p : Option Int) (x : Int), unl p (l ++ [x]) = unl p l ++ if (l.getLast?.or p) = some x then [] else [x]
  | [], p, x => by
    show (if p = some x then unl (some x) [] else x :: unl (some x) []) = [] ++ if (([] : List Int).getLast?.or p) = some x then [] else [x]
    by_cases h : p = some x
    · rw [if_pos h, if_pos (by rw [h]; rfl)]; rfl
    · rw [if_neg h, if_neg (by intro q; exact h q)]; rfl
  | y :: l, p, x => by
    have ih := unl_snoc l (some y) x
    have e : (y :: l).getLast?.or p = l.getLast?.or (some y) := by
      cases l with
      | nil => rfl
      | cons z l => rw [List.getLast?_cons_cons]; cases h : (z :: l).getLast? with
        | none => simp at h
        | some v => rfl
    rw [e]
    simp only [List.cons_append, unl]
    split
    · exact ih
    · rw [ih]; rfl
/-- how often, and as what, the i-th number is told -/
def Kd.often (k : Kd) (xs : List Int) (i : Nat) : Nat := match k with
  | .keep r w => if xs[i]! % w = r then 1 else 0
  | .drop k => if k.toNat ≤ i then 1 else 0
  | .take k => if i < k.toNat then 1 else 0
  | .each k => k.toNat
  | .until n => if (xs.take (i + 1)).all (fun x => decide (x < n)) = true then 1 else 0
  | .unlike => if i = 0 ∨ xs[i]! ≠ xs[i - 1]! then 1 else 0
  | _ => 1
def Kd.val (k : Kd) (x : Int) : Int := match k with
  | .add n => x + n
  | .times n => x * n
  | _ => x
theorem take_snoc {xs : List Int} {i : Nat} (h : i < xs.length) : xs.take (i + 1) = xs.take i ++ [xs[i]!] := by
  rw [List.take_succ, List.getElem?_eq_getElem h, getElem!_pos xs i h]; rfl
theorem row_step (k : Kd) (xs : List Int) {i : Nat} (h : i < xs.length) : k.row (xs.take (i + 1)) = k.row (xs.take i) ++ List.replicate (k.often xs i) (k.val xs[i]!) := by
  have hl : (xs.take i).length = i := by rw [List.length_take]; omega
  rw [take_snoc h]
  cases k with
  | add n => simp only [Kd.row, List.map_append, Kd.often, Kd.val]; rfl
  | times n => simp only [Kd.row, List.map_append, Kd.often, Kd.val]; rfl
  | keep r w =>
    simp only [Kd.row, List.filter_append, Kd.often, Kd.val]
    congr 1
    by_cases z : xs[i]! % w = r
    · rw [if_pos z, List.filter_cons_of_pos (p := fun x => decide (x % w = r)) (decide_eq_true z)]; rfl
    · rw [if_neg z, List.filter_cons_of_neg (p := fun x => decide (x % w = r)) (by simpa using z)]; rfl
  | drop k =>
    simp only [Kd.row, Kd.often, Kd.val]
    by_cases z : k.toNat ≤ i
    · rw [if_pos z, List.drop_append_of_le_length (by omega)]; rfl
    · rw [if_neg z, List.drop_eq_nil_of_le (by simp [hl]; omega), List.drop_eq_nil_of_le (by omega)]; rfl
  | take k =>
    simp only [Kd.row, Kd.often, Kd.val]
    by_cases z : i < k.toNat
    · rw [if_pos z, List.take_of_length_le (l := xs.take i ++ [xs[i]!]) (by rw [List.length_append, hl, List.length_singleton]; omega), List.take_of_length_le (l := xs.take i) (by omega)]; rfl
    · rw [if_neg z, List.take_append_of_le_length (by omega)]; simp
  | each k => simp only [Kd.row, List.flatMap_append, Kd.often, Kd.val]; simp
  | «until» n =>
    simp only [Kd.row, Kd.often, Kd.val]
    rw [take_snoc h]
    have tw : ∀ l : List Int, (∀ x ∈ l, x < n) → l.takeWhile (fun x => decide (x < n)) = l := by
      intro l
      induction l with
      | nil => intro _; rfl
      | cons y l ih =>
        intro q
        rw [List.takeWhile_cons_of_pos (p := fun x => decide (x < n)) (decide_eq_true (q y (by simp))), ih fun x hx => q x (by simp [hx])]
    by_cases z : ∀ x ∈ xs.take i, x < n
    · rw [List.takeWhile_append_of_pos (fun x hx => decide_eq_true (z x hx)), tw _ z]
      congr 1
      by_cases y : xs[i]! < n
      · have hall : (xs.take i ++ [xs[i]!]).all (fun x => decide (x < n)) = true := List.all_eq_true.mpr fun x hx => decide_eq_true (by
          rcases List.mem_append.mp hx with q | q
          · exact z x q
          · rw [List.mem_singleton.mp q]; exact y)
        rw [if_pos hall, List.takeWhile_cons_of_pos (p := fun x => decide (x < n)) (decide_eq_true y)]; rfl
      · have hall : ¬ (xs.take i ++ [xs[i]!]).all (fun x => decide (x < n)) = true := fun q => y (of_decide_eq_true (List.all_eq_true.mp q _ (by simp)))
        rw [if_neg hall, List.takeWhile_cons_of_neg (p := fun x => decide (x < n)) (by simpa using y)]; rfl
    · have hall : ¬ (xs.take i ++ [xs[i]!]).all (fun x => decide (x < n)) = true := fun q => z fun x hx => of_decide_eq_true (List.all_eq_true.mp q x (List.mem_append_left _ hx))
      rw [if_neg hall]
      show _ = _ ++ []
      rw [List.append_nil]
      have aux : ∀ l : List Int, (¬ ∀ x ∈ l, x < n) → (l ++ [xs[i]!]).takeWhile (fun x => decide (x < n)) = l.takeWhile (fun x => decide (x < n)) := by
        intro l
        induction l with
        | nil => intro q; exact absurd (fun x hx => by cases hx) q
        | cons y l ih =>
          intro q
          by_cases hy : y < n
          · have hr : ¬ ∀ x ∈ l, x < n := fun r => q fun x hx => by
              rcases List.mem_cons.mp hx with rfl | hx
              · exact hy
              · exact r x hx
            rw [List.cons_append, List.takeWhile_cons_of_pos (p := fun x => decide (x < n)) (decide_eq_true hy), List.takeWhile_cons_of_pos (p := fun x => decide (x < n)) (decide_eq_true hy), ih hr]
          · rw [List.cons_append, List.takeWhile_cons_of_neg (p := fun x => decide (x < n)) (by simpa using hy), List.takeWhile_cons_of_neg (p := fun x => decide (x < n)) (by simpa using hy)]
      exact aux _ z
  | unlike =>
    simp only [Kd.row, Kd.often, Kd.val]
    rw [unl_snoc]
    congr 1
    by_cases z : i = 0
    · subst z
      rw [if_pos (Or.inl rfl)]
      simp
    · have e : (xs.take i).getLast?.or none = some xs[i - 1]! := by
        rw [List.getLast?_eq_getElem?, hl, List.getElem?_take_of_lt (by omega), List.getElem?_eq_getElem (by omega), getElem!_pos xs (i - 1) (by omega)]; rfl
      rw [e]
      by_cases y : xs[i]! = xs[i - 1]!
      · rw [if_pos (by rw [y]), if_neg (by rintro (q | q); exact z q; exact q y)]; rfl
      · rw [if_neg (fun q => y (Option.some.inj q).symm), if_pos (Or.inr y)]; rfl
theorem cap_len {xs ys : List Int} (h : cap xs = some ys) : ys.length ≤ 10000 := by
  unfold cap at h
  split at h
  · cases h; assumption
  · cases h
theorem Ch.row_len : ∀ {c : Ch} {xs : List Int}, c.row = some xs → c.ok → xs.length ≤ 10000
  | .mkr (.row ns), xs, h, ok => by cases h; exact Nat.le_trans ok.1 (by decide)
  | .mkr (.count _ _), xs, h, _ => by cases h
  | .st c k, xs, h, _ => by obtain ⟨ys, _, e⟩ := Option.bind_eq_some_iff.mp h; exact cap_len e
  | .both c o, xs, h, _ => by obtain ⟨ys, _, e⟩ := Option.bind_eq_some_iff.mp h; obtain ⟨zs, _, e⟩ := Option.bind_eq_some_iff.mp e; exact cap_len e
  | .thn c o, xs, h, _ => by obtain ⟨ys, _, e⟩ := Option.bind_eq_some_iff.mp h; obtain ⟨zs, _, e⟩ := Option.bind_eq_some_iff.mp e; exact cap_len e
end Dc

set_option Elab.async false
set_option linter.all false
set_option maxRecDepth 100000
set_option maxHeartbeats 2000000
namespace Dc
open PySem PySem.Spec PyProof.Rows L2
/-! ### what is left to be told, of chains of rows -/
def Kd.rem (k : Kd) (o : Ow) (xs : List Int) : List Int := match k with
  | .add n => xs.map (· + n)
  | .times n => xs.map (· * n)
  | .keep r w => xs.filter fun x => decide (x % w = r)
  | .drop k => xs.drop (k - o.left).toNat
  | .take k => xs.take (k - o.told).toNat
  | .each k => List.replicate o.left.toNat (o.last.getD 0) ++ xs.flatMap fun x => List.replicate k.toNat x
  | .until n => xs.takeWhile fun x => decide (x < n)
  | .unlike => unl o.last xs
def Nd.rem : Nd → List Int
  | .mkr (.row ns) g => ns.drop g
  | .mkr (.count _ _) _ => []
  | .st k o c => if o.over = true then [] else k.rem o c.rem
  | .both o c d => if o.over = true then [] else List.zipWith (· + ·) c.rem d.rem
  | .thn o c d => if o.over = true then [] else if o.left = 1 then d.rem else c.rem ++ d.rem
def Nd.mk : Nd → List Mkr
  | .mkr m _ => [m]
  | .st _ _ c => c.mk
  | .both _ c d => c.mk ++ d.mk
  | .thn _ c d => c.mk ++ d.mk
def Nd.rws : Nd → Prop
  | .mkr m _ => m.isRow
  | .st _ _ c => c.rws
  | .both _ c d => c.rws ∧ d.rws
  | .thn _ c d => c.rws ∧ d.rws
theorem draw_mk : ∀ (f : Nat) (x : Nd) (m : Mt) (r : Rs) (x' : Nd) (m' : Mt), draw f x m = some (r, x', m') → x'.mk = x.mk ∧ (x.rws → x'.rws)
  | 0, _, _, _, _, _, h => by simp only [draw] at h; cases h
  | f + 1, .mkr (.row ns) g, m, r, x', m', h => by
    simp only [draw] at h
    split at h
    · cases h; exact ⟨rfl, id⟩
    · split at h <;> (cases h; exact ⟨rfl, id⟩)
  | f + 1, .mkr (.count b s) g, m, r, x', m', h => by
    simp only [draw] at h
    split at h <;> (cases h; exact ⟨rfl, id⟩)
  | f + 1, .st k o c, m, r, x', m', h => by
    rw [draw_st] at h
    split at h
    · cases h; exact ⟨rfl, id⟩
    · split at h
      · cases h; exact ⟨rfl, id⟩
      · split at h
        · cases h
        · rename_i hd
          have F := draw_mk f _ _ _ _ _ hd
          split at h
          · have G := draw_mk f _ _ _ _ _ h
            exact ⟨G.1.trans F.1, fun z => G.2 (F.2 z)⟩
          · cases h; exact F
          · cases h; exact F
        · rename_i hd
          have F := draw_mk f _ _ _ _ _ hd
          cases h; exact F
        · rename_i hd
          have F := draw_mk f _ _ _ _ _ hd
          cases h; exact F
  | f + 1, .both o c d, m, r, x', m', h => by
    have app : ∀ {c' d' : Nd}, (c'.mk = c.mk ∧ (c.rws → c'.rws)) → (d'.mk = d.mk ∧ (d.rws → d'.rws)) → ∀ o', (Nd.both o' c' d').mk = (Nd.both o c d).mk ∧ ((Nd.both o c d).rws → (Nd.both o' c' d').rws) := fun {c' d'} h1 h2 o' =>
      ⟨by show c'.mk ++ d'.mk = c.mk ++ d.mk; rw [h1.1, h2.1], fun z => ⟨h1.2 z.1, h2.2 z.2⟩⟩
    rw [draw_both] at h
    split at h
    · cases h; exact ⟨rfl, id⟩
    · split at h
      · cases h
      · rename_i h1
        have F := draw_mk f _ _ _ _ _ h1
        split at h
        · cases h
        · rename_i h2
          have G := draw_mk f _ _ _ _ _ h2
          cases h; exact app F G _
        · rename_i h2
          have G := draw_mk f _ _ _ _ _ h2
          cases h; exact app F G _
        · rename_i h2
          have G := draw_mk f _ _ _ _ _ h2
          cases h; exact app F G _
      · rename_i h1
        have F := draw_mk f _ _ _ _ _ h1
        cases h; exact app F ⟨rfl, id⟩ _
      · rename_i h1
        have F := draw_mk f _ _ _ _ _ h1
        cases h; exact app F ⟨rfl, id⟩ _
  | f + 1, .thn o c d, m, r, x', m', h => by
    have app : ∀ {c' d' : Nd}, (c'.mk = c.mk ∧ (c.rws → c'.rws)) → (d'.mk = d.mk ∧ (d.rws → d'.rws)) → ∀ o', (Nd.thn o' c' d').mk = (Nd.thn o c d).mk ∧ ((Nd.thn o c d).rws → (Nd.thn o' c' d').rws) := fun {c' d'} h1 h2 o' =>
      ⟨by show c'.mk ++ d'.mk = c.mk ++ d.mk; rw [h1.1, h2.1], fun z => ⟨h1.2 z.1, h2.2 z.2⟩⟩
    rw [draw_thn] at h
    split at h
    · cases h; exact ⟨rfl, id⟩
    · split at h
      · split at h
        · cases h
        · rename_i h1
          have F := draw_mk f _ _ _ _ _ h1
          cases h; exact app ⟨rfl, id⟩ F _
      · split at h
        · cases h
        · rename_i h1
          have F := draw_mk f _ _ _ _ _ h1
          split at h
          · cases h
          · rename_i h2
            have G := draw_mk f _ _ _ _ _ h2
            cases h; exact app F G _
        · rename_i h1
          have F := draw_mk f _ _ _ _ _ h1
          cases h; exact app F ⟨rfl, id⟩ _
        · rename_i h1
          have F := draw_mk f _ _ _ _ _ h1
          cases h; exact app F ⟨rfl, id⟩ _
theorem rest_iff {n r w : Int} (hw : 2 ≤ w) (h0 : 0 ≤ r) (h1 : r < w) : (n - r) % w = 0 ↔ n % w = r := by
  constructor
  · intro h
    have e : n = r + w * ((n - r) / w) := by have := Int.emod_add_mul_ediv (n - r) w; omega
    rw [e, Int.add_mul_emod_self_left, Int.emod_eq_of_lt h0 h1]
  · intro h
    rw [← h, Int.sub_emod, Int.emod_emod_of_dvd _ (Int.dvd_refl w), Int.sub_self, Int.zero_emod]
theorem rem_again {k : Kd} {o o' : Ow} {n : Int} {xs : List Int} (h : pass k o n = .again o') (hk : k.ok) (hi : k.inv o) : k.rem o (n :: xs) = k.rem o' xs := by
  cases k with
  | keep r w =>
    simp only [pass] at h
    split at h
    · cases h
    · rename_i hn
      cases h
      rw [rest_iff hk.1 hk.2.2.1 hk.2.2.2] at hn
      show (n :: xs).filter (fun x => decide (x % w = r)) = xs.filter (fun x => decide (x % w = r))
      rw [List.filter_cons_of_neg (by simpa using hn)]
  | drop k =>
    simp only [pass] at h
    split at h
    · rename_i hl
      cases h
      have h0 : 0 ≤ o.left := hi
      show (n :: xs).drop (k - o.left).toNat = xs.drop (k - (o.left + 1)).toNat
      obtain ⟨j, hj⟩ : ∃ j : Nat, (k - o.left).toNat = j + 1 := ⟨(k - o.left).toNat - 1, by omega⟩
      rw [hj, List.drop_succ_cons, show (k - (o.left + 1)).toNat = j by omega]
    · cases h
  | unlike =>
    simp only [pass] at h
    split at h
    · rename_i hl
      cases h
      show unl o.last (n :: xs) = unl o.last xs
      show (if o.last = some n then unl (some n) xs else n :: unl (some n) xs) = _
      rw [if_pos hl.2, hl.2]
    · cases h
  | «until» a =>
    simp only [pass] at h
    split at h <;> cases h
  | _ => cases h
theorem rem_tell {k : Kd} {o o' : Ow} {n v : Int} {xs : List Int} (h : pass k o n = .tell v o') (ha : ahead k o = none) (hk : k.ok) (hi : k.inv o) : k.rem o (n :: xs) = v :: k.rem (o'.fin (.num v)) xs := by
  cases k with
  | add a => cases h; rfl
  | times a => cases h; rfl
  | keep r w =>
    simp only [pass] at h
    split at h
    · rename_i hn
      cases h
      rw [rest_iff hk.1 hk.2.2.1 hk.2.2.2] at hn
      show (n :: xs).filter (fun x => decide (x % w = r)) = n :: xs.filter (fun x => decide (x % w = r))
      rw [List.filter_cons_of_pos (by simpa using hn)]
    · cases h
  | drop k =>
    simp only [pass] at h
    split at h
    · cases h
    · rename_i hl
      cases h
      show (n :: xs).drop (k - o.left).toNat = n :: xs.drop (k - (o.left + 1)).toNat
      rw [show (k - o.left).toNat = 0 by omega, show (k - (o.left + 1)).toNat = 0 by omega]
      rfl
  | take k =>
    cases h
    simp only [ahead] at ha
    split at ha
    · cases ha
    · rename_i hne
      have : (o.told : Int) ≤ k := hi
      show (n :: xs).take (k - (o.told : Int)).toNat = n :: xs.take (k - ((o.told + 1 : Nat) : Int)).toNat
      obtain ⟨j, hj⟩ : ∃ j : Nat, (k - (o.told : Int)).toNat = j + 1 := ⟨(k - (o.told : Int)).toNat - 1, by omega⟩
      rw [hj, List.take_succ_cons, show (k - ((o.told + 1 : Nat) : Int)).toNat = j by omega]
  | each k =>
    cases h
    simp only [ahead] at ha
    split at ha
    · cases ha
    · rename_i hl
      have hk1 : 1 ≤ k := hk.1
      show List.replicate o.left.toNat (o.last.getD 0) ++ (n :: xs).flatMap (fun x => List.replicate k.toNat x) = n :: (List.replicate (k - 1).toNat n ++ xs.flatMap fun x => List.replicate k.toNat x)
      rw [show o.left.toNat = 0 by omega, List.flatMap_cons]
      obtain ⟨j, hj⟩ : ∃ j : Nat, k.toNat = j + 1 := ⟨k.toNat - 1, by omega⟩
      rw [hj, show (k - 1).toNat = j by omega, List.replicate_succ]
      rfl
  | «until» a =>
    simp only [pass] at h
    split at h
    · cases h
    · rename_i hl
      cases h
      show (n :: xs).takeWhile (fun x => decide (x < a)) = n :: xs.takeWhile (fun x => decide (x < a))
      rw [List.takeWhile_cons_of_pos (by simp; omega)]
  | unlike =>
    simp only [pass] at h
    split at h
    · cases h
    · rename_i hl
      cases h
      have hi : 0 < o.told ↔ o.last.isSome = true := hi
      have hne : ¬ o.last = some n := fun z => hl ⟨hi.mpr (by rw [z]; rfl), z⟩
      show (if o.last = some n then unl (some n) xs else n :: unl (some n) xs) = n :: unl (some n) xs
      rw [if_neg hne]
theorem rem_stop {k : Kd} {o : Ow} {n : Int} {xs : List Int} (h : pass k o n = .stop) : k.rem o (n :: xs) = [] := by
  cases k with
  | «until» a =>
    simp only [pass] at h
    split at h
    · rename_i hl
      show (n :: xs).takeWhile (fun x => decide (x < a)) = []
      rw [List.takeWhile_cons_of_neg (by simp; omega)]
    · cases h
  | keep r w => simp only [pass] at h; split at h <;> cases h
  | drop k => simp only [pass] at h; split at h <;> cases h
  | unlike => simp only [pass] at h; split at h <;> cases h
  | _ => cases h
theorem rem_nil {k : Kd} {o : Ow} (ha : ahead k o = none) : k.rem o [] = [] := by
  cases k with
  | each k =>
    simp only [ahead] at ha
    split at ha
    · cases ha
    · show List.replicate o.left.toNat _ ++ [] = []
      rw [show o.left.toNat = 0 by omega]
      rfl
  | drop k => exact List.drop_nil
  | take k => exact List.take_nil
  | _ => rfl
theorem rem_ahead {k : Kd} {o o' : Ow} {r : Rs} {xs : List Int} (ha : ahead k o = some (r, o')) : (∃ v, r = .num v ∧ k.rem o xs = v :: k.rem (o'.fin r) xs) ∨ (r = .fin ∧ k.rem o xs = []) := by
  cases k with
  | take k =>
    simp only [ahead] at ha
    split at ha
    · rename_i h
      cases ha
      refine .inr ⟨rfl, ?_⟩
      show xs.take (k - (o.told : Int)).toNat = []
      rw [show (k - (o.told : Int)).toNat = 0 by omega]
      rfl
    · cases ha
  | each k =>
    simp only [ahead] at ha
    split at ha
    · rename_i h
      cases ha
      refine .inl ⟨_, rfl, ?_⟩
      show List.replicate o.left.toNat (o.last.getD 0) ++ _ = o.last.getD 0 :: (List.replicate (o.left - 1).toNat (o.last.getD 0) ++ _)
      obtain ⟨j, hj⟩ : ∃ j : Nat, o.left.toNat = j + 1 := ⟨o.left.toNat - 1, by omega⟩
      rw [hj, show (o.left - 1).toNat = j by omega, List.replicate_succ]
      rfl
    · cases ha
  | _ => cases ha
theorem pass_over' {k : Kd} {o o' : Ow} {n : Int} : (pass k o n = .again o' → o'.over = o.over) ∧ ∀ v, pass k o n = .tell v o' → o'.over = o.over := by
  cases k <;> simp only [pass] <;> refine ⟨fun h => ?_, fun v h => ?_⟩ <;> first | (split at h <;> first | cases h; rfl | cases h) | (cases h; rfl) | cases h
theorem ahead_over' {k : Kd} {o o' : Ow} {r : Rs} (h : ahead k o = some (r, o')) : o'.over = o.over := by
  cases k with
  | take k => simp only [ahead] at h; split at h <;> cases h; rfl
  | each k => simp only [ahead] at h; split at h <;> cases h; rfl
  | _ => cases h
theorem draw_rem : ∀ (f : Nat) (x : Nd) (m : Mt) (r : Rs) (x' : Nd) (m' : Mt), draw f x m = some (r, x', m') → x.inv → x.rws → m.book ≤ 200 → (∀ v, r = .num v → x.rem = v :: x'.rem) ∧ (r = .fin → x.rem = [])
  | 0, _, _, _, _, _, h, _, _, _ => by simp only [draw] at h; cases h
  | f + 1, .mkr (.row ns) g, m, r, x', m', h, _, _, _ => by
    simp only [draw] at h
    split at h
    · rename_i hl
      cases h
      exact ⟨fun v z => (by cases z), fun _ => List.drop_eq_nil_of_le hl⟩
    · rename_i hl
      split at h
      · cases h; exact ⟨fun v z => (by cases z), fun z => by cases z⟩
      · cases h
        refine ⟨fun v z => ?_, fun z => by cases z⟩
        cases z
        show ns.drop g = ns.getD g 0 :: ns.drop (g + 1)
        rw [List.drop_eq_getElem_cons (by omega), List.getD_eq_getElem?_getD, List.getElem?_eq_getElem (by omega)]
        rfl
  | f + 1, .mkr (.count b s) g, m, r, x', m', h, _, hrw, _ => hrw.elim
  | f + 1, .st k o c, m, r, x', m', h, hi, hrw, hb => by
    obtain ⟨hk, hki, hc⟩ := hi
    rw [draw_st] at h
    split at h
    · rename_i ho
      cases h
      exact ⟨fun v z => (by cases z), fun _ => if_pos ho⟩
    · rename_i ho
      have e0 : (Nd.st k o c).rem = k.rem o c.rem := if_neg ho
      split at h
      · rename_i r0 o' ha
        cases h
        have hov := ahead_over' ha
        rcases rem_ahead (xs := c.rem) ha with ⟨v, rfl, q⟩ | ⟨rfl, q⟩
        · refine ⟨fun w z => ?_, fun z => by cases z⟩
          cases z
          rw [e0, q]
          show _ = v :: (if (o'.fin (.num v)).over = true then [] else _)
          rw [if_neg (by show ¬ o'.over = true; rw [hov]; exact ho)]
        · exact ⟨fun w z => (by cases z), fun _ => by rw [e0, q]⟩
      · rename_i ha
        split at h
        · cases h
        · rename_i n c' m1 hd
          have F := draw_rem f _ _ _ _ _ hd hc hrw hb
          have D := draw_facts f c m _ c' m1 hd hc hb
          have ec : c.rem = n :: c'.rem := F.1 n rfl
          split at h
          · rename_i o' hp
            obtain ⟨q1, _⟩ := pass_again hp hki
            have G := draw_rem f (.st k o' c') m1 r x' m' h ⟨hk, q1, D.inv⟩ ((draw_mk f _ _ _ _ _ hd).2 hrw) D.b2
            have hov := pass_over'.1 hp
            have e1 : (Nd.st k o c).rem = (Nd.st k o' c').rem := by
              rw [e0, ec, rem_again hp hk hki]
              exact (if_neg (by rw [hov]; exact ho)).symm
            rw [e1]
            exact G
          · rename_i v o' hp
            cases h
            have hov := (pass_over' (k := k) (o := o) (o' := o') (n := n)).2 v hp
            refine ⟨fun w z => ?_, fun z => by cases z⟩
            cases z
            rw [e0, ec, rem_tell hp ha hk hki]
            show _ = v :: (if (o'.fin (.num v)).over = true then [] else _)
            rw [if_neg (by show ¬ o'.over = true; rw [hov]; exact ho)]
          · rename_i hp
            cases h
            exact ⟨fun w z => (by cases z), fun _ => by rw [e0, ec, rem_stop hp]⟩
        · rename_i c' m1 hd
          cases h
          have F := draw_rem f _ _ _ _ _ hd hc hrw hb
          exact ⟨fun w z => (by cases z), fun _ => by rw [e0, F.2 rfl, rem_nil ha]⟩
        · cases h
          exact ⟨fun w z => (by cases z), fun z => by cases z⟩
  | f + 1, .both o c d, m, r, x', m', h, hi, hrw, hb => by
    rw [draw_both] at h
    split at h
    · rename_i ho
      cases h
      exact ⟨fun v z => (by cases z), fun _ => if_pos ho⟩
    · rename_i ho
      have e0 : (Nd.both o c d).rem = List.zipWith (· + ·) c.rem d.rem := if_neg ho
      split at h
      · cases h
      · rename_i a c' m1 h1
        have F := draw_rem f _ _ _ _ _ h1 hi.1 hrw.1 hb
        have D := draw_facts f c m _ c' m1 h1 hi.1 hb
        split at h
        · cases h
        · rename_i b d' m2 h2
          have G := draw_rem f _ _ _ _ _ h2 hi.2 hrw.2 D.b2
          cases h
          refine ⟨fun w z => ?_, fun z => by cases z⟩
          cases z
          rw [e0, F.1 a rfl, G.1 b rfl, List.zipWith_cons_cons]
          show _ = (a + b) :: (if (o.fin (.num (a + b))).over = true then [] else _)
          rw [if_neg (show ¬ (o.fin (.num (a + b))).over = true from ho)]
        · rename_i d' m2 h2
          have G := draw_rem f _ _ _ _ _ h2 hi.2 hrw.2 D.b2
          cases h
          exact ⟨fun w z => (by cases z), fun _ => by rw [e0, G.2 rfl, List.zipWith_nil_right]⟩
        · cases h
          exact ⟨fun w z => (by cases z), fun z => by cases z⟩
      · rename_i c' m1 h1
        have F := draw_rem f _ _ _ _ _ h1 hi.1 hrw.1 hb
        cases h
        exact ⟨fun w z => (by cases z), fun _ => by rw [e0, F.2 rfl, List.zipWith_nil_left]⟩
      · cases h
        exact ⟨fun w z => (by cases z), fun z => by cases z⟩
  | f + 1, .thn o c d, m, r, x', m', h, hi, hrw, hb => by
    rw [draw_thn] at h
    split at h
    · rename_i ho
      cases h
      exact ⟨fun v z => (by cases z), fun _ => if_pos ho⟩
    · rename_i ho
      obtain ⟨hl, hc, hd⟩ := hi
      split at h
      · rename_i hone
        have e0 : (Nd.thn o c d).rem = d.rem := by show (if o.over = true then [] else if o.left = 1 then d.rem else c.rem ++ d.rem) = _; rw [if_neg ho, if_pos hone]
        split at h
        · cases h
        · rename_i r0 d' m1 h1
          have F := draw_rem f _ _ _ _ _ h1 hd hrw.2 hb
          cases h
          refine ⟨fun w z => ?_, fun z => by rw [e0, F.2 z]⟩
          subst z
          rw [e0, F.1 w rfl]
          show _ = w :: (if o.over = true then [] else if o.left = 1 then d'.rem else c.rem ++ d'.rem)
          rw [if_neg ho, if_pos hone]
      · rename_i hone
        have e0 : (Nd.thn o c d).rem = c.rem ++ d.rem := by show (if o.over = true then [] else if o.left = 1 then d.rem else c.rem ++ d.rem) = _; rw [if_neg ho, if_neg hone]
        split at h
        · cases h
        · rename_i c' m1 h1
          have F := draw_rem f _ _ _ _ _ h1 hc hrw.1 hb
          have D := draw_facts f c m _ c' m1 h1 hc hb
          split at h
          · cases h
          · rename_i r0 d' m2 h2
            have G := draw_rem f _ _ _ _ _ h2 hd hrw.2 D.b2
            cases h
            rw [F.2 rfl, List.nil_append] at e0
            refine ⟨fun w z => ?_, fun z => by rw [e0, G.2 z]⟩
            subst z
            rw [e0, G.1 w rfl]
            show _ = w :: (if o.over = true then [] else if (1 : Int) = 1 then d'.rem else c'.rem ++ d'.rem)
            rw [if_neg ho, if_pos rfl]
        · rename_i n c' m1 h1
          have F := draw_rem f _ _ _ _ _ h1 hc hrw.1 hb
          cases h
          refine ⟨fun w z => ?_, fun z => by cases z⟩
          cases z
          rw [e0, F.1 n rfl]
          show _ = n :: (if o.over = true then [] else if o.left = 1 then d.rem else c'.rem ++ d.rem)
          rw [if_neg ho, if_neg hone]
          rfl
        · cases h
          exact ⟨fun w z => (by cases z), fun z => by cases z⟩
/-- at the start: the whole row -/
theorem rem_ow0 (k : Kd) (xs : List Int) : k.rem ow0 xs = k.row xs := by
  cases k with
  | drop k => show xs.drop (k - 0).toNat = xs.drop k.toNat; rw [Int.sub_zero]
  | take k => show xs.take (k - ((0 : Nat) : Int)).toNat = xs.take k.toNat; rw [show k - ((0 : Nat) : Int) = k by omega]
  | each k => rfl
  | _ => rfl
theorem cap_eq {xs ys : List Int} (h : cap xs = some ys) : xs = ys := by
  unfold cap at h
  split at h <;> cases h
  rfl
theorem row_rem : ∀ {c : Ch} {xs : List Int}, c.row = some xs → c.nd.rem = xs
  | .mkr (.row ns), xs, h => by cases h; rfl
  | .mkr (.count _ _), xs, h => by cases h
  | .st c k, xs, h => by
    obtain ⟨ys, h1, h2⟩ := Option.bind_eq_some_iff.mp h
    show k.rem ow0 c.nd.rem = xs
    rw [row_rem h1, rem_ow0, cap_eq h2]
  | .both c o, xs, h => by
    obtain ⟨ys, h1, h2⟩ := Option.bind_eq_some_iff.mp h
    obtain ⟨zs, h3, h4⟩ := Option.bind_eq_some_iff.mp h2
    show List.zipWith (· + ·) c.nd.rem o.nd.rem = xs
    rw [row_rem h1, row_rem h3, cap_eq h4]
  | .thn c o, xs, h => by
    obtain ⟨ys, h1, h2⟩ := Option.bind_eq_some_iff.mp h
    obtain ⟨zs, h3, h4⟩ := Option.bind_eq_some_iff.mp h2
    show c.nd.rem ++ o.nd.rem = xs
    rw [row_rem h1, row_rem h3, cap_eq h4]
theorem nd_rws : ∀ {c : Ch}, c.rows → c.nd.rws
  | .mkr _, h => h
  | .st c _, h => nd_rws (c := c) h
  | .both c o, h => ⟨nd_rws h.1, nd_rws h.2⟩
  | .thn c o, h => ⟨nd_rws h.1, nd_rws h.2⟩
theorem gv_mk : ∀ x : Nd, x.gv.length = x.mk.length
  | .mkr _ _ => rfl
  | .st _ _ c => gv_mk c
  | .both _ c d => by show (c.gv ++ d.gv).length = (c.mk ++ d.mk).length; rw [List.length_append, List.length_append, gv_mk c, gv_mk d]
  | .thn _ c d => by show (c.gv ++ d.gv).length = (c.mk ++ d.mk).length; rw [List.length_append, List.length_append, gv_mk c, gv_mk d]
/-- no maker is drawn beyond its row -/
theorem inv_gv : ∀ (x : Nd), x.inv → ∀ (k : Nat) (g : Int) (ns : List Int), x.gv[k]? = some g → x.mk[k]? = some (.row ns) → 0 ≤ g ∧ g ≤ (ns.length : Int)
  | .mkr (.row ns) g', h, k, g, ms, h1, h2 => by
    cases k with
    | zero => cases h1; cases h2; exact ⟨by omega, by have : g' ≤ ns.length := h.1; omega⟩
    | succ k => cases h2
  | .mkr (.count _ _) _, h, k, g, ns, h1, h2 => by
    cases k with
    | zero => cases h2
    | succ k => cases h2
  | .st _ _ c, h, k, g, ns, h1, h2 => inv_gv c h.2.2 k g ns h1 h2
  | .both _ c d, h, k, g, ns, h1, h2 => by
    have hl : c.gv.length = c.mk.length := gv_mk c
    have h1 : (c.gv ++ d.gv)[k]? = some g := h1
    have h2 : (c.mk ++ d.mk)[k]? = some (.row ns) := h2
    rcases Nat.lt_or_ge k c.gv.length with q | q
    · rw [List.getElem?_append_left q] at h1
      rw [List.getElem?_append_left (hl ▸ q)] at h2
      exact inv_gv c h.1 k g ns h1 h2
    · rw [List.getElem?_append_right q] at h1
      rw [List.getElem?_append_right (hl ▸ q), ← hl] at h2
      exact inv_gv d h.2 _ g ns h1 h2
  | .thn _ c d, h, k, g, ns, h1, h2 => by
    have hl : c.gv.length = c.mk.length := gv_mk c
    have h1 : (c.gv ++ d.gv)[k]? = some g := h1
    have h2 : (c.mk ++ d.mk)[k]? = some (.row ns) := h2
    rcases Nat.lt_or_ge k c.gv.length with q | q
    · rw [List.getElem?_append_left q] at h1
      rw [List.getElem?_append_left (hl ▸ q)] at h2
      exact inv_gv c h.2.1 k g ns h1 h2
    · rw [List.getElem?_append_right q] at h1
      rw [List.getElem?_append_right (hl ▸ q), ← hl] at h2
      exact inv_gv d h.2.2 _ g ns h1 h2
end Dc

set_option Elab.async false
set_option linter.all false
set_option maxRecDepth 100000
set_option maxHeartbeats 2000000
namespace Dc
open PySem PySem.Spec PyProof.Rows L2
local macro_rules | `(tactic| walk_at "ne") => `(tactic| first | assumption | (refine Ne.symm ?_; assumption) | exact ne_of (by assumption) (by assumption) (by intro q; cases q) | exact ne_of_none (by assumption) (by assumption) | exact Ne.symm (ne_of_none (by assumption) (by assumption)))
local macro_rules | `(tactic| walk_at "hp") => `(tactic| first | assumption | exact upd_same | (refine upd_keep ?_ (by assumption); walk_at "hp") | (refine upd_other ?_ ?_; · walk_at "ne"; · walk_at "hp"))
local macro_rules | `(tactic| walk_at "hl") => `(tactic| first | assumption | exact SqL.of (by walk_at "hp"))
local macro_rules | `(tactic| walk_at "ht") => `(tactic| first | assumption | exact SqT.of (by walk_at "hp"))
local macro_rules | `(tactic| walk_at "rd1") => `(tactic| first
  | ((with_reducible apply rd_var); exact rfl)
  | ((with_reducible apply rd_eq); exact rfl) | ((with_reducible apply rd_ne); exact rfl)
  | with_reducible first
  | refine iteT ?_ | refine iteF ?_ | refine rd_nF ?_ | refine rd_nT ?_ | refine rd_yes ?_ | refine rd_c ?_ | refine rd_op ?_ | refine rd_un ?_ | refine rd_test ?_ | refine rd_B ?_ | refine rd_bl ?_ | refine rd_seq ?_ | refine rd_next ?_ | refine rd_ifs ?_ | refine rd_asg ?_ | refine rd_name ?_ | refine rd_ret ?_ | refine rd_drop ?_
  | refine rd_call ?_ | refine rd_cons ?_ | refine rd_nil ?_ | refine rd_cb ?_ | refine rd_I0 ?_ | refine rd_U ?_ | refine rd_gsub ?_ | refine rd_lst ?_ | refine rd_tup ?_ | refine rd_if ?_ | refine rd_not ?_ | refine rd_rng1 ?_ | refine rd_itup ?_ | refine rd_ilst ?_ | refine rd_bm ?_ | refine rd_bm0 ?_ | refine rd_andV ?_ | refine rd_orV ?_ | refine rd_notV ?_)
local macro_rules | `(tactic| walk_at "rd") => `(tactic| repeat walk_at "rd1")
local macro_rules | `(tactic| walk_at "ci") => `(tactic| first | assumption | (show (0 : Int) < _; first | decide | omega) | exact ⟨by decide, by decide⟩ | exact Or.inr ⟨by decide, by decide⟩ | exact Or.inl ⟨by decide, by decide⟩ | exact ⟨by decide, by decide, by decide⟩ | exact Or.inl ⟨by omega, by omega⟩ | exact Or.inr ⟨by omega, by omega⟩)
local macro_rules | `(tactic| walk_at "ix") => `(tactic| first
  | ((with_reducible apply rd_ixL); (walk_at "hl"); exact rfl)
  | ((with_reducible apply rd_ixT); (walk_at "ht"); exact rfl)
  | ((with_reducible apply rd_lenL); (walk_at "hl"))
  | ((with_reducible apply rd_lenT); (walk_at "ht"))
  | ((with_reducible apply rd_tupOf); (walk_at "hl"))
  | ((with_reducible apply rd_listOf); (walk_at "hl"))
  | (with_reducible refine rd_min2 ?_)
  | ((with_reducible apply rd_I); (walk_at "ci"))
  | ((with_reducible apply rd_setL); (walk_at "hp"); exact rfl))
local macro_rules | `(tactic| walk_at "gs") => `(tactic| repeat first | walk_at "rd1" | walk_at "ix")
local macro_rules | `(tactic| walk_at "go") => `(tactic| repeat first | walk_at "rd1" | walk_at "ix" | with_reducible refine rd_and ?_ | with_reducible refine rd_or ?_)
local macro_rules | `(tactic| walk_at "fo") => `(tactic| (with_reducible refine rd_for ?_))
local macro_rules | `(tactic| walk_at "pm") => `(tactic| repeat first
  | with_reducible first | refine rd_pcons ?_ | refine rd_pstr ?_ | refine rd_pcap ?_ | refine rd_pwild ?_ | refine rd_pnil ?_ | refine rd_por ?_ | refine rd_pno ?_
  | ((with_reducible refine rd_eq rfl ?_); refine ⟨_, rfl, ?_⟩; first | refine rd_T rfl ?_ | refine rd_F (by decide) ?_)
  | dsimp only [List.nil_append, List.singleton_append, List.cons_append, setAll])
local macro_rules | `(tactic| walk_at "pc") => `(tactic| (refine rd_case ?_); (first | (refine rd_phit (SqT.of (by assumption)) rfl ?_) | (refine rd_pmiss (SqT.of (by assumption)) (by simp) ?_)); (walk_at "pm"))

/-! ### first, as a path of draws (DcFirst without the law's own drawing) -/
theorem nd_gv : ∀ c : Ch, c.nd.gv = List.replicate c.nm 0
  | .mkr _ => rfl
  | .st c k => nd_gv c
  | .both c o => by show c.nd.gv ++ o.nd.gv = List.replicate (c.nm + o.nm) 0; rw [nd_gv c, nd_gv o, List.replicate_append_replicate]
  | .thn c o => by show c.nd.gv ++ o.nd.gv = List.replicate (c.nm + o.nm) 0; rw [nd_gv c, nd_gv o, List.replicate_append_replicate]
theorem nd_alive : ∀ c : Ch, c.nd.alive ≤ c.ns
  | .mkr _ => Nat.le_refl _
  | .st c k => by have := nd_alive c; show ow0.al + c.nd.alive ≤ c.ns + 1; have : ow0.al = 1 := rfl; omega
  | .both c o => by have := nd_alive c; have := nd_alive o; show ow0.al + c.nd.alive + o.nd.alive ≤ c.ns + o.ns + 1; have : ow0.al = 1 := rfl; omega
  | .thn c o => by have := nd_alive c; have := nd_alive o; show ow0.al + c.nd.alive + o.nd.alive ≤ c.ns + o.ns + 1; have : ow0.al = 1 := rfl; omega
theorem nd_dep : ∀ c : Ch, c.nd.dep ≤ c.ns
  | .mkr _ => Nat.le_refl _
  | .st c k => by have := nd_dep c; show c.nd.dep + 1 ≤ c.ns + 1; omega
  | .both c o => by have := nd_dep c; have := nd_dep o; show max c.nd.dep o.nd.dep + 1 ≤ c.ns + o.ns + 1; omega
  | .thn c o => by have := nd_dep c; have := nd_dep o; show max c.nd.dep o.nd.dep + 1 ≤ c.ns + o.ns + 1; omega
theorem nd_le : ∀ c : Ch, c.nd.le 0
  | .mkr _ => Nat.le_refl _
  | .st c k => nd_le c
  | .both c o => ⟨nd_le c, nd_le o⟩
  | .thn c o => ⟨nd_le c, nd_le o⟩
section
variable {J : Cls'} {S : List Addr} {H H' : Hp} {D : DrS} {x : Nd} {m : Mt} {s : Bool} {bs : List Int}
theorem DrAt.fr (G : DrAt J H D x m s bs) (f : Fr S H H') (n : ∀ b, b ∈ D.lads s → b ∉ S) : DrAt J H' D x m s bs := by
  obtain ⟨⟨dx, e⟩, h1, h2, h3, h4, h5, h6⟩ := G
  refine ⟨⟨dx, f.at e (n _ (by simp [DrS.lads]))⟩, f.at h1 (n _ (by simp [DrS.lads])), h2.fr f (fun b hb => n b ?_), fun z => (h3 z).fr f (fun b hb => n b ?_), h4, h5, h6⟩
  · simp only [List.mem_cons, List.not_mem_nil, or_false] at hb
    cases s <;> rcases hb with z | z | z <;> simp [DrS.lads, z]
  · subst z
    simp [DrS.lads, hb]
theorem DrAt.dom (G : DrAt J H D x m s bs) : ∀ b, b ∈ D.lads s → H b ≠ none := by
  obtain ⟨⟨dx, e⟩, h1, ⟨⟨dm, e1⟩, e2, e3⟩, h3, h4, h5, h6⟩ := G
  intro b hb
  have hb2 : (s = false ∧ b ∈ D.t.ads) ∨ b = D.me ∨ b = D.cs ∨ b = D.lo ∨ b = D.da ∨ b = D.bk := by
    cases s with
    | true =>
      simp only [DrS.lads, if_true, List.mem_append, List.mem_cons, List.not_mem_nil, or_false] at hb
      rcases hb with (z | z | z) | z | z <;> simp [z]
    | false =>
      have hb : b ∈ (D.t.ads ++ [D.me, D.cs, D.lo]) ++ [D.da, D.bk] := hb
      simp only [List.mem_append, List.mem_cons, List.not_mem_nil, or_false] at hb
      rcases hb with (z | z | z | z) | z | z <;> simp [z]
  clear hb
  rcases hb2 with ⟨rfl, hb3⟩ | rfl | rfl | rfl | rfl | rfl
  · obtain ⟨C, d, fs, q⟩ := (h3 rfl).ins b hb3
    rw [q]; intro z; cases z
  · rw [e1]; intro z; cases z
  · rw [e2]; intro z; cases z
  · rw [e3]; intro z; cases z
  · rw [e]; intro z; cases z
  · rw [h1]; intro z; cases z
theorem DrS.lads_sub {s s' : Bool} (h : s = true → s' = true) {b : Addr} (hb : b ∈ D.lads s') : b ∈ D.lads s := by
  cases s with
  | true => rw [h rfl] at hb; exact hb
  | false =>
    cases s' with
    | false => exact hb
    | true =>
      show b ∈ (D.t.ads ++ [D.me, D.cs, D.lo]) ++ [D.da, D.bk]
      simp only [DrS.lads, if_true, List.mem_append, List.mem_cons, List.not_mem_nil, or_false] at hb ⊢
      rcases hb with (z | z | z) | z | z <;> simp [z]
theorem DrS.bk_lads : D.bk ∈ D.lads s := by cases s <;> simp [DrS.lads]
end
theorem rd_nF' {c A B : Prop} [Decidable c] (h : c) (h2 : B) : if (!decide c) = true then A else B := by rw [if_neg (by rw [decide_eq_true h]; decide)]; exact h2
/-- the numbers that so many next tell, one behind the other -/
structure PathN (c : Ch) (X : Nat → Nd) (L : Nat → List Int) (told : List Int) : Prop where
  x0 : X 0 = c.nd
  l0 : L 0 = []
  step : ∀ (i : Nat) (v : Int), told[i]? = some v → ∃ f b, draw f (X i) ⟨0, L i⟩ = some (.num v, X (i + 1), ⟨b, L (i + 1)⟩)
theorem rd_nT' {c A B : Prop} [Decidable c] (h : ¬ c) (h2 : A) : if (!decide c) = true then A else B := by rw [if_pos (by rw [decide_eq_false h]; decide)]; exact h2
def Rs.word : Rs → Str
  | .num _ => "number"
  | .fin => "end"
  | .long => "long"
/-- and how it ends -/
def FEnd (X : Nat → Nd) (L : Nat → List Int) (told : List Int) (many : Nat) (word : Str) (x1 : Nd) : Prop :=
  (told.length = many ∧ word = "more" ∧ x1 = X told.length) ∨
  (told.length < many ∧ ∃ f r b l1, draw f (X told.length) ⟨0, L told.length⟩ = some (r, x1, ⟨b, l1⟩) ∧ (∀ v, r ≠ .num v) ∧ word = r.word)
structure PInv (c : Ch) (x : Nd) (lost : List Int) (i : Nat) : Prop where
  inv : x.inv
  dep : x.dep ≤ 12
  al : lost.length + x.alive ≤ 1000
  le : x.le (200 * i)
  nm : x.gv.length ≤ 4
theorem PInv.new {c : Ch} (ok : c.ok) (nm : c.nm ≤ 4) (ns : c.ns ≤ 12) : PInv c c.nd [] 0 := by
  have := nd_alive c
  have := nd_dep c
  exact ⟨Ch.nd_inv ok, by omega, by show 0 + c.nd.alive ≤ 1000; omega, nd_le c, by rw [nd_gv, List.length_replicate]; exact nm⟩
theorem PInv.next {c : Ch} {x : Nd} {lost : List Int} {i : Nat} (P : PInv c x lost i) {f : Nat} {r : Rs} {x' : Nd} {b : Nat} {l' : List Int} (h : draw f x ⟨0, lost⟩ = some (r, x', ⟨b, l'⟩)) : PInv c x' l' (i + 1) := by
  have F := draw_facts _ _ _ _ _ _ h P.inv (Nat.zero_le _)
  have L := draw_lost _ _ _ _ _ _ h
  refine ⟨F.inv, by rw [L.2]; exact P.dep, Nat.le_trans L.1 P.al, Nd.le.mono ?_ (F.le _ P.le), by rw [F.gl]; exact P.nm⟩
  have : b ≤ 200 := F.b2
  show 200 * i + (b - 0) ≤ 200 * (i + 1)
  omega
theorem PathN.at {c : Ch} {X : Nat → Nd} {L : Nat → List Int} {told : List Int} (G : PathN c X L told) (P0 : PInv c c.nd [] 0) : ∀ i, i ≤ told.length → PInv c (X i) (L i) i
  | 0, _ => by rw [G.x0, G.l0]; exact P0
  | i + 1, h => by
    obtain ⟨f, b, q⟩ := G.step i told[i] (List.getElem?_eq_getElem h)
    exact (PathN.at G P0 i (Nat.le_of_succ_le h)).next q
theorem PathN.snoc {c : Ch} {X : Nat → Nd} {L : Nat → List Int} {told : List Int} (G : PathN c X L told) {f : Nat} {v : Int} {x' : Nd} {b : Nat} {l' : List Int} (h : draw f (X told.length) ⟨0, L told.length⟩ = some (.num v, x', ⟨b, l'⟩)) :
    PathN c (fun j => if j ≤ told.length then X j else x') (fun j => if j ≤ told.length then L j else l') (told ++ [v]) := by
  refine ⟨by show (if 0 ≤ told.length then X 0 else x') = _; rw [if_pos (Nat.zero_le _)]; exact G.x0, by show (if 0 ≤ told.length then L 0 else l') = _; rw [if_pos (Nat.zero_le _)]; exact G.l0, fun i w e => ?_⟩
  rcases Nat.lt_or_ge i told.length with hi | hi
  · rw [List.getElem?_append_left hi] at e
    obtain ⟨f', b', q⟩ := G.step i w e
    refine ⟨f', b', ?_⟩
    show draw f' (if i ≤ told.length then X i else x') ⟨0, if i ≤ told.length then L i else l'⟩ = some (.num w, if i + 1 ≤ told.length then X (i + 1) else x', ⟨b', if i + 1 ≤ told.length then L (i + 1) else l'⟩)
    rw [if_pos (Nat.le_of_lt hi), if_pos (Nat.le_of_lt hi), if_pos (Nat.succ_le_of_lt hi), if_pos (Nat.succ_le_of_lt hi)]
    exact q
  · have hi2 : i = told.length := by
      have := (List.getElem?_eq_some_iff.mp e).1
      rw [List.length_append, List.length_singleton] at this
      omega
    subst hi2
    rw [List.getElem?_append_right (Nat.le_refl _), Nat.sub_self] at e
    cases e
    refine ⟨f, b, ?_⟩
    show draw f (if told.length ≤ told.length then X told.length else x') ⟨0, if told.length ≤ told.length then L told.length else l'⟩ = some (.num v, if told.length + 1 ≤ told.length then X (told.length + 1) else x', ⟨b, if told.length + 1 ≤ told.length then L (told.length + 1) else l'⟩)
    rw [if_pos (Nat.le_refl _), if_pos (Nat.le_refl _), if_neg (Nat.not_succ_le_self _), if_neg (Nat.not_succ_le_self _)]
    exact h
def spFirst : Sp := fun vs H Q _ => ∃ (p : Addr) (c : Ch) (X : Nat → Nd) (L : Nat → List Int) (told : List Int) (many : Nat) (word : Str) (x1 : Nd), vs = [.ref p, .int many] ∧ ChAt H p c ∧ c.ok ∧ c.nm ≤ 4 ∧ c.ns ≤ 12 ∧ many ≤ 1000 ∧ PathN c X L told ∧ FEnd X L told many word x1 ∧
  ∀ H' q a b, H' q = some (.tup [.ref a, .str word, .ref b]) → H' a = some (.lst (told.map V.int)) → H' b = some (.lst (x1.gv.map V.int)) → H a = none → H b = none → a ≠ b → Fr [] H H' → Q (.ref q) H'
theorem wexit {cc t B : Prop} [Decidable cc] (z : B) (ht : cc → B → t) : if decide cc = true then t else B := by
  by_cases h : cc
  · rw [if_pos (decide_eq_true h)]; exact ht h z
  · rw [if_neg (by rw [decide_eq_false h]; decide)]; exact z
section
variable {P : Program} {w : World} {K : PySem.W.Frag} {mg : Str → Option Value} {base : Heap} {J : Cls'}
theorem sc_first : FnScope ["chain", "many", "drawer", "told", "answer"] ["chain", "many"] (defScope s_first) := ⟨rfl, rfl, rfl, by decide +kernel, rfl, by decide +kernel, by decide +kernel⟩
theorem ok_first (T : Txt K mg) {f : Addr} {fd : FuncData} (F : FnP K "first" "first" s_first f fd) (G_is_within : Cal P w K mg base CX0 2 "is_within" ["number", "low", "high"] spIsWithin)
    (I_Drawer : CalI P w K mg base CX0 14 "Drawer" J.drawer ["self", "chain"] (spDInit J))
    (G_next : CalM P w K mg base CX0 27 J.drawer "next" ["self"] (spNext J 12))
    (G_drawn : CalM P w K mg base CX0 1 J.drawer "drawn" ["self"] (spDrawnP J)) :
    FnOk P w K mg base CX0 28 f fd ["chain", "many"] spFirst := by
  refine ok0 F sc_first (fun vs H Q E h => ?_) (fun cdv A outer s H vs Q E hr h => ?_)
  · obtain ⟨p, c, X, L, told, many, word, x1, rfl, _⟩ := h
    rfl
  · obtain ⟨p, c, X, L, told, many, word, x1, rfl, hc, cok, cnm, cns, hm, G, E1, k⟩ := h
    have P0 := PInv.new cok cnm cns
    refine ⟨_, (pss_cons (ps_set (i := 2) sc_first.nd rfl (Or.inl rfl) (pe_mk I_Drawer (hr.mono (by omega)) pass0 (pa_cons (pv 0) pa_nil)))
  (pss_cons (ps_if (pt_not (pt_val (pe_cal G_is_within (hr.mono (by omega)) pass0 (pa_cons (pv 1) (pa_cons pe_int (pa_cons (pe_cint T.c_ASKED_AT_MOST) pa_nil))))))
    (pss_one ps_dead) pss_nil)
  (pss_cons (ps_set (i := 3) sc_first.nd rfl (Or.inl rfl) (pe_lst pa_nil))
  (pss_cons (ps_while PassesOwn.never (pt_cmpR op_lt (pe_callB (call_len1K K) (by rfl) T.free_len (by decide +kernel) (pa_cons (pv 3) pa_nil)) (pv 1) (nomark _))
    (pss_cons (ps_set (i := 4) sc_first.nd rfl (Or.inl rfl) (pe_cm0 (pv 2) G_next (hr.mono (by omega)) pass0))
    (pss_cons (ps_if (pt_cmpR op_ne (pe_ix (ix_tupK K) (pv 4) pe_int (fun _ _ => rfl)) pe_str (nomark _))
      (pss_one (ps_ret (pe_tup (pa_cons (pv 3) (pa_cons (pe_ix (ix_tupK K) (pv 4) pe_int (fun _ _ => rfl)) (pa_cons (pe_cm0 (pv 2) G_drawn (hr.mono (by omega)) pass0) pa_nil)))))) pss_nil)
    (pss_one (ps_expr (pe_bm PySem.F.plainAttrs_list PySem.F.slot_list_append PySem.F.type_list_append mt_append (pv 3) (pa_cons (pe_ix (ix_tupK K) (pv 4) pe_int (fun _ _ => rfl)) pa_nil)))))))
  (pss_one (ps_ret (pe_tup (pa_cons (pv 3) (pa_cons pe_str (pa_cons (pe_cm0 (pv 2) G_drawn (hr.mono (by omega)) pass0) pa_nil)))))))))), ?_⟩
    try dsimp only [cxOf, Cx.nox, Cx.wish]
    refine rd_at (σ' := [some (.ref p), some (.int many), none, none, none]) rfl ?_
    walk_at "go"
    refine rd_make ?_
    walk_at "go"
    intro x dx hx hdx nd
    have hx' : upd H dx (.own x) x = none := by rw [upd_ne nd.symm]; exact hx
    have fm : Fr [] H (upd (upd H dx (.own x)) x (.ins J.drawer dx [])) := (Fr.new hdx).newN hx'
    refine ⟨x, dx, p, c, rfl, upd_same, hc.fr fm, cok, cnm, cns, fun H4 D hda dr dfr f4 => ⟨rfl, ?_⟩⟩
    subst hda
    have f04 : Fr [] H H4 := fm.trans f4 fun b hb => by rw [List.mem_singleton] at hb; rw [hb]; exact .inr hx
    have dn : ∀ b, b ∈ D.ads → H b = none := fun b hb => by
      rcases dfr b hb with z | z
      · rw [z]; exact hx
      · exact fm.free (by simp) z
    clear fm f4 dfr hx' hx hdx nd
    walk_at "go"
    refine ⟨many, 0, 1000, rfl, ⟨by omega, by omega⟩, by omega, by omega, ?_⟩
    walk_at "go"
    refine ⟨Nat.zero_le _, fun l hl => ?_⟩
    have f5 : Fr [] H4 (upd H4 l (.lst [])) := Fr.new hl
    have dr5 := dr.fr f5 (fun _ _ => by simp)
    have e5 : upd H4 l (.lst []) l = some (.lst []) := upd_same
    have nl : ∀ s, l ∉ D.lads s := fun s z => dr.dom l (DrS.lads_sub (fun y => by cases y) z) hl
    have hl0 : H l = none := f04.free (by simp) hl
    have dn0 : ∀ s b, b ∈ D.lads s → H b = none := fun s b hb => dn b (DrS.lads_sub (s := false) (fun y => by cases y) hb)
    have f05 := f04.tr f5
    generalize upd H4 l (.lst []) = H5 at *
    clear f04 f5 dr hl dn
    have hT : told.length ≤ many := by rcases E1 with ⟨z, _⟩ | ⟨z, _⟩ <;> omega
    have step : ∀ {H6 : Hp} {i b : Nat} {r : Rs} {f : Nat} {x' : Nd} {b' : Nat} {l' : List Int}, i ≤ told.length → DrAt J H6 D (X i) ⟨b, L i⟩ false [] → draw f (X i) ⟨0, L i⟩ = some (r, x', ⟨b', l'⟩) → ∀ (Qv : VK), (∀ H7 q, H7 q = some (.tup r.vals) → DrAt J H7 D x' ⟨b', l'⟩ r.isLong [] → Fr (D.lads false) H6 H7 → Qv (.ref q) H7) → spNext J 12 [.ref D.da] H6 Qv E0 := fun {H6 i b r f x' b' l'} hi dr h Qv q => by
      have P := G.at P0 i hi
      exact ⟨D, X i, ⟨b, L i⟩, false, [], r, x', ⟨b', l'⟩, r.isLong, [], rfl, dr, P.inv, P.dep, P.al, .inr (.inr ⟨rfl, rfl, ⟨f, h⟩, rfl, rfl⟩), q⟩
    walk_at "go"
    refine ⟨fun m σ H6 => ∃ (i b : Nat) (v4 : Option V), m = told.length - i ∧ i ≤ told.length ∧ σ = [some (.ref p), some (.int many), some (.ref D.da), some (.ref l), v4] ∧ H6 l = some (.lst ((told.take i).map V.int)) ∧ DrAt J H6 D (X i) ⟨b, L i⟩ false [] ∧ Fr [] H H6, ⟨_, 0, 200, none, rfl, Nat.zero_le _, rfl, e5, by rw [G.x0, G.l0]; exact dr5, f05⟩, ?_⟩
    clear dr5 e5 f05 H5
    rintro m σ H6 ⟨i, b, v4, rfl, hi, rfl, e6, dr6, f6⟩
    have hlen : ((told.take i).map V.int).length = i := by rw [List.length_map, List.length_take]; omega
    walk_at "go"
    rw [hlen]
    rcases Nat.lt_or_ge i told.length with hlt | hge
    · obtain ⟨f, b', h⟩ := G.step i told[i] (List.getElem?_eq_getElem hlt)
      refine rd_T (by omega) ?_
      refine ⟨fun σ' H7 => ∃ v4, σ' = [some (.ref p), some (.int many), some (.ref D.da), some (.ref l), v4] ∧ H7 l = some (.lst ((told.take (i + 1)).map V.int)) ∧ DrAt J H7 D (X (i + 1)) ⟨b', L (i + 1)⟩ false [] ∧ Fr [] H H7, fun σ' H7 ⟨v4, q1, q2, q3, q4⟩ => ⟨told.length - (i + 1), by omega, i + 1, b', v4, rfl, hlt, q1, q2, q3, q4⟩, ?_⟩
      walk_at "go"
      obtain ⟨dx, eo⟩ := dr6.ob
      refine rd_meth ?_
      walk_at "go"
      refine rd_m eo rfl ?_
      walk_at "go"
      refine step hi dr6 h _ fun H7 q eq dr7 f7 => ?_
      have e7 := f7.at e6 (nl _)
      have f07 := f6.trans f7 fun b hb => .inr (dn0 _ b hb)
      replace eq : H7 q = some (.tup [.str "number", .int told[i]]) := eq
      walk_at "go"
      refine rd_nF' rfl ?_
      walk_at "go"
      refine ⟨tyl e7, ?_⟩
      walk_at "go"
      refine rd_append e7 (by rw [hlen]; exact Nat.lt_of_le_of_lt (show i ≤ 1000 by omega) (by decide)) ?_
      walk_at "go"
      have fp : Fr [l] H7 (upd H7 l (.lst ((told.take i).map V.int ++ [.int told[i]]))) := Fr.put (by simp) (nt e7)
      refine ⟨_, rfl, ?_, dr7.fr fp (fun b hb z => nl _ (List.mem_singleton.mp z ▸ hb)), f07.trans fp fun b hb => .inr (by rw [List.mem_singleton] at hb; rw [hb]; exact hl0)⟩
      rw [upd_same, show told.take (i + 1) = told.take i ++ [told[i]] by rw [List.take_succ, List.getElem?_eq_getElem hlt]; rfl, List.map_append]
      rfl
    · have hie : i = told.length := by omega
      subst hie
      rw [List.take_length] at e6
      rcases E1 with ⟨z1, rfl, rfl⟩ | ⟨z1, f, r, b', l1, h, hr', rfl⟩
      · refine rd_F (by omega) ?_
        walk_at "go"
        obtain ⟨dx, eo⟩ := dr6.ob
        refine rd_meth ?_
        walk_at "go"
        refine rd_m eo rfl ?_
        walk_at "go"
        refine ⟨D, _, _, _, _, rfl, dr6, fun H7 q7 e7 n7 dr7 f7 => ?_⟩
        walk_at "go"
        refine ⟨by show 3 ≤ sizeLine; decide, fun q hq => ?_⟩
        have fq : Fr [] H7 (upd H7 q (.tup [.ref l, .str "more", .ref q7])) := Fr.new hq
        exact k _ q l q7 upd_same (fq.at (f7.at e6 (by simp)) (by simp)) (fq.at e7 (by simp)) hl0 (f6.free (by simp) n7) (fun z => nocon n7 (z ▸ e6)) ((f6.tr f7).tr fq)
      · refine rd_T (by omega) ?_
        refine ⟨fun _ _ => False, fun _ _ z => z.elim, ?_⟩
        walk_at "go"
        obtain ⟨dx, eo⟩ := dr6.ob
        refine rd_meth ?_
        walk_at "go"
        refine rd_m eo rfl ?_
        walk_at "go"
        refine step (Nat.le_refl _) dr6 h _ fun H7 q eq dr7 f7 => ?_
        have e7 := f7.at e6 (nl _)
        have f07 := f6.trans f7 fun b hb => .inr (dn0 _ b hb)
        have e0 : atI r.vals 0 = some (.str r.word) := by cases r <;> rfl
        have ne : ¬ (V.str r.word = V.str "number") := by
          cases r with
          | num v => exact absurd rfl (hr' v)
          | fin => decide
          | long => decide
        walk_at "go"
        refine rd_ixT (SqT.of eq) e0 ?_
        walk_at "go"
        refine rd_nT' ne ?_
        walk_at "go"
        refine rd_ixT (SqT.of eq) e0 ?_
        walk_at "go"
        obtain ⟨dx, eo⟩ := dr7.ob
        refine rd_meth ?_
        walk_at "go"
        refine rd_m eo rfl ?_
        walk_at "go"
        refine ⟨D, _, _, _, _, rfl, dr7, fun H8 q8 e8 n8 dr8 f8 => ?_⟩
        walk_at "go"
        refine ⟨by show 3 ≤ sizeLine; decide, fun q9 hq => ?_⟩
        have fq : Fr [] H8 (upd H8 q9 (.tup [.ref l, .str r.word, .ref q8])) := Fr.new hq
        exact k _ q9 l q8 upd_same (fq.at (f8.at e7 (by simp)) (by simp)) (fq.at e8 (by simp)) hl0 (f07.free (by simp) n8) (fun z => nocon n8 (z ▸ e7)) ((f07.tr f8).tr fq)
theorem firsts (T : Txt K mg) (R : ProgA P K mg J) (I : FnM K mg "first" s_first) : Cal P w K mg base CX0 28 "first" ["chain", "many"] spFirst := by
  obtain ⟨f1, d1, F1, g1⟩ := R.is_number
  obtain ⟨f2, d2, F2, g2⟩ := R.is_within
  obtain ⟨f, fd, F, g⟩ := I
  have G1 : Cal P w K mg base CX0 1 "is_number" ["number"] spIsNumber := cal_of F1 g1 (ok_is_number T F1) fun _ _ _ _ _ _ us hl => match us, hl with | [_], _ => rfl
  have G2 : Cal P w K mg base CX0 2 "is_within" ["number", "low", "high"] spIsWithin := cal_of F2 g2 (ok_is_within T F2 G1) fun _ _ _ _ _ _ us hl => match us, hl with | [_, _, _], _ => rfl
  exact cal_of F g (ok_first T F G2 (makes T R) (nexts T R 12) (drawns T R)) fun _ _ _ _ _ _ us hl => match us, hl with | [_, _], _ => rfl
end
end Dc

set_option Elab.async false
set_option linter.all false
set_option maxRecDepth 100000
set_option maxHeartbeats 2000000
namespace Dc
/-! ### numbers behind those drawn do not matter -/
def LeL (xs ys : List Int) : Prop := xs.length = ys.length ∧ ∀ (i : Nat) (a b : Int), xs[i]? = some a → ys[i]? = some b → a ≤ b
theorem LeL.refl (xs : List Int) : LeL xs xs := ⟨rfl, fun i a b h1 h2 => by rw [h1] at h2; cases h2; exact Int.le_refl _⟩
theorem LeL.trans {xs ys zs : List Int} (h : LeL xs ys) (h' : LeL ys zs) : LeL xs zs := ⟨h.1.trans h'.1, fun i a b h1 h2 => by
  have hi : i < ys.length := by rw [← h.1]; exact (List.getElem?_eq_some_iff.mp h1).1
  exact Int.le_trans (h.2 i a _ h1 (List.getElem?_eq_getElem hi)) (h'.2 i _ b (List.getElem?_eq_getElem hi) h2)⟩
theorem LeL.app {xs ys xs' ys' : List Int} (h : LeL xs xs') (h' : LeL ys ys') : LeL (xs ++ ys) (xs' ++ ys') := ⟨by rw [List.length_append, List.length_append, h.1, h'.1], fun i a b h1 h2 => by
  by_cases c : i < xs.length
  · rw [List.getElem?_append_left c] at h1
    rw [List.getElem?_append_left (h.1 ▸ c)] at h2
    exact h.2 i a b h1 h2
  · rw [List.getElem?_append_right (by omega)] at h1
    rw [List.getElem?_append_right (by have := h.1; omega), ← h.1] at h2
    exact h'.2 _ a b h1 h2⟩
theorem draw_gv : ∀ (f : Nat) (x : Nd) (m : Mt) (r : Rs) (x' : Nd) (m' : Mt), draw f x m = some (r, x', m') → LeL x.gv x'.gv
  | 0, _, _, _, _, _, h => by simp only [draw] at h; cases h
  | f + 1, .mkr (.row ns) g, m, r, x', m', h => by
    simp only [draw] at h
    split at h
    · cases h; exact LeL.refl _
    · split at h
      · cases h; exact LeL.refl _
      · cases h
        refine ⟨rfl, fun i a b h1 h2 => ?_⟩
        cases i with
        | zero => cases h1; cases h2; omega
        | succ i => cases h1
  | f + 1, .mkr (.count b s) g, m, r, x', m', h => by
    simp only [draw] at h
    split at h
    · cases h; exact LeL.refl _
    · cases h
      refine ⟨rfl, fun i a b h1 h2 => ?_⟩
      cases i with
      | zero => cases h1; cases h2; omega
      | succ i => cases h1
  | f + 1, .st k o c, m, r, x', m', h => by
    rw [draw_st] at h
    split at h
    · cases h; exact LeL.refl _
    · split at h
      · cases h; exact LeL.refl c.gv
      · split at h
        · cases h
        · rename_i hd
          have F := draw_gv f _ _ _ _ _ hd
          split at h
          · have G := draw_gv f _ _ _ _ _ h
            exact F.trans G
          · cases h; exact F
          · cases h; exact F
        · rename_i hd
          have F := draw_gv f _ _ _ _ _ hd
          cases h; exact F
        · rename_i hd
          have F := draw_gv f _ _ _ _ _ hd
          cases h; exact F
  | f + 1, .both o c d, m, r, x', m', h => by
    rw [draw_both] at h
    split at h
    · cases h; exact LeL.refl _
    · split at h
      · cases h
      · rename_i h1
        have F := draw_gv f _ _ _ _ _ h1
        split at h
        · cases h
        · rename_i h2
          have G := draw_gv f _ _ _ _ _ h2
          cases h; exact F.app G
        · rename_i h2
          have G := draw_gv f _ _ _ _ _ h2
          cases h; exact F.app G
        · rename_i h2
          have G := draw_gv f _ _ _ _ _ h2
          cases h; exact F.app G
      · rename_i h1
        have F := draw_gv f _ _ _ _ _ h1
        cases h; exact F.app (LeL.refl _)
      · rename_i h1
        have F := draw_gv f _ _ _ _ _ h1
        cases h; exact F.app (LeL.refl _)
  | f + 1, .thn o c d, m, r, x', m', h => by
    rw [draw_thn] at h
    split at h
    · cases h; exact LeL.refl _
    · split at h
      · split at h
        · cases h
        · rename_i h1
          have F := draw_gv f _ _ _ _ _ h1
          cases h; exact (LeL.refl _).app F
      · split at h
        · cases h
        · rename_i h1
          have F := draw_gv f _ _ _ _ _ h1
          split at h
          · cases h
          · rename_i h2
            have G := draw_gv f _ _ _ _ _ h2
            cases h; exact F.app G
        · rename_i h1
          have F := draw_gv f _ _ _ _ _ h1
          cases h; exact F.app (LeL.refl _)
        · rename_i h1
          have F := draw_gv f _ _ _ _ _ h1
          cases h; exact F.app (LeL.refl _)
/-- in the place of a maker: itself, or a row of so many of its numbers and others behind -/
def MkA (far : Nat) (m m' : Mkr) : Prop := m' = m ∨ ∃ b s ns, m = .count b s ∧ m' = .row ns ∧ far ≤ ns.length ∧ ∀ i, i < far → ns.getD i 0 = b + i * s
def Alk (fs : Nat → Nat) : Nat → Nd → Nd → Prop
  | off, .mkr m g, y => ∃ m', y = .mkr m' g ∧ MkA (fs off) m m'
  | off, .st k o c, y => ∃ c', y = .st k o c' ∧ Alk fs off c c'
  | off, .both o c d, y => ∃ c' d', y = .both o c' d' ∧ Alk fs off c c' ∧ Alk fs (off + c.gv.length) d d'
  | off, .thn o c d, y => ∃ c' d', y = .thn o c' d' ∧ Alk fs off c c' ∧ Alk fs (off + c.gv.length) d d'
def Lim (fs : Nat → Nat) (off : Nat) (gs : List Int) : Prop := ∀ (i : Nat) (g : Int), gs[i]? = some g → g ≤ (fs (off + i) : Nat)
theorem Lim.le {fs : Nat → Nat} {off : Nat} {gs hs : List Int} (h : Lim fs off hs) (l : LeL gs hs) : Lim fs off gs := fun i g e => by
  have hi : i < hs.length := by rw [← l.1]; exact (List.getElem?_eq_some_iff.mp e).1
  exact Int.le_trans (l.2 i g _ e (List.getElem?_eq_getElem hi)) (h i _ (List.getElem?_eq_getElem hi))
theorem Lim.l {fs : Nat → Nat} {off : Nat} {gs hs : List Int} (h : Lim fs off (gs ++ hs)) : Lim fs off gs := fun i g e =>
  h i g (by rw [List.getElem?_append_left (List.getElem?_eq_some_iff.mp e).1]; exact e)
theorem Lim.r {fs : Nat → Nat} {off : Nat} {gs hs : List Int} (h : Lim fs off (gs ++ hs)) : Lim fs (off + gs.length) hs := fun i g e => by
  have := h (gs.length + i) g (by rw [List.getElem?_append_right (Nat.le_add_right _ _), Nat.add_sub_cancel_left]; exact e)
  rw [← Nat.add_assoc] at this
  exact this
theorem Alk.gv {fs : Nat → Nat} : ∀ {off : Nat} {x y : Nd}, Alk fs off x y → y.gv = x.gv
  | _, .mkr _ _, _, ⟨_, e, _⟩ => by subst e; rfl
  | _, .st _ _ c, _, ⟨c', e, h⟩ => by subst e; show c'.gv = c.gv; exact Alk.gv h
  | _, .both _ c d, _, ⟨c', d', e, h, h'⟩ => by subst e; show c'.gv ++ d'.gv = c.gv ++ d.gv; rw [Alk.gv h, Alk.gv h']
  | _, .thn _ c d, _, ⟨c', d', e, h, h'⟩ => by subst e; show c'.gv ++ d'.gv = c.gv ++ d.gv; rw [Alk.gv h, Alk.gv h']
theorem draw_alk {fs : Nat → Nat} : ∀ (f : Nat) (off : Nat) (x y : Nd) (m : Mt) (r : Rs) (x' : Nd) (m' : Mt), draw f x m = some (r, x', m') → r ≠ .long → Alk fs off x y → Lim fs off x'.gv → ∃ y', draw f y m = some (r, y', m') ∧ Alk fs off x' y'
  | 0, _, _, _, _, _, _, _, h, _, _, _ => by simp only [draw] at h; cases h
  | f + 1, off, .mkr (.row ns) g, y, m, r, x', m', h, hr, ⟨mk, e, hm⟩, _ => by
    subst e
    obtain rfl : mk = .row ns := by
      rcases hm with q | ⟨_, _, _, q, _⟩
      · exact q
      · cases q
    have hx : ∃ g', x' = .mkr (.row ns) g' := by
      simp only [draw] at h
      split at h
      · cases h; exact ⟨_, rfl⟩
      · split at h <;> (cases h; exact ⟨_, rfl⟩)
    obtain ⟨g', rfl⟩ := hx
    exact ⟨_, h, _, rfl, .inl rfl⟩
  | f + 1, off, .mkr (.count b s) g, y, m, r, x', m', h, hr, ⟨mk, e, hm⟩, hl => by
    subst e
    have h0 := h
    simp only [draw] at h
    split at h
    · cases h; exact absurd rfl hr
    · rename_i hb
      cases h
      rcases hm with rfl | ⟨b', s', ns, q1, rfl, q2, q3⟩
      · exact ⟨_, h0, _, rfl, .inl rfl⟩
      · cases q1
        have hg : ((g + 1 : Nat) : Int) ≤ (fs off : Nat) := hl 0 _ rfl
        have hg' : g < fs off := by omega
        refine ⟨.mkr (.row ns) (g + 1), ?_, _, rfl, .inr ⟨_, _, _, rfl, rfl, q2, q3⟩⟩
        simp only [draw]
        rw [if_neg (by omega), if_neg hb, q3 g hg']
  | f + 1, off, .st k o c, y, m, r, x', m', h, hr, ⟨c', e, hc⟩, hl => by
    subst e
    rw [draw_st] at h ⊢
    split at h
    · rename_i ho
      cases h
      rw [if_pos ho]
      exact ⟨_, rfl, _, rfl, hc⟩
    · rename_i ho
      rw [if_neg ho]
      split at h
      · rename_i ha
        cases h
        try rw [ha]
        exact ⟨_, rfl, _, rfl, hc⟩
      · rename_i ha
        try rw [ha]
        try dsimp only
        split at h
        · cases h
        · rename_i n c1 m1 hd
          have G : ∀ (l : Lim fs off c1.gv), ∃ y', draw f c' m = some (.num n, y', m1) ∧ Alk fs off c1 y' := fun l => draw_alk f off c c' m _ c1 m1 hd (fun z => by cases z) hc l
          split at h
          · rename_i o' hp
            obtain ⟨y1, e1, a1⟩ := G (hl.le (draw_gv f (.st k o' c1) _ _ _ _ h))
            rw [e1]
            try dsimp only
            rw [hp]
            exact draw_alk f off _ (.st k o' y1) m1 r x' m' h hr ⟨y1, rfl, a1⟩ hl
          · rename_i v o' hp
            cases h
            obtain ⟨y1, e1, a1⟩ := G hl
            rw [e1]
            try dsimp only
            rw [hp]
            exact ⟨_, rfl, _, rfl, a1⟩
          · rename_i hp
            cases h
            obtain ⟨y1, e1, a1⟩ := G hl
            rw [e1]
            try dsimp only
            rw [hp]
            exact ⟨_, rfl, _, rfl, a1⟩
        · rename_i c1 m1 hd
          cases h
          obtain ⟨y1, e1, a1⟩ := draw_alk f off c c' m _ c1 _ hd (fun z => by cases z) hc hl
          rw [e1]
          exact ⟨_, rfl, _, rfl, a1⟩
        · cases h
          exact absurd rfl hr
  | f + 1, off, .both o c d, y, m, r, x', m', h, hr, ⟨c', d', e, hc, hd⟩, hl => by
    subst e
    rw [draw_both] at h ⊢
    split at h
    · rename_i ho
      cases h
      rw [if_pos ho]
      exact ⟨_, rfl, _, _, rfl, hc, hd⟩
    · rename_i ho
      rw [if_neg ho]
      split at h
      · cases h
      · rename_i a c1 m1 h1
        have lc := (draw_gv f _ _ _ _ _ h1).1
        have G : ∀ {hs : List Int}, Lim fs off (c1.gv ++ hs) → ∃ y', draw f c' m = some (.num a, y', m1) ∧ Alk fs off c1 y' := fun l => draw_alk f off c c' m _ c1 m1 h1 (fun z => by cases z) hc l.l
        split at h
        · cases h
        · rename_i b d1 m2 h2
          cases h
          obtain ⟨y1, e1, a1⟩ := G hl
          obtain ⟨y2, e2, a2⟩ := draw_alk f (off + c.gv.length) d d' m1 _ d1 _ h2 (fun z => by cases z) hd (by rw [lc]; exact hl.r)
          rw [e1]
          try dsimp only
          rw [e2]
          exact ⟨_, rfl, _, _, rfl, a1, by rw [← lc]; exact a2⟩
        · rename_i d1 m2 h2
          cases h
          obtain ⟨y1, e1, a1⟩ := G hl
          obtain ⟨y2, e2, a2⟩ := draw_alk f (off + c.gv.length) d d' m1 _ d1 _ h2 (fun z => by cases z) hd (by rw [lc]; exact hl.r)
          rw [e1]
          try dsimp only
          rw [e2]
          exact ⟨_, rfl, _, _, rfl, a1, by rw [← lc]; exact a2⟩
        · cases h
          exact absurd rfl hr
      · rename_i c1 m1 h1
        cases h
        have lc := (draw_gv f _ _ _ _ _ h1).1
        obtain ⟨y1, e1, a1⟩ := draw_alk f off c c' m _ c1 _ h1 (fun z => by cases z) hc hl.l
        rw [e1]
        exact ⟨_, rfl, _, _, rfl, a1, by rw [← lc]; exact hd⟩
      · cases h
        exact absurd rfl hr
  | f + 1, off, .thn o c d, y, m, r, x', m', h, hr, ⟨c', d', e, hc, hd⟩, hl => by
    subst e
    rw [draw_thn] at h ⊢
    split at h
    · rename_i ho
      cases h
      rw [if_pos ho]
      exact ⟨_, rfl, _, _, rfl, hc, hd⟩
    · rename_i ho
      rw [if_neg ho]
      split at h
      · rename_i hone
        rw [if_pos hone]
        split at h
        · cases h
        · rename_i r0 d1 m1 h1
          cases h
          obtain ⟨y2, e2, a2⟩ := draw_alk f (off + c.gv.length) d d' m _ d1 _ h1 hr hd hl.r
          rw [e2]
          exact ⟨_, rfl, _, _, rfl, hc, a2⟩
      · rename_i hone
        rw [if_neg hone]
        split at h
        · cases h
        · rename_i c1 m1 h1
          have lc := (draw_gv f _ _ _ _ _ h1).1
          split at h
          · cases h
          · rename_i r0 d1 m2 h2
            cases h
            obtain ⟨y1, e1, a1⟩ := draw_alk f off c c' m _ c1 m1 h1 (fun z => by cases z) hc hl.l
            obtain ⟨y2, e2, a2⟩ := draw_alk f (off + c.gv.length) d d' m1 _ d1 _ h2 hr hd (by rw [lc]; exact hl.r)
            rw [e1]
            try dsimp only
            rw [e2]
            exact ⟨_, rfl, _, _, rfl, a1, by rw [← lc]; exact a2⟩
        · rename_i n c1 m1 h1
          cases h
          have lc := (draw_gv f _ _ _ _ _ h1).1
          obtain ⟨y1, e1, a1⟩ := draw_alk f off c c' m _ c1 _ h1 (fun z => by cases z) hc hl.l
          rw [e1]
          exact ⟨_, rfl, _, _, rfl, a1, by rw [← lc]; exact hd⟩
        · cases h
          exact absurd rfl hr
/-- chains with others in the place of makers -/
def AlkC (fs : Nat → Nat) : Nat → Ch → Ch → Prop
  | off, .mkr m, y => ∃ m', y = .mkr m' ∧ MkA (fs off) m m'
  | off, .st c k, y => ∃ c', y = .st c' k ∧ AlkC fs off c c'
  | off, .both c d, y => ∃ c' d', y = .both c' d' ∧ AlkC fs off c c' ∧ AlkC fs (off + c.nm) d d'
  | off, .thn c d, y => ∃ c' d', y = .thn c' d' ∧ AlkC fs off c c' ∧ AlkC fs (off + c.nm) d d'
theorem nd_gvlen : ∀ c : Ch, c.nd.gv.length = c.nm
  | .mkr _ => rfl
  | .st c k => nd_gvlen c
  | .both c o => by show (c.nd.gv ++ o.nd.gv).length = c.nm + o.nm; rw [List.length_append, nd_gvlen c, nd_gvlen o]
  | .thn c o => by show (c.nd.gv ++ o.nd.gv).length = c.nm + o.nm; rw [List.length_append, nd_gvlen c, nd_gvlen o]
theorem AlkC.nd {fs : Nat → Nat} : ∀ {off : Nat} {c c' : Ch}, AlkC fs off c c' → Alk fs off c.nd c'.nd
  | _, .mkr m, _, ⟨m', e, h⟩ => by subst e; exact ⟨m', rfl, h⟩
  | _, .st c k, _, ⟨c', e, h⟩ => by subst e; exact ⟨c'.nd, rfl, h.nd⟩
  | _, .both c d, _, ⟨c', d', e, h, h'⟩ => by subst e; exact ⟨c'.nd, d'.nd, rfl, h.nd, by rw [nd_gvlen]; exact h'.nd⟩
  | _, .thn c d, _, ⟨c', d', e, h, h'⟩ => by subst e; exact ⟨c'.nd, d'.nd, rfl, h.nd, by rw [nd_gvlen]; exact h'.nd⟩
end Dc

set_option Elab.async false
set_option linter.all false
set_option maxRecDepth 100000
set_option maxHeartbeats 2000000
namespace Dc
open PySem PySem.Spec PyProof.Rows L2
/-- what may be written: new things, lists, instances -/
def SOk (H : Hp) (S : List Addr) : Prop := ∀ x ∈ S, H x = none ∨ (∃ xs, H x = some (.lst xs)) ∨ ∃ C dx fs, H x = some (.ins C dx fs)
/-! ### what stands, in one bundle: the drawing at a, objects made since, what else is known -/
structure Bn (K : PySem.W.Frag) (ns : List Int) (a sc : Addr) (W : Hp → Prop) (H0 H : Hp) (l : List (Addr × HO)) : Prop where
  st : StAt K ns H a sc
  fr : Fr [a] H0 H
  w : W H
  cl : ∀ S H H', SOk H S → Fr S H H' → W H → W H'
  kp : ∀ q ∈ l, H q.1 = some q.2 ∧ q.1 ≠ a
section
variable {K : PySem.W.Frag} {ns : List Int} {a sc p : Addr} {W T : Hp → Prop} {H0 H H' : Hp} {l : List (Addr × HO)} {o : HO} {Q : VK} {E : XK} {xs ys : List V}
theorem Bn.start (S : StAt K ns H a sc) (w : W H) (cl : ∀ S H H', SOk H S → Fr S H H' → W H → W H') : Bn K ns a sc W H H [] := ⟨S, Fr.refl _ _, w, cl, fun q h => by cases h⟩
/-- what stood before does not matter -/
theorem Bn.start0 (S : StAt K ns H a sc) (w : W H) (cl : ∀ S H H', SOk H S → Fr S H H' → W H → W H') : Bn K ns a sc W (fun _ => none) H [] := ⟨S, fun b o h _ => (by cases h), w, cl, fun q h => (by cases h)⟩
theorem StAt.lsts {K : PySem.W.Frag} {ns : List Int} {H : Hp} {a sc : Addr} (S : StAt K ns H a sc) : SOk H [a] := fun x hx => by
  obtain ⟨⟨_, _, _, q, _⟩, _⟩ := S
  rw [List.mem_singleton.mp hx]
  exact .inr (.inl ⟨_, q⟩)
theorem Bn.fr1 (B : Bn K ns a sc W H0 H l) (f : Fr [a] H H') (S : StAt K ns H' a sc) : Bn K ns a sc W H0 H' l :=
  ⟨S, B.fr.tr f, B.cl _ _ _ B.st.lsts f B.w, B.cl, fun q hq => ⟨f.at (B.kp q hq).1 (by simpa using (B.kp q hq).2), (B.kp q hq).2⟩⟩
theorem Bn.fr0 (B : Bn K ns a sc W H0 H l) (f : Fr [] H H') : Bn K ns a sc W H0 H' l := B.fr1 (f.mono fun b hb => by cases hb) (B.st.fr f (by simp))
theorem Bn.nea (B : Bn K ns a sc W H0 H l) (h : H p = none) : p ≠ a := fun z => by
  obtain ⟨⟨_, _, _, q, _⟩, _⟩ := B.st
  rw [z, q] at h
  cases h
theorem Bn.nea2 (B : Bn K ns a sc W H0 H l) (h : H p = some (.tup xs)) : p ≠ a := fun z => by
  obtain ⟨⟨_, _, _, q, _⟩, _⟩ := B.st
  rw [z, q] at h
  cases h
theorem Bn.push (B : Bn K ns a sc W H0 H l) (h : H p = some o) (n : p ≠ a) : Bn K ns a sc W H0 H ((p, o) :: l) :=
  ⟨B.st, B.fr, B.w, B.cl, fun q hq => by
    rcases List.mem_cons.mp hq with rfl | hq
    · exact ⟨h, n⟩
    · exact B.kp q hq⟩
theorem Bn.new (B : Bn K ns a sc W H0 H l) (h : H p = none) : Bn K ns a sc W H0 (upd H p o) ((p, o) :: l) := (B.fr0 (Fr.new h)).push upd_same (B.nea h)
theorem Bn.get (B : Bn K ns a sc W H0 H l) (i : Nat) (e : l[i]? = some (p, o) := by rfl) : H p = some o := (B.kp (p, o) (List.mem_of_getElem? e)).1
theorem Bn.sub {l' : List (Addr × HO)} (B : Bn K ns a sc W H0 H l) (h : ∀ q, q ∈ l' → q ∈ l) : Bn K ns a sc W H0 H l' := ⟨B.st, B.fr, B.w, B.cl, fun q hq => B.kp q (h q hq)⟩
theorem Bn.nil (B : Bn K ns a sc W H0 H l) : Bn K ns a sc W H0 H [] := B.sub fun q h => by cases h
/-- one thing more is known -/
theorem Bn.add (B : Bn K ns a sc W H0 H l) (t : T H) (ct : ∀ S H H', Fr S H H' → T H → T H') : Bn K ns a sc (fun H => W H ∧ T H) H0 H l :=
  ⟨B.st, B.fr, ⟨B.w, t⟩, fun S H H' hS f h => ⟨B.cl S H H' hS f h.1, ct S H H' f h.2⟩, B.kp⟩
theorem Bn.imp (B : Bn K ns a sc W H0 H l) (h : ∀ H, W H → T H) (ct : ∀ S H H', SOk H S → Fr S H H' → T H → T H') : Bn K ns a sc T H0 H l := ⟨B.st, B.fr, h _ B.w, ct, B.kp⟩
theorem Bn.left {W' : Hp → Prop} (B : Bn K ns a sc (fun H => W H ∧ W' H) H0 H l) (ct : ∀ S H H', SOk H S → Fr S H H' → W H → W H') : Bn K ns a sc W H0 H l := B.imp (fun _ h => h.1) ct
/-- a list is written anew -/
theorem Bn.put (B : Bn K ns a sc W H0 H l) (hl : H p = some (.lst xs)) (h0 : H0 p = none) (hne : ∀ q ∈ l, q.1 ≠ p) (hpa : p ≠ a) : Bn K ns a sc W H0 (upd H p (.lst ys)) l := by
  have f : Fr [p] H (upd H p (.lst ys)) := Fr.put (by simp) (nt hl)
  exact ⟨B.st.fr f (by simpa using hpa.symm), B.fr.trans f (fun b hb => by rw [List.mem_singleton] at hb; rw [hb]; exact .inr h0), B.cl _ _ _ (fun x hx => by rw [List.mem_singleton.mp hx]; exact .inr (.inl ⟨_, hl⟩)) f B.w, B.cl, fun q hq => ⟨f.at (B.kp q hq).1 (by simpa using hne q hq), (B.kp q hq).2⟩⟩
/-- what lies elsewhere is written -/
theorem Bn.frS {S : List Addr} (B : Bn K ns a sc W (fun _ => none) H l) (f : Fr S H H') (hS : SOk H S) (ha : a ∉ S) (hl : ∀ q ∈ l, q.1 ∉ S) : Bn K ns a sc W (fun _ => none) H' l :=
  ⟨B.st.fr f ha, fun b o h _ => (by cases h), B.cl _ _ _ hS f B.w, B.cl, fun q hq => ⟨f.at (B.kp q hq).1 (hl q hq), (B.kp q hq).2⟩⟩
theorem Bn.ne (B : Bn K ns a sc W H0 H l) (h : H p = none) : ∀ q ∈ l, q.1 ≠ p := fun q hq z => by
  have := (B.kp q hq).1
  rw [z, h] at this
  cases this
theorem szB (h : Nat.ble xs.length 100 = true) : xs.length ≤ sizeLine := Nat.le_trans (Nat.le_of_ble_eq_true h) (by decide)
/-- a tuple, a list is made -/
def kMkT (xs : List V) (H : Hp) (Q : VK) : Prop := xs.length ≤ sizeLine ∧ ∀ p, H p = none → Q (.ref p) (upd H p (.tup xs))
def kMkL (xs : List V) (H : Hp) (Q : VK) : Prop := xs.length ≤ sizeLine ∧ ∀ p, H p = none → Q (.ref p) (upd H p (.lst xs))
theorem rd_tupB {σ : L2.St} {tl : TA} (h : tl σ H fun xs H1 => kMkT xs H1 Q) : tTup tl σ H Q := h
theorem rd_lstB {σ : L2.St} {tl : TA} (h : tl σ H fun xs H1 => kMkL xs H1 Q) : tLst tl σ H Q := h
theorem rd_sl {σ : L2.St} {r : V → Option Int → Option Int → Hp → VK → Prop} {te : TE} {tl th : TO} (h : te σ H fun x H1 => tl σ H1 fun l H2 => th σ H2 fun u H3 => r x l u H3 Q) : tSl r te tl th σ H Q := h
theorem rd_np {σ : L2.St} {Q : Option Int → Hp → Prop} (h : Q none H) : tNoPart σ H Q := h
theorem rd_part {σ : L2.St} {te : TE} {Q : Option Int → Hp → Prop} (h : te σ H fun x H1 => ∃ i, x = .int i ∧ Q (some i) H1) : tPart te σ H Q := h
def LcK (g : TG) (tt : TT) (te : TE) (vs : List Nat) (σ : L2.St) (J : It) (H1 : Hp) (Q : VK) : Prop := ∀ D, H1 D = none → ∃ W : Nat → Nat → Hp → Prop, (∃ m, W 0 m (upd H1 D (.lst []))) ∧ ∀ i m H, W i m H →
  (J.stop i H ∧ Q (.ref D) H) ∨ (J.go i H ∧ ∃ Nx : Hp → Prop, (∀ H', Nx H' → ∃ m', m' < m ∧ W (i + 1) m' H') ∧ ∀ x H', J.yld i H x H' → g x (wipe σ vs) H' fun σ2 H2 => wipe σ2 vs = wipe σ vs ∧ tt σ2 H2 fun b H3 =>
    if b = true then te σ2 H3 fun y H4 => ∃ acc, H4 D = some (.lst acc) ∧ acc.length < sizeLine ∧ Nx (upd H4 D (.lst (acc ++ [y]))) else Nx H3)
theorem rd_lc {wi : TI} {g : TG} {tt : TT} {te : TE} {vs : List Nat} {σ : L2.St} (h : wi σ H fun J H1 => LcK g tt te vs σ J H1 Q) : tLc wi g tt te vs σ H Q := h
theorem rd_in {i : Int} {Q : Int → Prop} (h : Q i) : ∃ k, V.int i = .int k ∧ Q k := ⟨i, rfl, h⟩
theorem Bn.mkT (B : Bn K ns a sc W H0 H l) (q : ∀ p H', Bn K ns a sc W H0 H' ((p, .tup xs) :: l) → Q (.ref p) H') (hs : Nat.ble xs.length 100 = true := by rfl) : kMkT xs H Q :=
  ⟨szB hs, fun p np => q p _ (B.new np)⟩
theorem Bn.mkL (B : Bn K ns a sc W H0 H l) (q : ∀ p H', Bn K ns a sc W H0 H' ((p, .lst xs) :: l) → Q (.ref p) H') (hs : Nat.ble xs.length 100 = true := by rfl) : kMkL xs H Q :=
  ⟨szB hs, fun p np => q p _ (B.new np)⟩
theorem Bn.mkLn (B : Bn K ns a sc W H0 H l) (q : ∀ p H', (∀ x ∈ l, x.1 ≠ p) → p ≠ a → Bn K ns a sc W H0 H' ((p, .lst xs) :: l) → Q (.ref p) H') (hs : Nat.ble xs.length 100 = true := by rfl) : kMkL xs H Q :=
  ⟨szB hs, fun p np => q p _ (B.ne np) (B.nea np) (B.new np)⟩
theorem rd_izip {σ : L2.St} {ta : TA} {R : It → Hp → Prop} (h : ta σ H fun vs H1 => ∃ a b xs ys, vs = [.ref a, .ref b] ∧ SqL K H1 a xs ∧ SqL K H1 b ys ∧ R (Itz K a b) H1) : iZip K ta σ H R := h
theorem rd_parB {σ : L2.St} {i j : Nat} {tl : TA} {D : Ends} (h : tl σ H fun vs H1 => ∃ x y, vs = [x, y] ∧ D.nx ((σ.set i (some x)).set j (some y)) H1) : tPar i j tl D σ H := h
theorem Bn.catL {x y : Addr} (B : Bn K ns a sc W H0 H l) (h1 : H x = some (.lst xs)) (h2 : H y = some (.lst ys)) (hl : xs.length + ys.length ≤ 1000) (q : ∀ p H', Bn K ns a sc W H0 H' ((p, .lst (xs ++ ys)) :: l) → (∀ z ∈ l, z.1 ≠ p) → p ≠ a → Q (.ref p) H') : rCat (.ref x) (.ref y) H Q :=
  ⟨x, y, xs, ys, rfl, rfl, h1, h2, Nat.le_trans hl (by decide), fun p np => q p _ (B.new np) (B.ne np) (B.nea np)⟩
theorem Bn.mk2 (B : Bn K ns a sc W H0 H l) (np : H p = none) (e : upd H p o = H') : Bn K ns a sc W H0 H' ((p, o) :: l) := e ▸ B.new np
/-- a number is drawn -/
theorem Bn.dr (B : Bn K ns a sc W H0 H l) {many : Int} (h1 : 0 < many) (h2 : many.natAbs < 2 ^ 200) (q : ∀ r H', 0 ≤ r → r < many → Bn K ns a sc W H0 H' l → Q (.int r) H') : spDrawn K ns [.ref a, .int many] H Q E :=
  ⟨a, sc, many, rfl, B.st, h1, h2, fun r H' r0 r1 S f => q r H' r0 r1 (B.fr1 f S)⟩
/-- a list's item by a number -/
theorem Bn.ixL (B : Bn K ns a sc W H0 H l) (i : Nat) {r m : Int} (r0 : 0 ≤ r) (r1 : r < m) (q : ∀ v, v ∈ xs → Q v H) (e : l[i]? = some (p, .lst xs) := by rfl) (hm : m = (xs.length : Int) := by rfl) : rIxL K (.ref p) (.int r) H Q := by
  obtain ⟨v, hv, ev⟩ := at_in (xs := xs) r0 (by omega)
  exact ⟨p, xs, r, v, rfl, rfl, SqL.of (B.get i e), ev, q v hv⟩
/-- a tuple and a tuple -/
theorem Bn.cat {x y : Addr} (B : Bn K ns a sc W H0 H l) (h1 : H x = some (.tup xs)) (h2 : H y = some (.tup ys)) (n1 : xs ≠ []) (hl : xs.length + ys.length ≤ 1000) (q : ∀ p H', Fr [] H H' → Bn K ns a sc W H0 H' ((p, .tup (xs ++ ys)) :: l) → Q (.ref p) H') : rCatT K (.ref x) (.ref y) H Q :=
  ⟨x, y, xs, ys, rfl, rfl, SqT.of h1, SqT.of h2, n1, Nat.le_trans hl (by decide), fun e => q _ _ (Fr.refl _ _) (B.push (by rw [e, List.append_nil]; exact h1) (B.nea2 h1)), fun _ p np => q _ _ (Fr.new np) (B.new np)⟩
end
/-! stages, one behind the other -/
def SgsAt (H : Hp) : List Addr → List Sg → Prop
  | [], [] => True
  | x :: as, g :: gs => SgAt H x g ∧ SgsAt H as gs
  | _, _ => False
theorem SgsAt.fr {S : List Addr} {H H' : Hp} (f : Fr S H H') : ∀ {as : List Addr} {gs : List Sg}, SgsAt H as gs → SgsAt H' as gs
  | [], [], _ => trivial
  | x :: as, g :: gs, h => ⟨h.1.fr f, SgsAt.fr f h.2⟩
  | [], _ :: _, h => h.elim
  | _ :: _, [], h => h.elim
theorem SgsAt.len {H : Hp} : ∀ {as : List Addr} {gs : List Sg}, SgsAt H as gs → as.length = gs.length
  | [], [], _ => rfl
  | x :: as, g :: gs, h => congrArg (· + 1) (SgsAt.len h.2)
  | [], _ :: _, h => h.elim
  | _ :: _, [], h => h.elim
theorem SgsAt.app {H : Hp} : ∀ {as bs : List Addr} {gs hs : List Sg}, SgsAt H as gs → SgsAt H bs hs → SgsAt H (as ++ bs) (gs ++ hs)
  | [], _, [], _, _, h => h
  | _ :: _, _, _ :: _, _, h, h' => ⟨h.1, SgsAt.app h.2 h'⟩
  | [], _, _ :: _, _, h, _ => h.elim
  | _ :: _, _, [], _, h, _ => h.elim
theorem sts_fold {H : Hp} {a : Addr} : ∀ {as : List Addr} {gs : List Sg} {c : Ch} {as0 : List Addr}, SgsAt H as gs → StsAt H c a as0 → StsAt H (gs.foldl Ch.snoc c) a (as0 ++ as)
  | [], [], c, as0, _, h => by rw [List.append_nil]; exact h
  | x :: as, g :: gs, c, as0, q, h => by
    have := sts_fold q.2 (h.snoc q.1)
    rw [List.append_assoc] at this
    exact this
  | [], _ :: _, _, _, h, _ => h.elim
  | _ :: _, [], _, _, h, _ => h.elim
theorem fold_ok : ∀ {gs : List Sg} {c : Ch}, c.ok → (∀ g ∈ gs, g.ok) → (gs.foldl Ch.snoc c).ok
  | [], _, h, _ => h
  | g :: gs, c, h, q => fold_ok (gs := gs) (Ch.snoc_ok h (q g (by simp))) fun g' h' => q g' (by simp [h'])
theorem fold_rows : ∀ {gs : List Sg} {c : Ch}, c.rows → (∀ g ∈ gs, g.rows) → (gs.foldl Ch.snoc c).rows
  | [], _, h, _ => h
  | g :: gs, c, h, q => fold_rows (gs := gs) (Ch.snoc_rows h (q g (by simp))) fun g' h' => q g' (by simp [h'])
def nmS (gs : List Sg) : Nat := (gs.map Sg.nm).sum
def nsS (gs : List Sg) : Nat := (gs.map fun g => g.ns + 1).sum
theorem nmS_app (gs hs : List Sg) : nmS (gs ++ hs) = nmS gs + nmS hs := by unfold nmS; rw [List.map_append, List.sum_append]
theorem nsS_app (gs hs : List Sg) : nsS (gs ++ hs) = nsS gs + nsS hs := by unfold nsS; rw [List.map_append, List.sum_append]
theorem fold_nm : ∀ (gs : List Sg) (c : Ch), (gs.foldl Ch.snoc c).nm = c.nm + nmS gs
  | [], _ => rfl
  | g :: gs, c => by rw [List.foldl_cons, fold_nm gs, Ch.snoc_nm]; unfold nmS; rw [List.map_cons, List.sum_cons, Nat.add_assoc]
theorem fold_ns : ∀ (gs : List Sg) (c : Ch), (gs.foldl Ch.snoc c).ns = c.ns + nsS gs
  | [], _ => rfl
  | g :: gs, c => by rw [List.foldl_cons, fold_ns gs, Ch.snoc_ns]; unfold nsS; rw [List.map_cons, List.sum_cons]; omega
/-- stages that stand, all well, of rows -/
structure Sgs' (H : Hp) (as : List Addr) (gs : List Sg) (n m : Nat) : Prop where
  at_ : SgsAt H as gs
  ok : ∀ g ∈ gs, g.ok
  rows : ∀ g ∈ gs, g.rows
  nm : nmS gs ≤ n
  ns : nsS gs ≤ m
  len : gs.length ≤ m
theorem Sgs'.fr {S : List Addr} {H H' : Hp} {as : List Addr} {gs : List Sg} {n m : Nat} (h : Sgs' H as gs n m) (f : Fr S H H') : Sgs' H' as gs n m := ⟨h.at_.fr f, h.ok, h.rows, h.nm, h.ns, h.len⟩
theorem Sgs'.app {H : Hp} {as bs : List Addr} {gs hs : List Sg} {n m n' m' : Nat} (h : Sgs' H as gs n m) (h' : Sgs' H bs hs n' m') : Sgs' H (as ++ bs) (gs ++ hs) (n + n') (m + m') :=
  ⟨h.at_.app h'.at_, fun g hg => (List.mem_append.mp hg).elim (h.ok g) (h'.ok g), fun g hg => (List.mem_append.mp hg).elim (h.rows g) (h'.rows g), by rw [nmS_app]; have := h.nm; have := h'.nm; omega, by rw [nsS_app]; have := h.ns; have := h'.ns; omega, by rw [List.length_append]; have := h.len; have := h'.len; omega⟩
theorem Sgs'.one {H : Hp} {x : Addr} {g : Sg} (h : SgAt H x g) (ok : g.ok) (rw_ : g.rows) : Sgs' H [x] [g] g.nm (g.ns + 1) :=
  ⟨⟨h, trivial⟩, fun g' hg => by rw [List.mem_singleton.mp hg]; exact ok, fun g' hg => by rw [List.mem_singleton.mp hg]; exact rw_, Nat.le_refl _, Nat.le_refl _, by show 1 ≤ _; omega⟩
theorem Sgs'.none {H : Hp} : Sgs' H [] [] 0 0 := ⟨trivial, fun g h => (by cases h), fun g h => (by cases h), Nat.le_refl _, Nat.le_refl _, Nat.le_refl _⟩
theorem Sgs'.mono {H : Hp} {as : List Addr} {gs : List Sg} {n m n' m' : Nat} (h : Sgs' H as gs n m) (h1 : n ≤ n') (h2 : m ≤ m') : Sgs' H as gs n' m' := ⟨h.at_, h.ok, h.rows, Nat.le_trans h.nm h1, Nat.le_trans h.ns h2, Nat.le_trans h.len h2⟩
/-- at v stands a tuple of such stages -/
def WayR (H : Hp) (n m : Nat) (v : V) : Prop := ∃ (wy : Addr) (as : List Addr) (gs : List Sg), v = .ref wy ∧ H wy = some (.tup (as.map V.ref)) ∧ Sgs' H as gs n m
theorem ch_of {H : Hp} {p m ss : Addr} {as : List Addr} {gs : List Sg} {mk : Mkr} {n k : Nat} (h1 : H p = some (.tup [.ref m, .ref ss])) (h2 : H ss = some (.tup (as.map V.ref))) (hm : MkAt H m mk) (h : Sgs' H as gs n k) (okm : mk.ok) (rwm : mk.isRow) :
    ∃ c : Ch, ChAt H p c ∧ c.ok ∧ c.rows ∧ c.nm ≤ n + 1 ∧ c.ns ≤ k := by
  refine ⟨gs.foldl Ch.snoc (.mkr mk), ⟨m, ss, as, h1, h2, ?_⟩, fold_ok okm h.ok, fold_rows rwm h.rows, ?_, ?_⟩
  · have := sts_fold h.at_ (show StsAt H (.mkr mk) m [] from ⟨rfl, hm⟩)
    exact this
  · rw [fold_nm]; have := h.nm; show 1 + _ ≤ _; omega
  · rw [fold_ns]; have := h.ns; show 0 + _ ≤ _; omega
/-- stages stand at s -/
def StgR (H : Hp) (n m : Nat) (s : Addr) : Prop := ∃ (as : List Addr) (gs : List Sg), H s = some (.tup (as.map V.ref)) ∧ Sgs' H as gs n m
def StgN (H : Hp) (n m : Nat) (s : Addr) : Prop := ∃ (as : List Addr) (gs : List Sg), as ≠ [] ∧ H s = some (.tup (as.map V.ref)) ∧ Sgs' H as gs n m
theorem StgR.fr {S : List Addr} {H H' : Hp} {n m : Nat} {s : Addr} (f : Fr S H H') (h : StgR H n m s) : StgR H' n m s := let ⟨as, gs, h1, h2⟩ := h; ⟨as, gs, f.tp h1, h2.fr f⟩
theorem StgN.fr {S : List Addr} {H H' : Hp} {n m : Nat} {s : Addr} (f : Fr S H H') (h : StgN H n m s) : StgN H' n m s := let ⟨as, gs, h0, h1, h2⟩ := h; ⟨as, gs, h0, f.tp h1, h2.fr f⟩
theorem Bn.stages {K : PySem.W.Frag} {ns : List Int} {a sc x y : Addr} {W : Hp → Prop} {H0 H : Hp} {l : List (Addr × HO)} {Q : VK} {n m n' m' : Nat} (B : Bn K ns a sc W H0 H l) (h1 : StgN H n m x) (h2 : StgR H n' m' y) (hm : m + m' ≤ 100)
    (q : ∀ p H', Fr [] H H' → Bn K ns a sc W H0 H' l → StgN H' (n + n') (m + m') p → Q (.ref p) H') : rCatT K (.ref x) (.ref y) H Q := by
  obtain ⟨as, gs, hn, h1, g1⟩ := h1
  obtain ⟨bs, hs, h2, g2⟩ := h2
  have l1 := g1.at_.len
  have l2 := g2.at_.len
  have := g1.len
  have := g2.len
  refine B.cat h1 h2 (by simpa using hn) (by rw [List.length_map, List.length_map]; omega) fun p H' g B' => q p H' g (B'.sub fun q hq => List.mem_cons_of_mem _ hq) ⟨as ++ bs, gs ++ hs, by simp [hn], ?_, (g1.fr g).app (g2.fr g)⟩
  rw [List.map_append]
  exact B'.get 0
/-- a tuple's slice; the whole is itself -/
theorem sl_tupAK {X : Cx} (K : PySem.W.Frag) (e : X.K = K := by rfl) : SlR X (rSlA K) := e ▸ sl_tupA
theorem cutV_whole {xs : List V} {lo hi : Option Int} (h : HT.sIx xs.length 0 lo = 0 ∧ HT.sIx xs.length xs.length hi = xs.length) : cutV xs lo hi = xs := by
  unfold cutV
  rw [h.1, h.2, List.drop_zero, Nat.sub_zero, List.take_length]
theorem cutN {xs : List V} {n : Nat} : cutV xs none (some (n : Int)) = xs.take n := by
  unfold cutV
  rw [HT.sIx_none, HT.sIx_nat, List.drop_zero, Nat.sub_zero]
  rcases Nat.le_total n xs.length with h | h
  · rw [Nat.min_eq_left h]
  · rw [Nat.min_eq_right h, List.take_length, List.take_of_length_le h]
theorem Bn.slice {K : PySem.W.Frag} {ns : List Int} {a sc x : Addr} {W : Hp → Prop} {H0 H : Hp} {l : List (Addr × HO)} {Q : VK} {xs : List V} {lo hi : Option Int} (B : Bn K ns a sc W H0 H l) (h : H x = some (.tup xs))
    (q : ∀ p H', Fr [] H H' → Bn K ns a sc W H0 H' ((p, .tup (cutV xs lo hi)) :: l) → Q (.ref p) H') : rSlA K (.ref x) lo hi H Q :=
  ⟨x, xs, rfl, SqT.of h, fun e => q _ _ (Fr.refl _ _) (B.push (by rw [cutV_whole e]; exact h) (B.nea2 h)), fun _ p np => q _ _ (Fr.new np) (B.new np)⟩
theorem Bn.sliceL {K : PySem.W.Frag} {ns : List Int} {a sc x : Addr} {W : Hp → Prop} {H0 H : Hp} {l : List (Addr × HO)} {Q : VK} {xs : List V} {lo hi : Option Int} (B : Bn K ns a sc W H0 H l) (h : H x = some (.lst xs))
    (q : ∀ p H', Bn K ns a sc W H0 H' ((p, .lst (cutV xs lo hi)) :: l) → Q (.ref p) H') : rSlL K (.ref x) lo hi H Q :=
  ⟨x, xs, rfl, SqL.of h, fun p np => q p _ (B.new np)⟩
theorem catA_join {K : PySem.W.Frag} {x y : Addr} {H : Hp} {Q : VK} {xs ys : List V} (h1 : H x = some (.tup xs)) (h2 : H y = some (.tup ys)) (hl : xs.length + ys.length ≤ 10000) (q : ∀ p H', Fr [] H H' → H' p = some (.tup (xs ++ ys)) → Q (.ref p) H') : rCatA K (.ref x) (.ref y) H Q :=
  ⟨x, y, xs, ys, rfl, rfl, SqT.of h1, SqT.of h2, Nat.le_trans hl (by decide), fun e => q _ _ (Fr.refl _ _) (by rw [e, List.nil_append]; exact h2), fun _ e => q _ _ (Fr.refl _ _) (by rw [e, List.append_nil]; exact h1), fun _ _ p np => q _ _ (Fr.new np) upd_same⟩
theorem ifs_coreN {t : TT} {s1 s2 : TS} {D : Ends} {σ : L2.St} {H : Hp} (Pp : L2.St → Hp → Prop) (core : ∀ σ' H', Pp σ' H' → D.nx σ' H') (h : ∀ nx' : L2.St → Hp → Prop, (∀ σ' H', Pp σ' H' → nx' σ' H') → tIfS t s1 s2 { D with nx := nx' } σ H) : tIfS t s1 s2 D σ H := h D.nx core
theorem cr_maxK {X : Cx} (K : PySem.W.Frag) (hc : X.calm = true) (e : X.K = K := by rfl) : CallR X (.builtin "max") (rMax K) := e ▸ cr_max hc
theorem cr_sumK {X : Cx} (K : PySem.W.Frag) (hc : X.calm = true) (e : X.K = K := by rfl) : CallR X (.builtin "sum") (rSum K) := e ▸ cr_sum hc
theorem op_catAK {X : Cx} (K : PySem.W.Frag) (e : X.K = K := by rfl) : OpR X (binaryOp .Add) (rCatA K) := e ▸ op_catA
end Dc

set_option Elab.async false
set_option linter.all false
set_option maxRecDepth 100000
set_option maxHeartbeats 2000000
namespace Dc
open PySem PySem.Spec PyProof.Rows L2
/-! ### paths of draws: that there are, cut, of chains alike -/
theorem path_ex {c : Ch} (ok : c.ok) (nm : c.nm ≤ 4) (ns : c.ns ≤ 12) : ∀ many : Nat, ∃ (X : Nat → Nd) (L : Nat → List Int) (told : List Int) (word : Str) (x1 : Nd), PathN c X L told ∧ FEnd X L told many word x1
  | 0 => ⟨fun _ => c.nd, fun _ => [], [], "more", c.nd, ⟨rfl, rfl, fun i v e => by cases e⟩, .inl ⟨rfl, rfl, rfl⟩⟩
  | many + 1 => by
    obtain ⟨X, L, told, word, x1, G, E1⟩ := path_ex ok nm ns many
    rcases E1 with ⟨h1, rfl, rfl⟩ | ⟨h1, r⟩
    · have PI := G.at (PInv.new ok nm ns) told.length (Nat.le_refl _)
      obtain ⟨f, ⟨r, x', ⟨b', l'⟩⟩, hd⟩ := draw_total (m := ⟨0, L told.length⟩) PI.inv (Nat.zero_le _)
      cases r with
      | num v => exact ⟨_, _, told ++ [v], "more", x', G.snoc hd, .inl ⟨by rw [List.length_append, h1]; rfl, rfl, by show x' = if (told ++ [v]).length ≤ told.length then _ else x'; rw [if_neg (by simp)]⟩⟩
      | fin => exact ⟨X, L, told, _, x', G, .inr ⟨by omega, f, _, b', l', hd, (fun v z => by cases z), rfl⟩⟩
      | long => exact ⟨X, L, told, _, x', G, .inr ⟨by omega, f, _, b', l', hd, (fun v z => by cases z), rfl⟩⟩
    · exact ⟨X, L, told, word, x1, G, .inr ⟨by omega, r⟩⟩
theorem PathN.le {c : Ch} {X : Nat → Nd} {L : Nat → List Int} {told : List Int} (G : PathN c X L told) {i : Nat} : ∀ j, i ≤ j → j ≤ told.length → LeL (X i).gv (X j).gv
  | 0, h, _ => by obtain rfl : i = 0 := by omega
                  exact LeL.refl _
  | j + 1, h, hj => by
    rcases Nat.lt_or_ge j i with q | q
    · obtain rfl : i = j + 1 := by omega
      exact LeL.refl _
    · obtain ⟨f, b, hd⟩ := G.step j told[j] (List.getElem?_eq_getElem hj)
      exact (G.le j q (by omega)).trans (draw_gv _ _ _ _ _ _ hd)
theorem FEnd.le {c : Ch} {X : Nat → Nd} {L : Nat → List Int} {told : List Int} {many : Nat} {word : Str} {x1 : Nd} (E : FEnd X L told many word x1) : LeL (X told.length).gv x1.gv := by
  rcases E with ⟨_, _, rfl⟩ | ⟨_, f, r, b, l1, hd, _⟩
  · exact LeL.refl _
  · exact draw_gv _ _ _ _ _ _ hd
/-- fewer of them -/
theorem path_cut {c : Ch} {X : Nat → Nd} {L : Nat → List Int} {told : List Int} {many : Nat} {word : Str} {x1 : Nd} (G : PathN c X L told) (E : FEnd X L told many word x1) {m2 : Nat} (h : m2 ≤ many) :
    ∃ (word2 : Str) (x2 : Nd), PathN c X L (told.take m2) ∧ FEnd X L (told.take m2) m2 word2 x2 ∧ LeL x2.gv x1.gv := by
  have G2 : PathN c X L (told.take m2) := ⟨G.x0, G.l0, fun i v e => G.step i v (by
    have hi := (List.getElem?_eq_some_iff.mp e).1
    rw [List.length_take] at hi
    rw [List.getElem?_take_of_lt (by omega)] at e
    exact e)⟩
  rcases Nat.lt_or_ge told.length m2 with q | q
  · have e : told.take m2 = told := List.take_of_length_le (by omega)
    rw [e]
    rcases E with ⟨h1, _⟩ | ⟨h1, r⟩
    · omega
    · exact ⟨word, x1, G, .inr ⟨q, r⟩, LeL.refl _⟩
  · have hl : (told.take m2).length = m2 := by rw [List.length_take]; omega
    exact ⟨"more", X m2, G2, .inl ⟨hl, rfl, by rw [hl]⟩, (G.le told.length q (Nat.le_refl _)).trans (E.le (c := c))⟩
theorem path_len {c : Ch} {X : Nat → Nd} {L : Nat → List Int} {told : List Int} {many : Nat} {word : Str} {x1 : Nd} (G : PathN c X L told) (E : FEnd X L told many word x1) : x1.gv.length = c.nm := by
  have h1 := (G.le (i := 0) told.length (Nat.zero_le _) (Nat.le_refl _)).1
  have h2 := (E.le (c := c)).1
  rw [G.x0, nd_gvlen] at h1
  omega
/-- a chain that tells the same, draw by draw -/
theorem path_sim {c' : Ch} {X : Nat → Nd} {L : Nat → List Int} {told : List Int} (R : Nd → Nd → Prop) (x0 : R (X 0) c'.nd) (l0 : L 0 = [])
    (step : ∀ (i : Nat) (v : Int), told[i]? = some v → ∀ y, R (X i) y → ∃ f b y', draw f y ⟨0, L i⟩ = some (.num v, y', ⟨b, L (i + 1)⟩) ∧ R (X (i + 1)) y') :
    ∃ X', PathN c' X' L told ∧ ∀ i, i ≤ told.length → R (X i) (X' i) := by
  have : Nonempty Nd := ⟨c'.nd⟩
  let nxt : Nat → Nd → Nd := fun i y => Classical.epsilon fun y' => ∃ v f b, told[i]? = some v ∧ draw f y ⟨0, L i⟩ = some (.num v, y', ⟨b, L (i + 1)⟩) ∧ R (X (i + 1)) y'
  let X' : Nat → Nd := fun n => Nat.rec c'.nd nxt n
  have key : ∀ i, i ≤ told.length → R (X i) (X' i) := by
    intro i
    induction i with
    | zero => intro _; exact x0
    | succ i ih =>
      intro hi
      obtain ⟨f, b, y', h1, h2⟩ := step i told[i] (List.getElem?_eq_getElem hi) _ (ih (by omega))
      have : ∃ y', ∃ v f b, told[i]? = some v ∧ draw f (X' i) ⟨0, L i⟩ = some (.num v, y', ⟨b, L (i + 1)⟩) ∧ R (X (i + 1)) y' := ⟨y', told[i], f, b, List.getElem?_eq_getElem hi, h1, h2⟩
      obtain ⟨v, f, b, _, _, h⟩ := Classical.epsilon_spec this
      exact h
  refine ⟨X', ⟨rfl, l0, fun i v e => ?_⟩, key⟩
  have hi := (List.getElem?_eq_some_iff.mp e).1
  obtain ⟨f, b, y', h1, h2⟩ := step i v e _ (key i (by omega))
  have : ∃ y', ∃ v f b, told[i]? = some v ∧ draw f (X' i) ⟨0, L i⟩ = some (.num v, y', ⟨b, L (i + 1)⟩) ∧ R (X (i + 1)) y' := ⟨y', v, f, b, e, h1, h2⟩
  obtain ⟨v', f, b, e', h, _⟩ := Classical.epsilon_spec this
  rw [e] at e'
  cases e'
  exact ⟨f, b, h⟩
/-- other numbers behind those drawn -/
theorem path_alk {c c' : Ch} {X : Nat → Nd} {L : Nat → List Int} {told : List Int} {many : Nat} (G : PathN c X L told) (hm : told.length = many) {fs : Nat → Nat} (hl : Lim fs 0 (X many).gv) (A : AlkC fs 0 c c') :
    ∃ X', PathN c' X' L told ∧ FEnd X' L told many "more" (X' many) ∧ (X' many).gv = (X many).gv := by
  obtain ⟨X', G', K⟩ := path_sim (c' := c') (X := X) (Alk fs 0) (by rw [G.x0]; exact A.nd) G.l0 fun i v e y hy => by
    obtain ⟨f, b, hd⟩ := G.step i v e
    have hi := (List.getElem?_eq_some_iff.mp e).1
    obtain ⟨y', h1, h2⟩ := draw_alk f 0 _ y _ _ _ _ hd (fun z => by cases z) hy (hl.le (by rw [← hm]; exact G.le told.length hi (Nat.le_refl _)))
    exact ⟨f, b, y', h1, h2⟩
  exact ⟨X', G', .inl ⟨hm, rfl, by rw [hm]⟩, (K many (by omega)).gv⟩
/-- first, as the bundle sees it -/
theorem Bn.first {K : PySem.W.Frag} {ns : List Int} {a sc p : Addr} {W : Hp → Prop} {H0 H : Hp} {l : List (Addr × HO)} {Q : VK} {E : XK} {c : Ch} {X : Nat → Nd} {L : Nat → List Int} {told : List Int} {many : Nat} {word : Str} {x1 : Nd}
    (B : Bn K ns a sc W H0 H l) (hc : ChAt H p c) (ok : c.ok) (nm : c.nm ≤ 4) (hs : c.ns ≤ 12) (hm : many ≤ 1000) (G : PathN c X L told) (E1 : FEnd X L told many word x1)
    (q : ∀ q a1 b1 H', Bn K ns a sc W H0 H' ((q, .tup [.ref a1, .str word, .ref b1]) :: (a1, .lst (told.map V.int)) :: (b1, .lst (x1.gv.map V.int)) :: l) → Q (.ref q) H') : spFirst [.ref p, .int many] H Q E :=
  ⟨p, c, X, L, told, many, word, x1, rfl, hc, ok, nm, hs, hm, G, E1, fun H' r a1 b1 er ea eb na nb _ f => q r a1 b1 H' ((((B.fr0 f).push eb (B.nea nb)).push ea (B.nea na)).push er ((B.fr0 f).nea2 er))⟩
theorem gv_nn : ∀ (x : Nd) (g : Int), g ∈ x.gv → 0 ≤ g
  | .mkr _ g, z, h => by rw [List.mem_singleton.mp h]; omega
  | .st _ _ c, z, h => gv_nn c z h
  | .both _ c d, z, h => (List.mem_append.mp (show z ∈ c.gv ++ d.gv from h)).elim (gv_nn c z) (gv_nn d z)
  | .thn _ c d, z, h => (List.mem_append.mp (show z ∈ c.gv ++ d.gv from h)).elim (gv_nn c z) (gv_nn d z)
theorem Bn.num {K : PySem.W.Frag} {ns : List Int} {a sc : Addr} {W : Hp → Prop} {H0 H : Hp} {l : List (Addr × HO)} {Q : VK} {E : XK} (B : Bn K ns a sc W H0 H l) (q : ∀ z H', -(10 ^ 20) ≤ z → z ≤ 10 ^ 20 → Bn K ns a sc W H0 H' l → Q (.int z) H') : spNumber K ns [.ref a] H Q E :=
  ⟨a, sc, rfl, B.st, fun z H' z0 z1 S f => q z H' z0 z1 (B.fr1 f S)⟩
end Dc

set_option Elab.async false
set_option linter.all false
set_option maxRecDepth 100000
set_option maxHeartbeats 2000000
namespace Dc
open PySem PySem.Spec PyProof.Rows L2
local macro_rules | `(tactic| walk_at "ne") => `(tactic| first | assumption | (refine Ne.symm ?_; assumption) | exact ne_of (by assumption) (by assumption) (by intro q; cases q) | exact ne_of_none (by assumption) (by assumption) | exact Ne.symm (ne_of_none (by assumption) (by assumption)))
local macro_rules | `(tactic| walk_at "hp") => `(tactic| first | assumption | exact upd_same | (refine upd_keep ?_ (by assumption); walk_at "hp") | (refine upd_other ?_ ?_; · walk_at "ne"; · walk_at "hp"))
local macro_rules | `(tactic| walk_at "hl") => `(tactic| first | assumption | exact SqL.of (by walk_at "hp"))
local macro_rules | `(tactic| walk_at "ht") => `(tactic| first | assumption | exact SqT.of (by walk_at "hp"))
local macro_rules | `(tactic| walk_at "rd1") => `(tactic| first
  | ((with_reducible apply rd_var); exact rfl)
  | ((with_reducible apply rd_eq); exact rfl) | ((with_reducible apply rd_ne); exact rfl)
  | with_reducible first
  | refine iteT ?_ | refine iteF ?_ | refine rd_nF ?_ | refine rd_nT ?_ | refine rd_yes ?_ | refine rd_c ?_ | refine rd_op ?_ | refine rd_un ?_ | refine rd_test ?_ | refine rd_B ?_ | refine rd_bl ?_ | refine rd_seq ?_ | refine rd_next ?_ | refine rd_ifs ?_ | refine rd_asg ?_ | refine rd_name ?_ | refine rd_ret ?_ | refine rd_drop ?_
  | refine rd_call ?_ | refine rd_cons ?_ | refine rd_nil ?_ | refine rd_cb ?_ | refine rd_I0 ?_ | refine rd_U ?_ | refine rd_gsub ?_ | refine rd_lst ?_ | refine rd_tup ?_ | refine rd_if ?_ | refine rd_not ?_ | refine rd_rng1 ?_ | refine rd_itup ?_ | refine rd_ilst ?_ | refine rd_bm ?_ | refine rd_bm0 ?_ | refine rd_andV ?_ | refine rd_orV ?_ | refine rd_notV ?_)
local macro_rules | `(tactic| walk_at "rd") => `(tactic| repeat walk_at "rd1")
local macro_rules | `(tactic| walk_at "ci") => `(tactic| first | assumption | (show (0 : Int) < _; first | decide | omega) | exact ⟨by decide, by decide⟩ | exact Or.inr ⟨by decide, by decide⟩ | exact Or.inl ⟨by decide, by decide⟩ | exact ⟨by decide, by decide, by decide⟩ | exact Or.inl ⟨by omega, by omega⟩ | exact Or.inr ⟨by omega, by omega⟩)
local macro_rules | `(tactic| walk_at "ix") => `(tactic| first
  | ((with_reducible apply rd_ixL); (walk_at "hl"); exact rfl)
  | ((with_reducible apply rd_ixT); (walk_at "ht"); exact rfl)
  | ((with_reducible apply rd_lenL); (walk_at "hl"))
  | ((with_reducible apply rd_lenT); (walk_at "ht"))
  | ((with_reducible apply rd_tupOf); (walk_at "hl"))
  | ((with_reducible apply rd_listOf); (walk_at "hl"))
  | (with_reducible refine rd_min2 ?_)
  | ((with_reducible apply rd_I); (walk_at "ci"))
  | ((with_reducible apply rd_setL); (walk_at "hp"); exact rfl))
local macro_rules | `(tactic| walk_at "gs") => `(tactic| repeat first | walk_at "rd1" | walk_at "ix")
local macro_rules | `(tactic| walk_at "go") => `(tactic| repeat first | walk_at "rd1" | walk_at "ix" | with_reducible refine rd_and ?_ | with_reducible refine rd_or ?_)
local macro_rules | `(tactic| walk_at "fo") => `(tactic| (with_reducible refine rd_for ?_))
local macro_rules | `(tactic| walk_at "pm") => `(tactic| repeat first
  | with_reducible first | refine rd_pcons ?_ | refine rd_pstr ?_ | refine rd_pcap ?_ | refine rd_pwild ?_ | refine rd_pnil ?_ | refine rd_por ?_ | refine rd_pno ?_
  | ((with_reducible refine rd_eq rfl ?_); refine ⟨_, rfl, ?_⟩; first | refine rd_T rfl ?_ | refine rd_F (by decide) ?_)
  | dsimp only [List.nil_append, List.singleton_append, List.cons_append, setAll])
local macro_rules | `(tactic| walk_at "pc") => `(tactic| (refine rd_case ?_); (first | (refine rd_phit (SqT.of (by assumption)) rfl ?_) | (refine rd_pmiss (SqT.of (by assumption)) (by simp) ?_)); (walk_at "pm"))

def MksAt (H : Hp) (ms : List Addr) (l : List Mkr) : Prop := ms.length = l.length ∧ ∀ (i : Nat) (a : Addr), ms[i]? = some a → ∃ k, l[i]? = some k ∧ MkAt H a k
theorem MksAt.fr {S : List Addr} {H H' : Hp} {ms : List Addr} {l : List Mkr} (h : MksAt H ms l) (f : Fr S H H') : MksAt H' ms l :=
  ⟨h.1, fun i a e => let ⟨k, q, z⟩ := h.2 i a e; ⟨k, q, z.fr f⟩⟩
def Ch.mks : Ch → List Mkr
  | .mkr m => [m]
  | .st c _ => c.mks
  | .both c o => c.mks ++ o.mks
  | .thn c o => c.mks ++ o.mks
def Sg.mks : Sg → List Mkr
  | .one _ => []
  | .both o => o.mks
  | .thn o => o.mks
theorem Ch.snoc_mks (c : Ch) (g : Sg) : (c.snoc g).mks = c.mks ++ g.mks := by
  cases g with
  | one k => exact (List.append_nil _).symm
  | both o => rfl
  | thn o => rfl
theorem Ch.mks_len : ∀ c : Ch, c.mks.length = c.nm
  | .mkr _ => rfl
  | .st c _ => c.mks_len
  | .both c o => by show (c.mks ++ o.mks).length = c.nm + o.nm; rw [List.length_append, c.mks_len, o.mks_len]
  | .thn c o => by show (c.mks ++ o.mks).length = c.nm + o.nm; rw [List.length_append, c.mks_len, o.mks_len]
theorem MksAt.app {H : Hp} {ms ms' : List Addr} {l l' : List Mkr} (h : MksAt H ms l) (h' : MksAt H ms' l') : MksAt H (ms ++ ms') (l ++ l') := by
  refine ⟨by rw [List.length_append, List.length_append, h.1, h'.1], fun i a e => ?_⟩
  by_cases c : i < ms.length
  · rw [List.getElem?_append_left c] at e
    obtain ⟨k, e1, e2⟩ := h.2 i a e
    exact ⟨k, by rw [List.getElem?_append_left (h.1 ▸ c)]; exact e1, e2⟩
  · have c' : ms.length ≤ i := Nat.le_of_not_lt c
    rw [List.getElem?_append_right c'] at e
    obtain ⟨k, e1, e2⟩ := h'.2 _ a e
    exact ⟨k, by rw [List.getElem?_append_right (h.1 ▸ c'), ← h.1]; exact e1, e2⟩
def spMakers (n : Nat) : Sp := fun vs H Q _ => ∃ (p : Addr) (c : Ch), vs = [.ref p] ∧ ChAt H p c ∧ c.nm ≤ n ∧ ∀ H' q ms, H' q = some (.lst (ms.map V.ref)) → MksAt H' ms c.mks → H q = none → Fr [] H H' → Q (.ref q) H'
/-- stage[0] in ('both', 'then') -/
theorem sg_name {H : Hp} {x : Addr} {g : Sg} (ea : SgAt H x g) : ∃ vs nm, H x = some (.tup vs) ∧ atI vs 0 = some (.str nm) ∧ inV (.str nm) [.str "both", .str "then"] = g.nest := by
  cases g with
  | one kd => exact ⟨_, kd.name, ea, kd.at0, by cases kd <;> (simp only [Kd.name, Sg.nest]; decide +kernel)⟩
  | both o => obtain ⟨p, h, _⟩ := ea; exact ⟨_, "both", h, rfl, by show inV _ _ = true; decide +kernel⟩
  | thn o => obtain ⟨p, h, _⟩ := ea; exact ⟨_, "then", h, rfl, by show inV _ _ = true; decide +kernel⟩
section
variable {P : Program} {w : World} {K : PySem.W.Frag} {mg : Str → Option Value} {base : Heap} {J : Cls'} {f f2 : Addr} {fd fd2 : FuncData}
theorem sc__law_makers : FnScope ["_law_chain_here", "_law_found", "_law_stage_here"] ["_law_chain_here"] (defScope s__law_makers) := ⟨rfl, rfl, rfl, by decide +kernel, rfl, by decide +kernel, by decide +kernel⟩
theorem ok_law_makers {n : Nat} (hn1 : n ≤ 1000) (T : Txt K mg) (F : FnP K "_law_makers" "_law_makers" s__law_makers f fd) (G__law_makers : Cal P w K mg base CX0 (n + 1) "_law_makers" ["_law_chain_here"] (spMakers n)) :
    FnOk P w K mg base CX0 (n + 2) f fd ["_law_chain_here"] (spMakers (n + 1)) := by
  refine ok0 F sc__law_makers (fun vs H Q E h => ?_) (fun cdv A outer s H vs Q E hr h => ?_)
  · obtain ⟨p, c, rfl, _⟩ := h
    rfl
  · obtain ⟨p, c, rfl, ⟨mk, ss, bs, ep, ess, hst⟩, hn, k⟩ := h
    have hg := hst.get
    refine ⟨_, (pss_cons (ps_set (i := 1) sc__law_makers.nd rfl (Or.inl rfl) (pe_lst (pa_cons (pe_ix (ix_tupK K) (pv 0) pe_int (fun _ _ => rfl)) pa_nil)))
  (pss_cons (ps_for PassesOwn.never rfl (pi_tup (pe_ix (ix_tupK K) (pv 0) pe_int (fun _ _ => rfl))) (pg_name (i := 2) sc__law_makers.nd rfl (Or.inl rfl))
    (pss_one (ps_if (pt_cmpR (op_in_seqK K) (pe_ix (ix_tupK K) (pv 2) pe_int (fun _ _ => rfl)) (pe_tup (pa_cons pe_str (pa_cons pe_str pa_nil))) (by rfl))
      (pss_one (ps_set (i := 1) sc__law_makers.nd rfl (Or.inl rfl) (pe_op op_cat (pv 1) (pe_cal G__law_makers (hr.mono (by omega)) pass0 (pa_cons (pe_ix (ix_tupK K) (pv 2) pe_int (fun _ _ => rfl)) pa_nil))))) pss_nil)))
  (pss_one (ps_ret (pv 1))))), ?_⟩
    try dsimp only [cxOf, Cx.nox, Cx.wish]
    refine rd_at (σ' := [some (.ref p), none, none]) rfl ?_
    walk_at "go"
    refine ⟨by show 1 ≤ sizeLine; decide, fun q0 hq0 => ?_⟩
    have f0 : Fr [] H (upd H q0 (.lst [.ref mk])) := Fr.new hq0
    walk_at "go"
    walk_at "fo"
    walk_at "go"
    refine ⟨ss, rfl, ⟨_, SqT.of (f0.tp ess)⟩, for_tup (K := K) (a := ss) (xs := bs.map V.ref) (fun i σ H' => ∃ (ms : List Addr) (q : Addr) (v : Option V), σ = [some (.ref p), some (.ref q), v] ∧ H' q = some (.lst (ms.map V.ref)) ∧ MksAt H' ms (Ch.of c.root (c.sgs.take i)).mks ∧ H q = none ∧ Fr [] H H')
      ⟨[mk], q0, none, rfl, upd_same, ⟨rfl, fun i a e => ?_⟩, hq0, f0⟩ (fun i σ H' _ ⟨_, _, _, _, _, _, _, fr⟩ => SqT.of (fr.tp ess)) ?_ ?_⟩
    · cases i with
      | zero =>
        obtain rfl := (Option.some.inj e : mk = a)
        exact ⟨c.root, rfl, hst.root.fr f0⟩
      | succ i => cases e
    · rintro i y σ H' hi ⟨ms, q, v, rfl, eq, hm, hq, fi⟩
      obtain ⟨sx, hsx, rfl⟩ : ∃ sx, bs[i]? = some sx ∧ y = .ref sx := by
        rw [List.getElem?_map] at hi
        cases e : bs[i]? with
        | none => rw [e] at hi; cases hi
        | some z => rw [e] at hi; exact ⟨z, rfl, (Option.some.inj hi).symm⟩
      obtain ⟨g, hgi, gat⟩ := hg.2 i sx hsx
      have nn := Ch.of_take c.root hgi
      have hle := Ch.of_take_nm c (i + 1)
      rw [nn, Ch.snoc_nm] at hle
      have hp1 := (Ch.of c.root (c.sgs.take i)).nm_pos
      have gat' := gat.fr fi
      obtain ⟨vs, nm, ev, e0, hb⟩ := sg_name gat'
      walk_at "go"
      refine rd_ixT (SqT.of ev) e0 ?_
      walk_at "go"
      refine ⟨by show 2 ≤ sizeLine; decide, fun tp htp => ?_⟩
      refine ⟨tp, _, rfl, .inr (SqT.of upd_same), rfl, rfl, ?_⟩
      rw [if_neg (by decide), hb]
      have ft : Fr [] H' (upd H' tp (.tup [.str "both", .str "then"])) := Fr.new htp
      have fi2 := fi.tr ft
      replace eq := ft.at eq (by simp)
      replace hm := hm.fr ft
      replace gat' := gat'.fr ft
      clear ev e0 hb
      show ∃ k, _
      generalize upd H' tp (.tup [.str "both", .str "then"]) = H2 at *
      walk_at "go"
      refine rd_b (fun cg => ?_) (fun cg => ?_)
      · obtain ⟨o, pi, eqn, ho, gnm, gmk⟩ : ∃ (o : Ch) (pi : Addr), (∃ nm : Str, H2 sx = some (.tup [.str nm, .ref pi])) ∧ ChAt H2 pi o ∧ g.nm = o.nm ∧ g.mks = o.mks := by
          cases g with
          | one k => cases cg
          | both o => obtain ⟨pi, e1, e2⟩ := gat'; exact ⟨o, pi, ⟨_, e1⟩, e2, rfl, rfl⟩
          | thn o => obtain ⟨pi, e1, e2⟩ := gat'; exact ⟨o, pi, ⟨_, e1⟩, e2, rfl, rfl⟩
        obtain ⟨nm, eqn⟩ := eqn
        walk_at "go"
        refine ⟨pi, o, rfl, ho, by omega, fun H3 q3 ms3 e3 m3 hq3 f3 => ?_⟩
        have eq3 := f3.at eq (by simp)
        walk_at "go"
        refine rd_cat eq3 e3 ?_ fun q4 hq4 => ?_
        · rw [List.length_map, List.length_map, hm.1, m3.1, Ch.mks_len, Ch.mks_len]
          exact Nat.le_trans (show _ ≤ 1001 by omega) (by decide)
        · walk_at "go"
          refine ⟨ms ++ ms3, q4, _, rfl, by rw [upd_same, List.map_append], ?_, (fi2.tr f3).free (by simp) hq4, (fi2.tr f3).newN hq4⟩
          rw [nn, Ch.snoc_mks, gmk]
          exact ((hm.fr f3).app m3).fr (Fr.new (S := []) hq4)
      · obtain ⟨gnm, gmk⟩ : g.nm = 0 ∧ g.mks = [] := by
          cases g with
          | one k => exact ⟨rfl, rfl⟩
          | both o => cases cg
          | thn o => cases cg
        walk_at "go"
        refine ⟨ms, q, _, rfl, eq, ?_, hq, fi2⟩
        rw [nn, Ch.snoc_mks, gmk, List.append_nil]
        exact hm
    · rintro σ H' ⟨ms, q, v, rfl, eq, hm, hq, fi⟩
      rw [List.length_map, hg.1, List.take_length, Ch.of_sgs] at hm
      walk_at "go"
      exact k H' q ms eq hm hq fi
theorem lawmakers {f : Addr} {fd : FuncData} (T : Txt K mg) (F : FnP K "_law_makers" "_law_makers" s__law_makers f fd) (g : mg "_law_makers" = some (.ref f)) : ∀ n, n ≤ 1001 → Cal P w K mg base CX0 (n + 1) "_law_makers" ["_law_chain_here"] (spMakers n)
  | 0, _ => by
    have void : ∀ {vs : List V} {H : Hp} {Q : VK} {E : XK}, spMakers 0 vs H Q E → False := by
      rintro vs H Q E ⟨p, c, _, _, h, _⟩
      have := c.nm_pos
      omega
    exact cal_of F g (ok0 F sc__law_makers (fun vs H Q E h => (void h).elim) fun cdv A outer s H vs Q E hr h => (void h).elim) fun _ _ _ _ _ _ us hl => match us, hl with | [_], _ => rfl
  | n + 1, h => cal_of F g (ok_law_makers (by omega) T F (lawmakers T F g n (by omega))) fun _ _ _ _ _ _ us hl => match us, hl with | [_], _ => rfl
end
end Dc

set_option Elab.async false
set_option linter.all false
set_option maxRecDepth 100000
set_option maxHeartbeats 2000000
namespace Dc
open PySem PySem.Spec PyProof.Rows L2
theorem nd_mk : ∀ c : Ch, c.nd.mk = c.mks
  | .mkr _ => rfl
  | .st c _ => nd_mk c
  | .both c o => by show c.nd.mk ++ o.nd.mk = c.mks ++ o.mks; rw [nd_mk c, nd_mk o]
  | .thn c o => by show c.nd.mk ++ o.nd.mk = c.mks ++ o.mks; rw [nd_mk c, nd_mk o]
/-- how drawing one by one goes through a whole row -/
structure Thru (c : Ch) (xs : List Int) (X : Nat → Nd) (L : Nat → List Int) (told : List Int) (r : Rs) (x1 : Nd) (l1 : List Int) : Prop where
  path : PathN c X L told
  tk : told = xs.take told.length
  le : told.length ≤ xs.length
  draw : ∃ f b, draw f (X told.length) ⟨0, L told.length⟩ = some (r, x1, ⟨b, l1⟩)
  nn : ∀ v, r ≠ .num v
  fin : r = .fin → told.length = xs.length
theorem thru_ex {c : Ch} {xs : List Int} (ok : c.ok) (rw_ : c.rows) (nm : c.nm ≤ 4) (ns : c.ns ≤ 12) (h : c.row = some xs) : ∃ X L told r x1 l1, Thru c xs X L told r x1 l1 ∧ FEnd X L told (xs.length + 1) r.word x1 := by
  obtain ⟨X, L, told, word, x1, G, E⟩ := path_ex ok nm ns (xs.length + 1)
  have P0 := PInv.new ok nm ns
  have key : ∀ i, i ≤ told.length → (X i).rws ∧ (X i).rem = xs.drop i ∧ i ≤ xs.length ∧ told.take i = xs.take i := by
    intro i
    induction i with
    | zero => intro _; rw [G.x0]; exact ⟨nd_rws rw_, row_rem h, Nat.zero_le _, rfl⟩
    | succ i ih =>
      intro hi
      obtain ⟨h1, h2, h3, h4⟩ := ih (by omega)
      obtain ⟨f, b, hd⟩ := G.step i told[i] (List.getElem?_eq_getElem hi)
      have PI := G.at P0 i (by omega)
      have q := (draw_rem _ _ _ _ _ _ hd PI.inv h1 (Nat.zero_le _)).1 _ rfl
      rw [h2] at q
      have hlt : i < xs.length := by
        rcases Nat.lt_or_ge i xs.length with z | z
        · exact z
        · rw [List.drop_eq_nil_of_le z] at q; cases q
      rw [List.drop_eq_getElem_cons hlt] at q
      injection q with q1 q2
      refine ⟨(draw_mk _ _ _ _ _ _ hd).2 h1, q2.symm, hlt, ?_⟩
      rw [List.take_succ, List.take_succ, h4, List.getElem?_eq_getElem hi, List.getElem?_eq_getElem hlt, q1]
  obtain ⟨h1, h2, h3, h4⟩ := key told.length (Nat.le_refl _)
  rw [List.take_length] at h4
  rcases E with ⟨e1, _⟩ | ⟨e1, f, r, b, l1, hd, hr, hw⟩
  · omega
  · have PI := G.at P0 told.length (Nat.le_refl _)
    have q := (draw_rem _ _ _ _ _ _ hd PI.inv h1 (Nat.zero_le _)).2
    refine ⟨X, L, told, r, x1, l1, ⟨G, h4, h3, ⟨f, b, hd⟩, hr, fun z => ?_⟩, .inr ⟨e1, f, r, b, l1, hd, hr, rfl⟩⟩
    have q := q z
    rw [h2] at q
    have := congrArg List.length q
    rw [List.length_drop, List.length_nil] at this
    omega
theorem Thru.word {c : Ch} {xs : List Int} {X : Nat → Nd} {L : Nat → List Int} {told : List Int} {r : Rs} {x1 : Nd} {l1 : List Int} (T : Thru c xs X L told r x1 l1) : (r.word = "end" ∧ told.length = xs.length) ∨ r.word = "long" := by
  cases r with
  | num v => exact absurd rfl (T.nn v)
  | fin => exact .inl ⟨rfl, T.fin rfl⟩
  | long => exact .inr rfl
theorem PathN.mks {c : Ch} {X : Nat → Nd} {L : Nat → List Int} {told : List Int} (G : PathN c X L told) : ∀ i, i ≤ told.length → (X i).mk = c.mks
  | 0, _ => by rw [G.x0, nd_mk]
  | i + 1, h => by
    obtain ⟨f, b, hd⟩ := G.step i told[i] (List.getElem?_eq_getElem h)
    rw [(draw_mk _ _ _ _ _ _ hd).1]
    exact G.mks i (by omega)
theorem Thru.gv {c : Ch} {xs : List Int} {X : Nat → Nd} {L : Nat → List Int} {told : List Int} {r : Rs} {x1 : Nd} {l1 : List Int} (T : Thru c xs X L told r x1 l1) (ok : c.ok) (nm : c.nm ≤ 4) (ns : c.ns ≤ 12) :
    x1.gv.length = c.nm ∧ ∀ (k : Nat) (g : Int) (ns : List Int), x1.gv[k]? = some g → c.mks[k]? = some (.row ns) → 0 ≤ g ∧ g ≤ (ns.length : Int) := by
  obtain ⟨f, b, hd⟩ := T.draw
  have PI := T.path.at (PInv.new ok nm ns) told.length (Nat.le_refl _)
  have F := draw_facts _ _ _ _ _ _ hd PI.inv (Nat.zero_le _)
  have M := (draw_mk _ _ _ _ _ _ hd).1
  rw [T.path.mks _ (Nat.le_refl _)] at M
  refine ⟨by rw [gv_mk, M, Ch.mks_len], fun k g ms h1 h2 => inv_gv x1 F.inv k g ms h1 (by rw [M]; exact h2)⟩
end Dc

set_option Elab.async false
set_option linter.all false
set_option maxRecDepth 100000
set_option maxHeartbeats 2000000
namespace Dc
open PySem PySem.Spec PyProof.Rows L2
/-! ### == and != of lists of ints, and of tuples of them -/
theorem ints_lay : ∀ bs : List Int, PyData.canLayAll0 (bs.map PyData.int) = true
  | [] => rfl
  | b :: bs => by show (PyData.canLay0 (.int b) && PyData.canLayAll0 (bs.map PyData.int)) = true; rw [ints_lay bs]; rfl
theorem ints_depth : ∀ bs : List Int, PyData.depthAll (bs.map PyData.int) ≤ 1
  | [] => by decide
  | b :: bs => by
    have := ints_depth bs
    simp only [List.map_cons, PyData.depthAll, PyData.depth]
    omega
theorem ints_shaped (bs : List Int) : SeqAt.shaped (.list (bs.map PyData.int)) = true := by
  unfold SeqAt.shaped
  rw [Bool.and_eq_true]
  refine ⟨ints_lay bs, decide_eq_true ?_⟩
  have := ints_depth bs
  simp only [PyData.depth]
  omega
theorem dp_ints {K : PySem.W.Frag} {H : Hp} : ∀ bs : List Int, DpAll K H (bs.map V.int) (bs.map PyData.int)
  | [] => .nil
  | b :: bs => .cons (.int b) (dp_ints bs)
theorem trip_lay (as bs : List Int) {w : Str} (hw : PyData.strOk w = true) : PyData.canLay0 (.tuple [.list (as.map PyData.int), .str w, .list (bs.map PyData.int)]) = true := by
  show (PyData.canLayAll0 (as.map PyData.int) && (PyData.strOk w && (PyData.canLayAll0 (bs.map PyData.int) && true))) = true
  rw [ints_lay as, ints_lay bs, hw]
  rfl
theorem pairw_lay (as : List Int) {w : Str} (hw : PyData.strOk w = true) : PyData.canLay0 (.tuple [.list (as.map PyData.int), .str w]) = true := by
  show (PyData.canLayAll0 (as.map PyData.int) && (PyData.strOk w && true)) = true
  rw [ints_lay as, hw]
  rfl
theorem trip_shaped (as bs : List Int) {w : Str} (hw : PyData.strOk w = true) : SeqAt.shaped (.tuple [.list (as.map PyData.int), .str w, .list (bs.map PyData.int)]) = true := by
  unfold SeqAt.shaped
  rw [Bool.and_eq_true]
  refine ⟨trip_lay as bs hw, decide_eq_true ?_⟩
  · have := ints_depth as
    have := ints_depth bs
    simp only [PyData.depth, PyData.depthAll]
    omega
theorem pairw_shaped (as : List Int) {w : Str} (hw : PyData.strOk w = true) : SeqAt.shaped (.tuple [.list (as.map PyData.int), .str w]) = true := by
  unfold SeqAt.shaped
  rw [Bool.and_eq_true]
  refine ⟨pairw_lay as hw, decide_eq_true ?_⟩
  · have := ints_depth as
    simp only [PyData.depth, PyData.depthAll]
    omega
section
variable {K : PySem.W.Frag} {H : Hp} {Q : VK} {a b a' b' q q' : Addr} {bs cs : List Int} {w : Str}
theorem neD_ints (h1 : H a = some (.lst (bs.map V.int))) (h2 : H b = some (.lst (bs.map V.int))) (z : Q (.bl false) H) : rNeD K (.ref a) (.ref b) H Q :=
  ⟨_, _, .lst (SqL.of h1) (dp_ints bs), .lst (SqL.of h2) (dp_ints bs), ints_shaped bs, ints_shaped bs, by rw [SeqAt.eqv_refl (.list (bs.map PyData.int)) (ints_lay bs)]; exact z⟩
theorem neD_trip (hw : PyData.strOk w = true) (h : H q = some (.tup [.ref a, .str w, .ref b])) (h1 : H a = some (.lst (bs.map V.int))) (h2 : H b = some (.lst (cs.map V.int))) (h' : H q' = some (.tup [.ref a', .str w, .ref b'])) (h1' : H a' = some (.lst (bs.map V.int))) (h2' : H b' = some (.lst (cs.map V.int)))
    (z : Q (.bl false) H) : rNeD K (.ref q) (.ref q') H Q :=
  ⟨_, _, .tup (SqT.of h) (.cons (.lst (SqL.of h1) (dp_ints bs)) (.cons (.str w) (.cons (.lst (SqL.of h2) (dp_ints cs)) .nil))), .tup (SqT.of h') (.cons (.lst (SqL.of h1') (dp_ints bs)) (.cons (.str w) (.cons (.lst (SqL.of h2') (dp_ints cs)) .nil))), trip_shaped bs cs hw, trip_shaped bs cs hw, by rw [SeqAt.eqv_refl _ (trip_lay bs cs hw)]; exact z⟩
theorem neD_pairw (hw : PyData.strOk w = true) (h : H q = some (.tup [.ref a, .str w])) (h1 : H a = some (.lst (bs.map V.int))) (h' : H q' = some (.tup [.ref a', .str w])) (h1' : H a' = some (.lst (bs.map V.int))) (z : Q (.bl false) H) : rNeD K (.ref q) (.ref q') H Q :=
  ⟨_, _, .tup (SqT.of h) (.cons (.lst (SqL.of h1) (dp_ints bs)) (.cons (.str w) .nil)), .tup (SqT.of h') (.cons (.lst (SqL.of h1') (dp_ints bs)) (.cons (.str w) .nil)), pairw_shaped bs hw, pairw_shaped bs hw, by rw [SeqAt.eqv_refl _ (pairw_lay bs hw)]; exact z⟩
end
end Dc

set_option Elab.async false
set_option linter.all false
set_option maxRecDepth 100000
set_option maxHeartbeats 2000000
namespace Dc
open PySem PySem.Spec PyProof.Rows L2
local macro_rules | `(tactic| walk_at "ne") => `(tactic| first | assumption | (refine Ne.symm ?_; assumption) | exact ne_of (by assumption) (by assumption) (by intro q; cases q) | exact ne_of_none (by assumption) (by assumption) | exact Ne.symm (ne_of_none (by assumption) (by assumption)))
local macro_rules | `(tactic| walk_at "hp") => `(tactic| first | assumption | exact upd_same | (refine upd_keep ?_ (by assumption); walk_at "hp") | (refine upd_other ?_ ?_; · walk_at "ne"; · walk_at "hp"))
local macro_rules | `(tactic| walk_at "hl") => `(tactic| first | assumption | exact SqL.of (by walk_at "hp"))
local macro_rules | `(tactic| walk_at "ht") => `(tactic| first | assumption | exact SqT.of (by walk_at "hp"))
local macro_rules | `(tactic| walk_at "rd1") => `(tactic| first
  | ((with_reducible apply rd_var); exact rfl)
  | ((with_reducible apply rd_eq); exact rfl) | ((with_reducible apply rd_ne); exact rfl)
  | with_reducible first
  | refine iteT ?_ | refine iteF ?_ | refine rd_nF ?_ | refine rd_nT ?_ | refine rd_yes ?_ | refine rd_c ?_ | refine rd_op ?_ | refine rd_un ?_ | refine rd_test ?_ | refine rd_B ?_ | refine rd_bl ?_ | refine rd_seq ?_ | refine rd_next ?_ | refine rd_ifs ?_ | refine rd_asg ?_ | refine rd_name ?_ | refine rd_ret ?_ | refine rd_drop ?_
  | refine rd_call ?_ | refine rd_cons ?_ | refine rd_nil ?_ | refine rd_cb ?_ | refine rd_I0 ?_ | refine rd_U ?_ | refine rd_gsub ?_ | refine rd_lst ?_ | refine rd_tup ?_ | refine rd_if ?_ | refine rd_not ?_ | refine rd_rng1 ?_ | refine rd_itup ?_ | refine rd_ilst ?_ | refine rd_bm ?_ | refine rd_bm0 ?_ | refine rd_andV ?_ | refine rd_orV ?_ | refine rd_notV ?_)
local macro_rules | `(tactic| walk_at "rd") => `(tactic| repeat walk_at "rd1")
local macro_rules | `(tactic| walk_at "ci") => `(tactic| first | assumption | (show (0 : Int) < _; first | decide | omega) | exact ⟨by decide, by decide⟩ | exact Or.inr ⟨by decide, by decide⟩ | exact Or.inl ⟨by decide, by decide⟩ | exact ⟨by decide, by decide, by decide⟩ | exact Or.inl ⟨by omega, by omega⟩ | exact Or.inr ⟨by omega, by omega⟩)
local macro_rules | `(tactic| walk_at "ix") => `(tactic| first
  | ((with_reducible apply rd_ixL); (walk_at "hl"); exact rfl)
  | ((with_reducible apply rd_ixT); (walk_at "ht"); exact rfl)
  | ((with_reducible apply rd_lenL); (walk_at "hl"))
  | ((with_reducible apply rd_lenT); (walk_at "ht"))
  | ((with_reducible apply rd_tupOf); (walk_at "hl"))
  | ((with_reducible apply rd_listOf); (walk_at "hl"))
  | (with_reducible refine rd_min2 ?_)
  | ((with_reducible apply rd_I); (walk_at "ci"))
  | ((with_reducible apply rd_setL); (walk_at "hp"); exact rfl))
local macro_rules | `(tactic| walk_at "gs") => `(tactic| repeat first | walk_at "rd1" | walk_at "ix")
local macro_rules | `(tactic| walk_at "go") => `(tactic| repeat first | walk_at "rd1" | walk_at "ix" | with_reducible refine rd_and ?_ | with_reducible refine rd_or ?_)
local macro_rules | `(tactic| walk_at "fo") => `(tactic| (with_reducible refine rd_for ?_))
local macro_rules | `(tactic| walk_at "pm") => `(tactic| repeat first
  | with_reducible first | refine rd_pcons ?_ | refine rd_pstr ?_ | refine rd_pcap ?_ | refine rd_pwild ?_ | refine rd_pnil ?_ | refine rd_por ?_ | refine rd_pno ?_
  | ((with_reducible refine rd_eq rfl ?_); refine ⟨_, rfl, ?_⟩; first | refine rd_T rfl ?_ | refine rd_F (by decide) ?_)
  | dsimp only [List.nil_append, List.singleton_append, List.cons_append, setAll])
local macro_rules | `(tactic| walk_at "pc") => `(tactic| (refine rd_case ?_); (first | (refine rd_phit (SqT.of (by assumption)) rfl ?_) | (refine rd_pmiss (SqT.of (by assumption)) (by simp) ?_)); (walk_at "pm"))

section
variable {P : Program} {w : World} {K : PySem.W.Frag} {mg : Str → Option Value} {base : Heap} {J : Cls'} {f f2 : Addr} {fd fd2 : FuncData}
theorem sc_Drawer_undone : FnScope ["self"] ["self"] (defScope s_Drawer_undone) := ⟨rfl, rfl, rfl, by decide +kernel, rfl, by decide +kernel, by decide +kernel⟩
theorem ok_Drawer_undone (T : Txt K mg) (Z : DrF K J) (M : MetF K J) (F : FnP K "undone" "Drawer.undone" s_Drawer_undone f fd) : FnOk P w K mg base CX0 1 f fd ["self"] (spUndoneP J) := by
  refine ok0 F sc_Drawer_undone (fun vs H Q E h => ?_) (fun cdv A outer s H vs Q E hr h => ?_)
  · obtain ⟨D, x, m, st, bs, rfl, _⟩ := h
    rfl
  · obtain ⟨D, x, m, st, bs, rfl, G, k⟩ := h
    obtain ⟨dx, e⟩ := G.ob
    obtain ⟨⟨dm, em⟩, e1, e2⟩ := id G.mt
    refine ⟨_, (pss_one (ps_ret (pe_callTy (call_listOfK K) (by rfl) T.free_list (by decide +kernel) (pa_cons (pe_fld (pe_fld (pv 0) rfl) rfl) pa_nil)))), ?_⟩
    try dsimp only [cxOf, Cx.nox, Cx.wish]
    refine rd_at (σ' := [some (.ref D.da)]) rfl ?_
    walk_at "go"
    refine rd_fld ?_
    refine rd_sf rfl e Z.c Z.meter rfl ?_
    refine ⟨D.me, J.meter, dm, _, _, rfl, em, M.c, M.lost, rfl, ?_⟩
    walk_at "go"
    intro q hq
    exact k _ q upd_same hq (G.fresh hq) (Fr.new hq)
end
end Dc

set_option Elab.async false
set_option linter.all false
set_option maxRecDepth 100000
set_option maxHeartbeats 2000000
namespace Dc
open PySem PySem.Spec PyProof.Rows L2
local macro_rules | `(tactic| walk_at "ne") => `(tactic| first | assumption | (refine Ne.symm ?_; assumption) | exact ne_of (by assumption) (by assumption) (by intro q; cases q) | exact ne_of_none (by assumption) (by assumption) | exact Ne.symm (ne_of_none (by assumption) (by assumption)))
local macro_rules | `(tactic| walk_at "hp") => `(tactic| first | assumption | exact upd_same | (refine upd_keep ?_ (by assumption); walk_at "hp") | (refine upd_other ?_ ?_; · walk_at "ne"; · walk_at "hp"))
local macro_rules | `(tactic| walk_at "hl") => `(tactic| first | assumption | exact SqL.of (by walk_at "hp"))
local macro_rules | `(tactic| walk_at "ht") => `(tactic| first | assumption | exact SqT.of (by walk_at "hp"))
local macro_rules | `(tactic| walk_at "rd1") => `(tactic| first
  | ((with_reducible apply rd_var); exact rfl)
  | ((with_reducible apply rd_eq); exact rfl) | ((with_reducible apply rd_ne); exact rfl)
  | with_reducible first
  | refine iteT ?_ | refine iteF ?_ | refine rd_nF ?_ | refine rd_nT ?_ | refine rd_yes ?_ | refine rd_c ?_ | refine rd_op ?_ | refine rd_un ?_ | refine rd_test ?_ | refine rd_B ?_ | refine rd_bl ?_ | refine rd_seq ?_ | refine rd_next ?_ | refine rd_ifs ?_ | refine rd_asg ?_ | refine rd_name ?_ | refine rd_ret ?_ | refine rd_drop ?_
  | refine rd_call ?_ | refine rd_cons ?_ | refine rd_nil ?_ | refine rd_cb ?_ | refine rd_I0 ?_ | refine rd_U ?_ | refine rd_gsub ?_ | refine rd_lst ?_ | refine rd_tup ?_ | refine rd_if ?_ | refine rd_not ?_ | refine rd_rng1 ?_ | refine rd_itup ?_ | refine rd_ilst ?_ | refine rd_bm ?_ | refine rd_bm0 ?_ | refine rd_andV ?_ | refine rd_orV ?_ | refine rd_notV ?_)
local macro_rules | `(tactic| walk_at "rd") => `(tactic| repeat walk_at "rd1")
local macro_rules | `(tactic| walk_at "ci") => `(tactic| first | assumption | (show (0 : Int) < _; first | decide | omega) | exact ⟨by decide, by decide⟩ | exact Or.inr ⟨by decide, by decide⟩ | exact Or.inl ⟨by decide, by decide⟩ | exact ⟨by decide, by decide, by decide⟩ | exact Or.inl ⟨by omega, by omega⟩ | exact Or.inr ⟨by omega, by omega⟩)
local macro_rules | `(tactic| walk_at "ix") => `(tactic| first
  | ((with_reducible apply rd_ixL); (walk_at "hl"); exact rfl)
  | ((with_reducible apply rd_ixT); (walk_at "ht"); exact rfl)
  | ((with_reducible apply rd_lenL); (walk_at "hl"))
  | ((with_reducible apply rd_lenT); (walk_at "ht"))
  | ((with_reducible apply rd_tupOf); (walk_at "hl"))
  | ((with_reducible apply rd_listOf); (walk_at "hl"))
  | (with_reducible refine rd_min2 ?_)
  | ((with_reducible apply rd_I); (walk_at "ci"))
  | ((with_reducible apply rd_setL); (walk_at "hp"); exact rfl))
local macro_rules | `(tactic| walk_at "gs") => `(tactic| repeat first | walk_at "rd1" | walk_at "ix")
local macro_rules | `(tactic| walk_at "go") => `(tactic| repeat first | walk_at "rd1" | walk_at "ix" | with_reducible refine rd_and ?_ | with_reducible refine rd_or ?_)
local macro_rules | `(tactic| walk_at "fo") => `(tactic| (with_reducible refine rd_for ?_))
local macro_rules | `(tactic| walk_at "pm") => `(tactic| repeat first
  | with_reducible first | refine rd_pcons ?_ | refine rd_pstr ?_ | refine rd_pcap ?_ | refine rd_pwild ?_ | refine rd_pnil ?_ | refine rd_por ?_ | refine rd_pno ?_
  | ((with_reducible refine rd_eq rfl ?_); refine ⟨_, rfl, ?_⟩; first | refine rd_T rfl ?_ | refine rd_F (by decide) ?_)
  | dsimp only [List.nil_append, List.singleton_append, List.cons_append, setAll])
local macro_rules | `(tactic| walk_at "pc") => `(tactic| (refine rd_case ?_); (first | (refine rd_phit (SqT.of (by assumption)) rfl ?_) | (refine rd_pmiss (SqT.of (by assumption)) (by simp) ?_)); (walk_at "pm"))

section
variable {P : Program} {w : World} {K : PySem.W.Frag} {mg : Str → Option Value} {base : Heap} {J : Cls'} {f f2 : Addr} {fd fd2 : FuncData}
theorem sc_Drawer_put_back : FnScope ["self", "number"] ["self", "number"] (defScope s_Drawer_put_back) := ⟨rfl, rfl, rfl, by decide +kernel, rfl, by decide +kernel, by decide +kernel⟩
theorem ok_Drawer_put_back (T : Txt K mg) (Z : DrF K J) (F : FnP K "put_back" "Drawer.put_back" s_Drawer_put_back f fd) : FnOk P w K mg base CX0 1 f fd ["self", "number"] (spPut J) := by
  refine ok0 F sc_Drawer_put_back (fun vs H Q E h => ?_) (fun cdv A outer s H vs Q E hr h => ?_)
  · obtain ⟨D, x, m, st, bs, n, rfl, _⟩ := h
    rfl
  · obtain ⟨D, x, m, st, bs, n, rfl, G, hb, k⟩ := h
    obtain ⟨dx, e⟩ := G.ob
    refine ⟨_, (pss_one (ps_expr (pe_bm PySem.F.plainAttrs_list PySem.F.slot_list_append PySem.F.type_list_append mt_append (pe_fld (pv 0) rfl) (pa_cons (pv 1) pa_nil)))), ?_⟩
    try dsimp only [cxOf, Cx.nox, Cx.wish]
    refine rd_at (σ' := [some (.ref D.da), some (.int n)]) rfl ?_
    walk_at "go"
    refine rd_sf rfl e Z.c Z.back rfl ?_
    refine ⟨tyl G.bk, ?_⟩
    walk_at "go"
    refine rd_append G.bk (by rw [List.length_map]; exact Nat.lt_of_le_of_lt hb (by decide)) ?_
    walk_at "go"
    have G1 := G.back (bs' := bs ++ [n])
    rw [List.map_append] at G1
    exact k _ G1 (Fr.put (by simp) (nt G.bk))
end
end Dc

set_option Elab.async false
set_option linter.all false
set_option maxRecDepth 100000
set_option maxHeartbeats 2000000
namespace Dc
open PySem PySem.Spec PyProof.Rows L2
/-! ### the bundle, and a drawer beside -/
structure BD (J : Cls') (K : PySem.W.Frag) (ns : List Int) (a sc : Addr) (W : Hp → Prop) (H : Hp) (l : List (Addr × HO)) (D : DrS) (x : Nd) (lost : List Int) (s : Bool) (bs : List Int) : Prop where
  B : Bn K ns a sc W (fun _ => none) H l
  dr : ∃ b, DrAt J H D x ⟨b, lost⟩ s bs
  dj : ∀ q ∈ l, q.1 ∉ D.lads s
  da : a ∉ D.lads s
theorem DrAt.kinds {J : Cls'} {H : Hp} {D : DrS} {x : Nd} {m : Mt} {s : Bool} {bs : List Int} (G : DrAt J H D x m s bs) : SOk H (D.lads s) := by
  obtain ⟨⟨dx, e⟩, h1, ⟨⟨dm, e1⟩, e2, e3⟩, h3, h4, h5, h6⟩ := G
  intro b hb
  have hb2 : (s = false ∧ b ∈ D.t.ads) ∨ b = D.me ∨ b = D.cs ∨ b = D.lo ∨ b = D.da ∨ b = D.bk := by
    cases s with
    | true =>
      simp only [DrS.lads, if_true, List.mem_append, List.mem_cons, List.not_mem_nil, or_false] at hb
      rcases hb with (z | z | z) | z | z <;> simp [z]
    | false =>
      have hb : b ∈ (D.t.ads ++ [D.me, D.cs, D.lo]) ++ [D.da, D.bk] := hb
      simp only [List.mem_append, List.mem_cons, List.not_mem_nil, or_false] at hb
      rcases hb with (z | z | z | z) | z | z <;> simp [z]
  clear hb
  rcases hb2 with ⟨rfl, hb3⟩ | rfl | rfl | rfl | rfl | rfl
  · obtain ⟨C, d, fs, q⟩ := (h3 rfl).ins b hb3
    exact .inr (.inr ⟨_, _, _, q⟩)
  · exact .inr (.inr ⟨_, _, _, e1⟩)
  · exact .inr (.inl ⟨_, e2⟩)
  · exact .inr (.inl ⟨_, e3⟩)
  · exact .inr (.inr ⟨_, _, _, e⟩)
  · exact .inr (.inl ⟨_, h1⟩)
section
variable {J : Cls'} {K : PySem.W.Frag} {ns : List Int} {a sc p : Addr} {W T : Hp → Prop} {H H' : Hp} {l : List (Addr × HO)} {D : DrS} {x : Nd} {lost : List Int} {s : Bool} {bs : List Int} {Q : VK} {E : XK} {xs : List V} {o : HO}
theorem BD.out (G : BD J K ns a sc W H l D x lost s bs) : ∀ b, H b = none → b ∉ D.lads s := fun b h z => by
  obtain ⟨_, d⟩ := G.dr
  exact d.dom b z h
theorem BD.fr0 (G : BD J K ns a sc W H l D x lost s bs) (f : Fr [] H H') : BD J K ns a sc W H' l D x lost s bs :=
  ⟨G.B.fr0 f, let ⟨b, d⟩ := G.dr; ⟨b, d.fr f (fun _ _ => by simp)⟩, G.dj, G.da⟩
theorem BD.push (G : BD J K ns a sc W H l D x lost s bs) (h : H p = some o) (n : p ≠ a) (hp : p ∉ D.lads s) : BD J K ns a sc W H ((p, o) :: l) D x lost s bs :=
  ⟨G.B.push h n, G.dr, fun q hq => by
    rcases List.mem_cons.mp hq with rfl | hq
    · exact hp
    · exact G.dj q hq, G.da⟩
theorem BD.sub {l' : List (Addr × HO)} (G : BD J K ns a sc W H l D x lost s bs) (h : ∀ q, q ∈ l' → q ∈ l) : BD J K ns a sc W H l' D x lost s bs := ⟨G.B.sub h, G.dr, fun q hq => G.dj q (h q hq), G.da⟩
theorem BD.new (G : BD J K ns a sc W H l D x lost s bs) (h : H p = none) : BD J K ns a sc W (upd H p o) ((p, o) :: l) D x lost s bs :=
  (G.fr0 (Fr.new h)).push upd_same (G.B.nea h) (G.out p h)
theorem BD.mkT (G : BD J K ns a sc W H l D x lost s bs) (q : ∀ p H', BD J K ns a sc W H' ((p, .tup xs) :: l) D x lost s bs → Q (.ref p) H') (hs : Nat.ble xs.length 100 = true := by rfl) : kMkT xs H Q :=
  ⟨szB hs, fun p np => q p _ (G.new np)⟩
theorem BD.mkL (G : BD J K ns a sc W H l D x lost s bs) (q : ∀ p H', BD J K ns a sc W H' ((p, .lst xs) :: l) D x lost s bs → Q (.ref p) H') (hs : Nat.ble xs.length 100 = true := by rfl) : kMkL xs H Q :=
  ⟨szB hs, fun p np => q p _ (G.new np)⟩
/-- what the drawer does -/
theorem BD.frD {x' : Nd} {lost' : List Int} {s' : Bool} {bs' : List Int} {b : Nat} (G : BD J K ns a sc W H l D x lost s bs) (d : DrAt J H' D x' ⟨b, lost'⟩ s' bs') (hs : s = true → s' = true) (f : Fr (D.lads s) H H') : BD J K ns a sc W H' l D x' lost' s' bs' := by
  obtain ⟨_, d0⟩ := G.dr
  exact ⟨G.B.frS f d0.kinds G.da G.dj, ⟨b, d⟩, fun q hq z => G.dj q hq (DrS.lads_sub hs z), fun z => G.da (DrS.lads_sub hs z)⟩
theorem BD.next {r : Rs} {x' : Nd} {lost' : List Int} {s' : Bool} {bs' : List Int} (G : BD J K ns a sc W H l D x lost s bs) (hi : x.inv) (hd : x.dep ≤ 12) (ha : lost.length + x.alive ≤ 1000)
    (hn : ∀ b, ∃ b', NextR x ⟨b, lost⟩ s bs r x' ⟨b', lost'⟩ s' bs') (hs : s = true → s' = true) (q : ∀ H' p, BD J K ns a sc W H' ((p, .tup r.vals) :: l) D x' lost' s' bs' → Q (.ref p) H') : spNext J 12 [.ref D.da] H Q E := by
  obtain ⟨b, d⟩ := G.dr
  obtain ⟨b', n⟩ := hn b
  refine ⟨D, x, ⟨b, lost⟩, s, bs, r, x', ⟨b', lost'⟩, s', bs', rfl, d, hi, hd, ha, n, fun H' p ep d' f => ?_⟩
  have G' := G.frD d' hs f
  refine q H' p (G'.push ep (G'.B.nea2 ep) fun z => ?_)
  rcases d'.kinds p z with e | ⟨xs, e⟩ | ⟨C, dx, fs, e⟩ <;> (rw [ep] at e; cases e)
theorem BD.drawn (G : BD J K ns a sc W H l D x lost s bs) (q : ∀ H' p, BD J K ns a sc W H' ((p, .lst (x.gv.map V.int)) :: l) D x lost s bs → Q (.ref p) H') : spDrawnP J [.ref D.da] H Q E := by
  obtain ⟨b, d⟩ := G.dr
  refine ⟨D, x, ⟨b, lost⟩, s, bs, rfl, d, fun H' p ep np d' f => ?_⟩
  exact q H' p ((G.fr0 f).push ep (G.B.nea np) (G.out p np))
theorem BD.undone (G : BD J K ns a sc W H l D x lost s bs) (q : ∀ H' p, BD J K ns a sc W H' ((p, .lst (lost.map V.int)) :: l) D x lost s bs → Q (.ref p) H') : spUndoneP J [.ref D.da] H Q E := by
  obtain ⟨b, d⟩ := G.dr
  refine ⟨D, x, ⟨b, lost⟩, s, bs, rfl, d, fun H' p ep np d' f => ?_⟩
  exact q H' p ((G.fr0 f).push ep (G.B.nea np) (G.out p np))
theorem BD.put {n : Int} (G : BD J K ns a sc W H l D x lost s bs) (hb : bs.length ≤ 1000000) (q : ∀ H', BD J K ns a sc W H' l D x lost s (bs ++ [n]) → Q .non H') : spPut J [.ref D.da, .int n] H Q E := by
  obtain ⟨b, d⟩ := G.dr
  exact ⟨D, x, ⟨b, lost⟩, s, bs, n, rfl, d, hb, fun H' d' f => q H' (G.frD d' id (f.mono fun b hb => by rw [List.mem_singleton.mp hb]; exact DrS.bk_lads))⟩
/-- a new drawer -/
theorem Bn.drawer {x dx : Addr} {c : Ch} (B : Bn K ns a sc W (fun _ => none) H l) (hx : H x = none) (hdx : H dx = none) (nd : dx ≠ x) (hc : ChAt H p c) (ok : c.ok) (nm : c.nm ≤ 4) (hs : c.ns ≤ 12)
    (q : ∀ H' D, D.da = x → BD J K ns a sc W H' l D c.nd [] false [] → Q .non H') : spDInit J [.ref x, .ref p] (upd (upd H dx (.own x)) x (.ins J.drawer dx [])) Q E := by
  have hx' : upd H dx (.own x) x = none := by rw [upd_ne nd.symm]; exact hx
  have fm : Fr [] H (upd (upd H dx (.own x)) x (.ins J.drawer dx [])) := (Fr.new hdx).newN hx'
  refine ⟨x, dx, p, c, rfl, upd_same, hc.fr fm, ok, nm, hs, fun H' D hda d dfr f => ?_⟩
  have dn : ∀ b, b ∈ D.ads → H b = none := fun b hb => by
    rcases dfr b hb with z | z
    · rw [z]; exact hx
    · exact fm.free (by simp) z
  have out : ∀ b o, H b = some o → b ∉ D.lads false := fun b o e z => by
    have := dn b z
    rw [e] at this
    cases this
  have f0 : Fr [x] H H' := (fm.mono fun b hb => by cases hb).tr f
  have B' := B.frS f0 (fun b hb => by rw [List.mem_singleton.mp hb]; exact .inl hx) (fun z => by
    obtain ⟨⟨_, _, _, e, _⟩, _⟩ := B.st
    rw [List.mem_singleton.mp z, hx] at e
    cases e) (fun q hq z => by
    have e := (B.kp q hq).1
    rw [List.mem_singleton.mp z, hx] at e
    cases e)
  refine q H' D hda ⟨B', ⟨200, d⟩, fun q hq => out _ _ (B.kp q hq).1, ?_⟩
  obtain ⟨⟨_, _, _, e, _⟩, _⟩ := B.st
  exact out _ _ e
/-- a draw, yet to come -/
theorem nextR_draw {r : Rs} {x' : Nd} {lost' : List Int} {f b0 : Nat} (h : draw f x ⟨0, lost⟩ = some (r, x', ⟨b0, lost'⟩)) : ∀ b, ∃ b', NextR x ⟨b, lost⟩ false [] r x' ⟨b', lost'⟩ r.isLong [] := fun b =>
  ⟨b0, .inr (.inr ⟨rfl, rfl, ⟨f, h⟩, rfl, rfl⟩)⟩
theorem nextR_back {v : Int} : ∀ b, ∃ b', NextR x ⟨b, lost⟩ s (bs ++ [v]) (.num v) x ⟨b', lost⟩ s bs := fun b => ⟨b, .inl ⟨bs, v, rfl, rfl, rfl, rfl, rfl, rfl⟩⟩
/-- behind the end, behind a long draw: again so -/
theorem nextR_again {r : Rs} {x1 : Nd} (hr : ∀ v, r ≠ .num v) (he : r = .fin → x1.ended) : ∀ b, ∃ b', NextR x1 ⟨b, lost⟩ r.isLong [] r x1 ⟨b', lost⟩ r.isLong [] := fun b => by
  cases r with
  | num v => exact absurd rfl (hr v)
  | fin => exact ⟨0, .inr (.inr ⟨rfl, rfl, ⟨1, ended_draw 0 _ (he rfl)⟩, rfl, rfl⟩)⟩
  | long => exact ⟨b, .inr (.inl ⟨rfl, rfl, rfl, rfl, rfl, rfl, rfl⟩)⟩
/-! what next tells, compared -/
def Rs.pd : Rs → PyData
  | .num n => .tuple [.str "number", .int n]
  | .fin => .tuple [.str "end"]
  | .long => .tuple [.str "long"]
theorem Rs.lay (r : Rs) : PyData.canLay0 r.pd = true := by
  cases r with
  | num n => show (PyData.strOk (Str.ofString "number") && (true && true)) = true; decide +kernel
  | fin => decide +kernel
  | long => decide +kernel
theorem Rs.shaped (r : Rs) : SeqAt.shaped r.pd = true := by
  unfold SeqAt.shaped
  rw [r.lay]
  cases r <;> simp [Rs.pd, PyData.depth, PyData.depthAll]
theorem Rs.dp {r : Rs} (h : H p = some (.tup r.vals)) : Dp K H (.ref p) r.pd := by
  cases r with
  | num n => exact .tup (SqT.of h) (.cons (.str _) (.cons (.int n) .nil))
  | fin => exact .tup (SqT.of h) (.cons (.str _) .nil)
  | long => exact .tup (SqT.of h) (.cons (.str _) .nil)
theorem neD_rs {r : Rs} {p q : Addr} (h1 : H p = some (.tup r.vals)) (h2 : H q = some (.tup r.vals)) (z : Q (.bl false) H) : rNeD K (.ref p) (.ref q) H Q :=
  ⟨r.pd, r.pd, r.dp h1, r.dp h2, r.shaped, r.shaped, by rw [SeqAt.eqv_refl _ r.lay]; exact z⟩
theorem lay2 (r t : Rs) : PyData.canLay0 (.list [r.pd, t.pd]) = true := by
  show (PyData.canLay0 r.pd && (PyData.canLay0 t.pd && true)) = true
  rw [r.lay, t.lay]
  rfl
theorem shaped2 (r t : Rs) : SeqAt.shaped (.list [r.pd, t.pd]) = true := by
  unfold SeqAt.shaped
  rw [lay2]
  cases r <;> cases t <;> simp [Rs.pd, PyData.depth, PyData.depthAll]
theorem neD_rs2 {r t : Rs} {l1 l2 p1 p2 q1 q2 : Addr} (e1 : H l1 = some (.lst [.ref p1, .ref p2])) (e2 : H l2 = some (.lst [.ref q1, .ref q2])) (h1 : H p1 = some (.tup r.vals)) (h2 : H p2 = some (.tup t.vals)) (h3 : H q1 = some (.tup r.vals)) (h4 : H q2 = some (.tup t.vals)) (z : Q (.bl false) H) : rNeD K (.ref l1) (.ref l2) H Q :=
  ⟨.list [r.pd, t.pd], .list [r.pd, t.pd], .lst (SqL.of e1) (.cons (r.dp h1) (.cons (t.dp h2) .nil)), .lst (SqL.of e2) (.cons (r.dp h3) (.cons (t.dp h4) .nil)), shaped2 r t, shaped2 r t, by rw [SeqAt.eqv_refl _ (lay2 r t)]; exact z⟩
end
end Dc

set_option Elab.async false
set_option linter.all false
set_option maxRecDepth 100000
set_option maxHeartbeats 2000000
namespace Dc
open PySem PySem.Spec PyProof.Rows L2
local macro_rules | `(tactic| walk_at "ne") => `(tactic| first | assumption | (refine Ne.symm ?_; assumption) | exact ne_of (by assumption) (by assumption) (by intro q; cases q) | exact ne_of_none (by assumption) (by assumption) | exact Ne.symm (ne_of_none (by assumption) (by assumption)))
local macro_rules | `(tactic| walk_at "hp") => `(tactic| first | assumption | exact upd_same | (refine upd_keep ?_ (by assumption); walk_at "hp") | (refine upd_other ?_ ?_; · walk_at "ne"; · walk_at "hp"))
local macro_rules | `(tactic| walk_at "hl") => `(tactic| first | assumption | exact SqL.of (by walk_at "hp"))
local macro_rules | `(tactic| walk_at "ht") => `(tactic| first | assumption | exact SqT.of (by walk_at "hp"))
local macro_rules | `(tactic| walk_at "rd1") => `(tactic| first
  | ((with_reducible apply rd_var); exact rfl)
  | ((with_reducible apply rd_eq); exact rfl) | ((with_reducible apply rd_ne); exact rfl)
  | with_reducible first
  | refine iteT ?_ | refine iteF ?_ | refine rd_nF ?_ | refine rd_nT ?_ | refine rd_yes ?_ | refine rd_c ?_ | refine rd_op ?_ | refine rd_un ?_ | refine rd_test ?_ | refine rd_B ?_ | refine rd_bl ?_ | refine rd_seq ?_ | refine rd_next ?_ | refine rd_ifs ?_ | refine rd_asg ?_ | refine rd_name ?_ | refine rd_ret ?_ | refine rd_drop ?_
  | refine rd_call ?_ | refine rd_cons ?_ | refine rd_nil ?_ | refine rd_cb ?_ | refine rd_I0 ?_ | refine rd_U ?_ | refine rd_gsub ?_ | refine rd_lst ?_ | refine rd_tup ?_ | refine rd_if ?_ | refine rd_not ?_ | refine rd_rng1 ?_ | refine rd_itup ?_ | refine rd_ilst ?_ | refine rd_bm ?_ | refine rd_bm0 ?_ | refine rd_andV ?_ | refine rd_orV ?_ | refine rd_notV ?_)
local macro_rules | `(tactic| walk_at "rd") => `(tactic| repeat walk_at "rd1")
local macro_rules | `(tactic| walk_at "ci") => `(tactic| first | assumption | (show (0 : Int) < _; first | decide | omega) | exact ⟨by decide, by decide⟩ | exact Or.inr ⟨by decide, by decide⟩ | exact Or.inl ⟨by decide, by decide⟩ | exact ⟨by decide, by decide, by decide⟩ | exact Or.inl ⟨by omega, by omega⟩ | exact Or.inr ⟨by omega, by omega⟩)
local macro_rules | `(tactic| walk_at "ix") => `(tactic| first
  | ((with_reducible apply rd_ixL); (walk_at "hl"); exact rfl)
  | ((with_reducible apply rd_ixT); (walk_at "ht"); exact rfl)
  | ((with_reducible apply rd_lenL); (walk_at "hl"))
  | ((with_reducible apply rd_lenT); (walk_at "ht"))
  | ((with_reducible apply rd_tupOf); (walk_at "hl"))
  | ((with_reducible apply rd_listOf); (walk_at "hl"))
  | (with_reducible refine rd_min2 ?_)
  | ((with_reducible apply rd_I); (walk_at "ci"))
  | ((with_reducible apply rd_setL); (walk_at "hp"); exact rfl))
local macro_rules | `(tactic| walk_at "gs") => `(tactic| repeat first | walk_at "rd1" | walk_at "ix")
local macro_rules | `(tactic| walk_at "go") => `(tactic| repeat first | walk_at "rd1" | walk_at "ix" | with_reducible refine rd_and ?_ | with_reducible refine rd_or ?_)
local macro_rules | `(tactic| walk_at "fo") => `(tactic| (with_reducible refine rd_for ?_))
local macro_rules | `(tactic| walk_at "pm") => `(tactic| repeat first
  | with_reducible first | refine rd_pcons ?_ | refine rd_pstr ?_ | refine rd_pcap ?_ | refine rd_pwild ?_ | refine rd_pnil ?_ | refine rd_por ?_ | refine rd_pno ?_
  | ((with_reducible refine rd_eq rfl ?_); refine ⟨_, rfl, ?_⟩; first | refine rd_T rfl ?_ | refine rd_F (by decide) ?_)
  | dsimp only [List.nil_append, List.singleton_append, List.cons_append, setAll])
local macro_rules | `(tactic| walk_at "pc") => `(tactic| (refine rd_case ?_); (first | (refine rd_phit (SqT.of (by assumption)) rfl ?_) | (refine rd_pmiss (SqT.of (by assumption)) (by simp) ?_)); (walk_at "pm"))

/-! list.count of a list of truth values -/
theorem bools_of : ∀ {bs : List Bool} {us : List Value}, Vals (bs.map V.bl) us → us = bs.map Value.bool
  | [], _, .nil => rfl
  | b :: bs, _, .cons r t => by
    have e := bools_of t
    cases r
    rw [e]
    rfl
def rCntB (K : PySem.W.Frag) : V → List V → Hp → VK → Prop := fun x xs H Q => ∃ (p : Addr) (bs : List Bool) (k : Bool), x = .ref p ∧ xs = [.bl k] ∧ SqL K H p (bs.map V.bl) ∧ Q (.int (bs.count k : Nat)) H
theorem cntB (k : Bool) : ∀ bs : List Bool, (bs.map Value.bool).countP (PyProof.Rows.isBoolOf k) = bs.count k
  | [] => rfl
  | b :: bs => by
    rw [List.map_cons, List.countP_cons, List.count_cons, cntB k bs]
    rfl
theorem mt_countB {X : Cx} : MtR X "list.count" (rCntB X.K) := by
  intro pins s σ H x xs v us Q I rx rxs h
  obtain ⟨p, bs, k, rfl, rfl, hs, q⟩ := h
  cases rx
  obtain ⟨u, rfl, ru⟩ := rxs.one
  cases ru
  obtain ⟨its, rv, ⟨⟨cls, dd, data, sl⟩, n, ho, hc, hdn, hd⟩, hlen⟩ := I.list hs
  simp only at hc hd
  subst hc hd
  have hi := bools_of rv
  refine call_meets PySem.F.slot_list_count ⟨_, ho, rfl⟩ PySem.F.entry_list_count (PySem.F.args_list_count_2 _ _)
    (SeqAt.list_countAt p its.toArray n dd sl (.bool k) (PyProof.Rows.isBoolOf k)) ⟨ho, fun y hy => ?_, ?_⟩
  · have hy : y ∈ its := by simpa using hy
    rw [hi] at hy
    obtain ⟨b, _, rfl⟩ := List.mem_map.mp hy
    exact PySem.SeqAt.EqAt.bool_bool b k
  · have ec : its.toArray.toList.countP (PyProof.Rows.isBoolOf k) = bs.count k := by
      show its.countP _ = _
      rw [hi]
      exact cntB k bs
    refine ⟨.int (bs.count k : Nat), H, I.tok _, ⟨s.toks, ?_⟩, q⟩
    show Value.int ((its.toArray.toList.countP (PyProof.Rows.isBoolOf k) : Nat) : Int) s.toks = Value.int ((bs.count k : Nat) : Int) s.toks
    rw [ec]
theorem pe_dead {X : Cx} {e : Expr} : PE X e (fun _ _ _ => False) := ⟨fun _ _ _ _ _ _ h => h.elim⟩
/-! the refusals, where they stand -/
structure KJ where (de bc bm nw bt : Addr)
structure KB (mg : Str → Option Value) (J : KJ) : Prop where
  de : mg "DrawError" = some (.ref J.de)
  bc : mg "BadChain" = some (.ref J.bc)
  bm : mg "BadMany" = some (.ref J.bm)
  nw : mg "NoWhole" = some (.ref J.nw)
  bt : mg "BadText" = some (.ref J.bt)
  ve : mg "ValueError" = none
/-- D is the refusal i: 0 BadChain, 1 BadMany, 2 NoWhole -/
structure KOne (K : PySem.W.Frag) (J : KJ) (D : Addr) (i : Nat) : Prop where
  ex : ExcC K D
  de : PySem.W.exmOne K (.ref D) (.ref J.de) = some true
  bc : PySem.W.kitOne K (.ref D) (.ref J.bc) = some (decide (i = 0))
  bm : PySem.W.kitOne K (.ref D) (.ref J.bm) = some (decide (i = 1))
  nw : PySem.W.kitOne K (.ref D) (.ref J.nw) = some (decide (i = 2))
  bt : PySem.W.kitOne K (.ref D) (.ref J.bt) = some false
  ve : PySem.W.kitOne K (.ref D) (.type "ValueError") = some true
  lt : i < 3
def kword (i : Nat) : Str := (["BadChain", "BadMany", "NoWhole"] : List Str).getD i ""
/-- told by _law_kind: what the work tells, or the word of its refusal -/
def TTk (K : PySem.W.Frag) (J : KJ) : (XK → Hp → VK → Prop) → Hp → VK → Prop := fun tl H Q =>
  tl (fun cls d H' => ∃ D i, cls = .ref D ∧ d = none ∧ KOne K J D i ∧ ∀ H'', Fr [] H' H'' → Q (.str (kword i)) H'') H Q
theorem sc__law_kind : FnScope ["_law_work", "e", "_law_kinds", "_law_word"] ["_law_work"] (defScope s__law_kind) := ⟨rfl, rfl, rfl, by decide +kernel, rfl, by decide +kernel, by decide +kernel⟩
theorem takesLen {X : Cx} {W W' : WX} (t : Takes X W) (h : ∀ c d σ H, σ.length = X.N.length → W' c d σ H → W c d σ H) : Takes X W' := fun u s' ⟨a, B, sI, pins, σ, H, cls, d, e, I, nb, up, sky, na, os, ag, w⟩ =>
  t u s' ⟨a, B, sI, pins, σ, H, cls, d, e, I, nb, up, sky, na, os, ag, h _ _ _ _ I.len w⟩
section
variable {J : KJ}
theorem kind_gives {X : Cx} {g : Addr} {cdg : Value} {q : Str} (T : Txt X.K X.mg) (B : KB X.mg J) : LamX.GivesTo X ["_law_work", "e", "_law_kinds", "_law_word"] "_law_kind" (defScope s__law_kind) g cdg (defBody s__law_kind) "_law_work" q (TTk X.K J) := by
  intro f c' s H Q tl act hc h
  refine ⟨_, pss_one (ps_try_as (i := 1) (c := .ref J.de) (tb := fun W D σ H => ∃ Ech : XK, (∀ cls d σ' H', σ'.length = 4 → Ech cls d H' → W cls d σ' H') ∧ σ[0]? = some (some (.ref f)) ∧ H c' = some (LamX.CodeO c' q) ∧ tl Ech H D.rt)
    (ts := fun a cls d D σ H => ∃ D0 i, cls = .ref D0 ∧ d = none ∧ KOne X.K J D0 i ∧ σ.length = 4 ∧ σ[1]? = some (some (.ref a)) ∧ ∀ H'', Fr [] H H'' → D.rt (.str (kword i)) H'') (Wout := fun _ _ _ _ => False) rfl rfl sc__law_kind.nd rfl rfl ⟨rfl, by decide, .inl B.de⟩ LamX.takes0 (fun W pn xe tk _ => ?_) (fun a oe cls d pn hz hf => ?_)), ?_⟩
  · refine ⟨fun pins s' σ H' D I h' => ?_⟩
    obtain ⟨Ech, hW, h1, h2, h3⟩ := h'
    exact PSs.run (pss_one (ps_ret (act (fun cls d _ H' => Ech cls d H') pn xe Ech _ _ (takesLen tk fun c d σ H hl e => hW c d σ H hl e) (fun _ _ _ _ e => e)))) pins s' σ H' D I ⟨h1, h2, h3⟩
  · refine ⟨fun pins s' σ H' D I h' => ?_⟩
    obtain ⟨D0, i, rfl, rfl, hk, hl, h1, h2⟩ := h'
    have hE := hk.ex
    let K := X.K
    refine PSs.run (X := (cxOf C8.CX0 X.prog X.w X.K X.mg X.base ["_law_work", "e", "_law_kinds", "_law_word"] "_law_kind" (defScope s__law_kind) g cdg X.A X.stack s H C8.E0).nox.suite a ((a, oe) :: pn)) ((pss_cons (ps_set (i := 2) sc__law_kind.nd rfl (Or.inl rfl) (pe_lst (pa_cons (pe_callB (call_isE hE hz hf) (by rfl) T.free_isinstance (by decide +kernel) (pa_cons (pv 1) (pa_cons (pe_glob (v := .ref J.bc) (by rfl) B.bc rfl) pa_nil))) (pa_cons (pe_callB (call_isE hE hz hf) (by rfl) T.free_isinstance (by decide +kernel) (pa_cons (pv 1) (pa_cons (pe_glob (v := .ref J.bm) (by rfl) B.bm rfl) pa_nil))) (pa_cons (pe_callB (call_isE hE hz hf) (by rfl) T.free_isinstance (by decide +kernel) (pa_cons (pv 1) (pa_cons (pe_glob (v := .ref J.nw) (by rfl) B.nw rfl) pa_nil))) (pa_cons (pe_callB (call_isE hE hz hf) (by rfl) T.free_isinstance (by decide +kernel) (pa_cons (pv 1) (pa_cons (pe_glob (v := .ref J.bt) (by rfl) B.bt rfl) pa_nil))) pa_nil))))))
  (pss_cons (ps_if (PW.pt (pw_or (pt_cmpR op_ne (pe_bm PySem.F.plainAttrs_list PySem.F.slot_list_count PySem.F.type_list_count mt_countB (pv 2) (pa_cons pe_bl pa_nil)) pe_int (nomark _)) (pw_or1 (pt_not (pt_val (pe_callB (call_isE hE hz hf) (by rfl) T.free_isinstance (by decide +kernel) (pa_cons (pv 1) (pa_cons (pe_bltn (v := .ty "ValueError") (u := .type "ValueError") (by rfl) B.ve (by decide +kernel) rfl) pa_nil))))))))
    (pss_one (ps_ret pe_str)) pss_nil)
  (pss_cons (ps_set (i := 3) sc__law_kind.nd rfl (Or.inl rfl) (pe_ix (ix_listK K) (pe_lst (pa_cons pe_str (pa_cons pe_str (pa_cons pe_str (pa_cons pe_str pa_nil))))) (pe_bm PySem.F.plainAttrs_list PySem.F.slot_list_index PySem.F.type_list_index mt_index (pv 2) (pa_cons pe_bl pa_nil)) (fun _ _ => rfl)))
  (pss_one (ps_ret (pe_ifExp (pt_cmpR op_eq (pv 3) pe_str (nomark _)) (pe_tup (pa_cons (pv 3) (pa_cons pe_dead pa_nil))) (pv 3)))))))) pins s' σ H' D I ?_
    obtain ⟨x0, x1, x2, x3, rfl⟩ : ∃ x0 x1 x2 x3, σ = [x0, x1, x2, x3] := by
      match σ, hl with
      | [x0, x1, x2, x3], _ => exact ⟨_, _, _, _, rfl⟩
    obtain rfl : x1 = some (.ref a) := Option.some.inj h1
    try dsimp only [cxOf, Cx.nox, Cx.wish]
    refine rd_seq ?_
    refine rd_asg ?_
    walk_at "go"
    refine ⟨_, _, _, rfl, (fun u r => r), hk.bc, ?_⟩
    walk_at "go"
    refine ⟨_, _, _, rfl, (fun u r => r), hk.bm, ?_⟩
    walk_at "go"
    refine ⟨_, _, _, rfl, (fun u r => r), hk.nw, ?_⟩
    walk_at "go"
    refine ⟨_, _, _, rfl, (fun u r => r), hk.bt, ?_⟩
    walk_at "go"
    refine ⟨by show (4 : Nat) ≤ _; decide, fun p np => ?_⟩
    dsimp only [gName, List.set]
    refine rd_seq ?_
    refine rd_ifs ?_
    walk_at "go"
    have ft : Fr [] H' (upd H' p (HO.lst [V.bl (decide (i = 0)), V.bl (decide (i = 1)), V.bl (decide (i = 2)), V.bl false])) := Fr.new np
    have hp : upd H' p (HO.lst [V.bl (decide (i = 0)), V.bl (decide (i = 1)), V.bl (decide (i = 2)), V.bl false]) p = some (.lst ([decide (i = 0), decide (i = 1), decide (i = 2), false].map V.bl)) := upd_same
    generalize upd H' p (HO.lst [V.bl (decide (i = 0)), V.bl (decide (i = 1)), V.bl (decide (i = 2)), V.bl false]) = Hq at ft hp ⊢
    refine ⟨.inl ⟨rfl, _, SqL.of hp⟩, ?_⟩
    walk_at "go"
    refine ⟨_, _, true, rfl, rfl, SqL.of hp, ?_⟩
    walk_at "go"
    rw [if_neg (by have := hk.lt; clear hp; rcases (by omega : i = 0 ∨ i = 1 ∨ i = 2) with rfl | rfl | rfl <;> decide)]
    walk_at "go"
    refine ⟨_, _, _, rfl, (fun u r => r), hk.ve, ?_⟩
    walk_at "go"
    refine ⟨by show (4 : Nat) ≤ _; decide, fun p2 np2 => ?_⟩
    have ft2 := ft.trans (Fr.new (S := []) (o := HO.lst [V.str (Str.ofString "BadChain"), V.str (Str.ofString "BadMany"), V.str (Str.ofString "NoWhole"), V.str (Str.ofString "BadText")]) np2) (fun b hb => by cases hb)
    have hp1 := (Fr.new (S := []) (o := HO.lst [V.str (Str.ofString "BadChain"), V.str (Str.ofString "BadMany"), V.str (Str.ofString "NoWhole"), V.str (Str.ofString "BadText")]) np2).at hp (by simp)
    have hp2 : upd Hq p2 (HO.lst [V.str (Str.ofString "BadChain"), V.str (Str.ofString "BadMany"), V.str (Str.ofString "NoWhole"), V.str (Str.ofString "BadText")]) p2 = some _ := upd_same
    generalize upd Hq p2 (HO.lst [V.str (Str.ofString "BadChain"), V.str (Str.ofString "BadMany"), V.str (Str.ofString "NoWhole"), V.str (Str.ofString "BadText")]) = Hr at ft2 hp1 hp2 ⊢
    refine rd_bm ?_
    walk_at "go"
    refine ⟨.inl ⟨rfl, _, SqL.of hp1⟩, ?_⟩
    walk_at "go"
    refine ⟨_, _, _, i, .bl true, rfl, rfl, SqL.of hp1, rfl, rfl, ?_, rfl, ?_, ?_⟩
    · have := hk.lt
      rcases (by omega : i = 0 ∨ i = 1 ∨ i = 2) with rfl | rfl | rfl <;> rfl
    · intro m z' hm hz
      have := hk.lt
      rcases (by omega : m = 0 ∧ i = 1 ∨ m = 0 ∧ i = 2 ∨ m = 1 ∧ i = 2) with ⟨rfl, rfl⟩ | ⟨rfl, rfl⟩ | ⟨rfl, rfl⟩ <;> (cases hz; rfl)
    dsimp only
    refine ⟨_, _, _, .str (kword i), rfl, rfl, SqL.of hp2, ?_, ?_⟩
    · have := hk.lt
      rcases (by omega : i = 0 ∨ i = 1 ∨ i = 2) with rfl | rfl | rfl <;> rfl
    dsimp only [gName, List.set]
    refine rd_ret ?_
    refine rd_if ?_
    walk_at "go"
    rw [if_neg ?_]
    · walk_at "go"
      exact h2 _ ft2
    · have := hk.lt
      rcases (by omega : i = 0 ∨ i = 1 ∨ i = 2) with rfl | rfl | rfl <;> decide
  · refine ⟨fun cls d H' => ∃ D i, cls = .ref D ∧ d = none ∧ KOne X.K J D i ∧ ∀ H'', Fr [] H' H'' → Q (.str (kword i)) H'', fun cls d σ' H' hl h' => ?_, rfl, hc, h⟩
    obtain ⟨D, i, rfl, rfl, hk, h2⟩ := h'
    refine ⟨true, hk.de, fun _ a na => ⟨D, i, rfl, rfl, hk, by simpa using hl, ?_, h2⟩, fun z => by cases z⟩
    rw [List.getElem?_set_self (by omega)]
end
end Dc

set_option Elab.async false
set_option linter.all false
set_option maxRecDepth 100000
set_option maxHeartbeats 2000000
namespace Dc
open PySem PySem.Spec PyProof.Rows L2
/-- a def that lets nothing out, its code object known -/
theorem ok0C {P : Program} {w : World} {K : PySem.W.Frag} {mg : Str → Option Value} {base : Heap} {x qual : Str} {params : Arguments} {body : List Stmt} {scope : Scope} {f : Addr} {fd : FuncData}
    {N ps : List Str} {k : Nat} {sp : Sp} (F : FunD K x qual params body scope [] [] f fd) (S : FnScope N ps scope) (len : ∀ vs H Q E, sp vs H Q E → vs.length = ps.length)
    (hbody : ∀ (A : Around) (outer : List Env) (s : Shared) (H : Hp) (vs : List V) (Q : VK) (E : XK), Room k (A.deeper (envOfC qual scope s.heap.objs.size f fd.code)) → sp vs H Q E →
      ∃ t, PSs (cxOf CX0 P w K mg base N qual scope f fd.code A outer s H E).nox body t ∧ t { nx := fun _ H' => Q .non H', rt := Q } (start N vs) H) : FnOk P w K mg base CX0 (k + 1) f fd ps sp := by
  obtain ⟨oc, od, dV, kV, doc, pm, an, cdv, ct, osl, rfl, lk, hcd, _, _⟩ := F.ex
  refine fn_of lk hcd S len fun A outer s H vs Q E hr hsp => ?_
  obtain ⟨t, ht, q⟩ := hbody A outer s H vs Q E hr hsp
  exact ⟨t, PSs.nox ht, q⟩
theorem pe_kind {X : Cx} {J : KJ} {T : List (Addr × Str)} {c P : Addr} {params : Arguments} {body : Expr} {scope : Scope} {t : XK → TE} {k : Nat} {p lpos pos : Pos} (I : ∃ f fd, FnP X.K "_law_kind" "_law_kind" s__law_kind f fd ∧ X.mg "_law_kind" = some (.ref f)) (Tx : Txt X.K X.mg) (B : KB X.mg J)
    (TB : LamX.TabB X.base X.mg c P) (hcode : X.env.code = .ref c) (hmT : (P, X.env.qual ++ "<lambda>") ∈ T) (hu : ∀ p ∈ T, p.1 = P → p.2 = X.env.qual ++ "<lambda>") (hr : Room (k + 2) X.A) (L : LamX.LamS X.env.scope scope) (hdef : defaultsOf params X.env = ([], []))
    (hbind : ∀ (q : Str) (cl : List (Str × Addr)) (pm cv ctv : Value), bindArgs (PySem.W.kla_fn "<lambda>" q params body scope cl pm cv ctv) ⟨[], []⟩ = pure [])
    (hbody : ∀ (A : Around) (outer : List Env) (s : Shared) (H : Hp) (E : XK) (f c' : Addr), Room k (A.deeper (LamX.lamEnv X scope s.heap.objs.size f c')) → PE (LamX.lamCx X A outer s H E scope f c') body (t E))
    (hg : Gl X "_law_kind" := by rfl) : PE X (.Call (.Name "_law_kind" p) [.Lambda params body scope lpos] [] pos) (LamX.tLam T (TTk X.K J) t) := by
  obtain ⟨g, fd, F, hm⟩ := I
  have hb : Binds X.K fd ["_law_work"] [] := F.bindsN fun _ _ _ _ _ _ us hl => match us, hl with | [_], _ => rfl
  have hk := F.kp
  obtain ⟨oc, od, dV, kV, doc, pm, an, cdv, ct, osl, rfl, lk, hcd, _, _⟩ := F.ex
  exact LamX.pe_lamcall (a := "_law_work") (Ng := ["_law_work", "e", "_law_kinds", "_law_word"]) hg hm hk lk hcd hb sc__law_kind rfl (Or.inl rfl) (kind_gives Tx B) TB hcode hmT hu hr L hdef hbind hbody
end Dc

set_option Elab.async false
set_option linter.all false
set_option maxRecDepth 100000
set_option maxHeartbeats 2000000
namespace Dc
open PySem PySem.Spec PyProof.Rows L2
local macro_rules | `(tactic| walk_at "ne") => `(tactic| first | assumption | (refine Ne.symm ?_; assumption) | exact ne_of (by assumption) (by assumption) (by intro q; cases q) | exact ne_of_none (by assumption) (by assumption) | exact Ne.symm (ne_of_none (by assumption) (by assumption)))
local macro_rules | `(tactic| walk_at "hp") => `(tactic| first | assumption | exact upd_same | (refine upd_keep ?_ (by assumption); walk_at "hp") | (refine upd_other ?_ ?_; · walk_at "ne"; · walk_at "hp"))
local macro_rules | `(tactic| walk_at "hl") => `(tactic| first | assumption | exact SqL.of (by walk_at "hp"))
local macro_rules | `(tactic| walk_at "ht") => `(tactic| first | assumption | exact SqT.of (by walk_at "hp"))
local macro_rules | `(tactic| walk_at "rd1") => `(tactic| first
  | ((with_reducible apply rd_var); exact rfl)
  | ((with_reducible apply rd_eq); exact rfl) | ((with_reducible apply rd_ne); exact rfl)
  | with_reducible first
  | refine iteT ?_ | refine iteF ?_ | refine rd_nF ?_ | refine rd_nT ?_ | refine rd_yes ?_ | refine rd_c ?_ | refine rd_op ?_ | refine rd_un ?_ | refine rd_test ?_ | refine rd_B ?_ | refine rd_bl ?_ | refine rd_seq ?_ | refine rd_next ?_ | refine rd_ifs ?_ | refine rd_asg ?_ | refine rd_name ?_ | refine rd_ret ?_ | refine rd_drop ?_
  | refine rd_call ?_ | refine rd_cons ?_ | refine rd_nil ?_ | refine rd_cb ?_ | refine rd_I0 ?_ | refine rd_U ?_ | refine rd_gsub ?_ | refine rd_lst ?_ | refine rd_tup ?_ | refine rd_if ?_ | refine rd_not ?_ | refine rd_rng1 ?_ | refine rd_itup ?_ | refine rd_ilst ?_ | refine rd_bm ?_ | refine rd_bm0 ?_ | refine rd_andV ?_ | refine rd_orV ?_ | refine rd_notV ?_)
local macro_rules | `(tactic| walk_at "rd") => `(tactic| repeat walk_at "rd1")
local macro_rules | `(tactic| walk_at "ci") => `(tactic| first | assumption | (show (0 : Int) < _; first | decide | omega) | exact ⟨by decide, by decide⟩ | exact Or.inr ⟨by decide, by decide⟩ | exact Or.inl ⟨by decide, by decide⟩ | exact ⟨by decide, by decide, by decide⟩ | exact Or.inl ⟨by omega, by omega⟩ | exact Or.inr ⟨by omega, by omega⟩)
local macro_rules | `(tactic| walk_at "ix") => `(tactic| first
  | ((with_reducible apply rd_ixL); (walk_at "hl"); exact rfl)
  | ((with_reducible apply rd_ixT); (walk_at "ht"); exact rfl)
  | ((with_reducible apply rd_lenL); (walk_at "hl"))
  | ((with_reducible apply rd_lenT); (walk_at "ht"))
  | ((with_reducible apply rd_tupOf); (walk_at "hl"))
  | ((with_reducible apply rd_listOf); (walk_at "hl"))
  | (with_reducible refine rd_min2 ?_)
  | ((with_reducible apply rd_I); (walk_at "ci"))
  | ((with_reducible apply rd_setL); (walk_at "hp"); exact rfl))
local macro_rules | `(tactic| walk_at "gs") => `(tactic| repeat first | walk_at "rd1" | walk_at "ix")
local macro_rules | `(tactic| walk_at "go") => `(tactic| repeat first | walk_at "rd1" | walk_at "ix" | with_reducible refine rd_and ?_ | with_reducible refine rd_or ?_)
local macro_rules | `(tactic| walk_at "fo") => `(tactic| (with_reducible refine rd_for ?_))
local macro_rules | `(tactic| walk_at "pm") => `(tactic| repeat first
  | with_reducible first | refine rd_pcons ?_ | refine rd_pstr ?_ | refine rd_pcap ?_ | refine rd_pwild ?_ | refine rd_pnil ?_ | refine rd_por ?_ | refine rd_pno ?_
  | ((with_reducible refine rd_eq rfl ?_); refine ⟨_, rfl, ?_⟩; first | refine rd_T rfl ?_ | refine rd_F (by decide) ?_)
  | dsimp only [List.nil_append, List.singleton_append, List.cons_append, setAll])
local macro_rules | `(tactic| walk_at "pc") => `(tactic| (refine rd_case ?_); (first | (refine rd_phit (SqT.of (by assumption)) rfl ?_) | (refine rd_pmiss (SqT.of (by assumption)) (by simp) ?_)); (walk_at "pm"))

section
variable {X : Cx}
theorem assign_allV {pins : List (Addr × Obj)} (hN : X.N.Nodup) : ∀ {ns : List Str} {is : List Nat} {bs : List (Str × Value)} {vs : List V} {σ : L2.St} {H : Hp} {s : Shared} {Q : Unit → Shared → Prop} {E : Value → Shared → Prop}, Inv X pins σ H s → bs.map (·.1) = ns → Vals vs (bs.map (·.2)) →
    (is.map fun i => X.N[i]?) = ns.map some → (∀ n ∈ ns, Loc X.env.scope n ∧ (X.fn n = true ∨ X.env.scope.names.lookup n = some .local)) → (∀ s', Inv X pins (setAll σ is vs) H s' → Q () s') → wpAny (model X.prog X.w) X.A (assignInOrder (bs.map fun (n, _) => bindName X.env n) (bs.map (·.2))) Q E s
  | ns, is, [], vs, σ, H, s, Q, E, I, e, rv, hi, hl, q => by
    cases rv
    subst e
    cases is with
    | nil => exact wpAny_assignInOrder_none (q s I)
    | cons i is => cases hi
  | ns, is, (n, u) :: bs, vs, σ, H, s, Q, E, I, e, rv, hi, hl, q => by
    subst e
    cases is with
    | nil => cases hi
    | cons i is =>
      cases rv with
      | @cons v _ vs _ r1 r2 =>
        simp only [List.map_cons, List.cons.injEq] at hi
        refine wpAny_assignInOrder_more ?_
        show wpAny _ _ (bindName X.env n u) _ _ _
        unfold bindName
        refine wpAny_bind (wpAny_holding (wpAny_point ?_))
        refine wpAny_bind (store_ok (v := v) I hN hi.1 (hl n (by simp)).1 r1 (fun s1 I1 => wpAny_point ?_) (hl n (by simp)).2)
        exact assign_allV hN I1 rfl r2 hi.2 (fun m hm => hl m (by simp at hm ⊢; exact .inr hm)) q
theorem pc_consV {p : Pattern} {body : List Stmt} {cs : List MatchCase} {ns : List Str} {is : List Nat} {pt : TP} {tb : TS} {rest : V → TS} (hN : X.N.Nodup) (hp : PPat X p ns pt) (hi : (is.map fun i => X.N[i]?) = ns.map some) (hl : ∀ n ∈ ns, Loc X.env.scope n ∧ (X.fn n = true ∨ X.env.scope.names.lookup n = some .local))
    (hb : PSs X body tb) (hr : PCs X cs rest) : PCs X (⟨p, none, body⟩ :: cs) (tCase pt is tb rest) := by
  refine ⟨fun first pins s σ H v u D I rv h => ?_⟩
  refine wpAny_matchCases_cons (wpAny_mono (hp.run pins s σ H v u _ I rv h) (fun r s1 hr1 => ?_) fun _ _ z => z)
  cases r with
  | none =>
    obtain ⟨H1, I1, q1⟩ := hr1
    exact hr.run false pins s1 σ H1 v u D I1 rv q1
  | some bs =>
    obtain ⟨vs, H1, I1, e, rr, q1⟩ := hr1
    exact assign_allV hN I1 e rr hi hl fun s2 I2 => hb.run pins s2 _ H1 D I2 q1
theorem all_loc {ns : List Str} (h : (ns.all fun n => decide (X.env.scope.names.lookup n = some .local) || (decide (X.env.scope.names.lookup n = some .cell) && X.fn n)) = true) : ∀ n ∈ ns, Loc X.env.scope n ∧ (X.fn n = true ∨ X.env.scope.names.lookup n = some .local) := fun n hn => by
  have := List.all_eq_true.mp h n hn
  rw [Bool.or_eq_true, Bool.and_eq_true] at this
  rcases this with z | ⟨z, y⟩
  · exact ⟨.inl (of_decide_eq_true z), .inr (of_decide_eq_true z)⟩
  · exact ⟨.inr (of_decide_eq_true z), .inl y⟩
end
theorem cut_to {xs : List V} {k : Int} (h : 0 ≤ k) : cutV xs none (some k) = xs.take k.toNat := by
  obtain ⟨j, rfl⟩ := Int.eq_ofNat_of_zero_le h
  unfold cutV
  rw [HT.sIx_none, HT.sIx_nat, List.drop_zero, Nat.sub_zero, Int.toNat_natCast]
  rcases Nat.le_total j xs.length with q | q
  · rw [Nat.min_eq_left q]
  · rw [Nat.min_eq_right q, List.take_length, List.take_of_length_le q]
theorem cut_from {xs : List V} {k : Int} (h : 0 ≤ k) : cutV xs (some k) none = xs.drop k.toNat := by
  obtain ⟨j, rfl⟩ := Int.eq_ofNat_of_zero_le h
  unfold cutV
  rw [HT.sIx_none, HT.sIx_nat, Int.toNat_natCast]
  rcases Nat.le_total j xs.length with q | q
  · rw [Nat.min_eq_left q, List.take_of_length_le (by rw [List.length_drop]; omega)]
  · rw [Nat.min_eq_right q, List.drop_length, List.drop_of_length_le q, List.take_nil]
theorem rd_slTo {K : PySem.W.Frag} {i j : Nat} {σ : L2.St} {H : Hp} {Q : VK} {a : Addr} {xs : List V} {k : Int} (hs : SqL K H a xs) (hk : 0 ≤ k) (q : ∀ p, H p = none → Q (.ref p) (upd H p (.lst (xs.take k.toNat)))) (h1 : σ[i]? = some (some (.ref a)) := by rfl) (h2 : σ[j]? = some (some (.int k)) := by rfl) :
    tSl (rSlL K) (tVar i) tNoPart (tPart (tVar j)) σ H Q := ⟨_, h1, _, h2, k, rfl, a, xs, rfl, hs, fun p hp => by rw [cut_to hk]; exact q p hp⟩
theorem rd_slFrom {K : PySem.W.Frag} {i j : Nat} {σ : L2.St} {H : Hp} {Q : VK} {a : Addr} {xs : List V} {k : Int} (hs : SqL K H a xs) (hk : 0 ≤ k) (q : ∀ p, H p = none → Q (.ref p) (upd H p (.lst (xs.drop k.toNat)))) (h1 : σ[i]? = some (some (.ref a)) := by rfl) (h2 : σ[j]? = some (some (.int k)) := by rfl) :
    tSl (rSlL K) (tVar i) (tPart (tVar j)) tNoPart σ H Q := ⟨_, h1, _, h2, k, rfl, a, xs, rfl, hs, fun p hp => by rw [cut_from hk]; exact q p hp⟩
theorem tw_all {n : Int} : ∀ {l : List Int}, l.all (fun x => decide (x < n)) = true → l.takeWhile (fun x => decide (x < n)) = l
  | [], _ => rfl
  | y :: l, h => by
    rw [List.all_cons, Bool.and_eq_true] at h
    rw [List.takeWhile_cons_of_pos (p := fun x => decide (x < n)) h.1, tw_all h.2]
theorem tw_at {n : Int} : ∀ {l : List Int} {i : Nat}, (l.take i).all (fun x => decide (x < n)) = true → (hi : i < l.length) → n ≤ l[i] → l.takeWhile (fun x => decide (x < n)) = l.take i
  | y :: l, 0, _, _, h => by rw [List.takeWhile_cons_of_neg (p := fun x => decide (x < n)) (by simp only [List.getElem_cons_zero] at h; simp; omega)]; rfl
  | y :: l, i + 1, ha, hi, h => by
    rw [List.take_succ_cons, List.all_cons, Bool.and_eq_true] at ha
    rw [List.takeWhile_cons_of_pos (p := fun x => decide (x < n)) ha.1, tw_at ha.2 (Nat.lt_of_succ_lt_succ hi) h]; rfl
def spUntil : Sp := fun vs H Q _ => ∃ (a : Addr) (xs : List Int) (n : Int), vs = [.ref a, .int n] ∧ H a = some (.lst (xs.map V.int)) ∧ ∀ H' q, H' q = some (.lst ((Kd.row (.until n) xs).map V.int)) → (q = a ∨ H q = none) → Fr [] H H' → Q (.ref q) H'
def spUnlike : Sp := fun vs H Q _ => ∃ (a : Addr) (xs : List Int), vs = [.ref a] ∧ H a = some (.lst (xs.map V.int)) ∧ xs.length ≤ 100000 ∧ ∀ H' q, H' q = some (.lst ((Kd.row .unlike xs).map V.int)) → H q = none → Fr [] H H' → Q (.ref q) H'
section
variable {P : Program} {w : World} {K : PySem.W.Frag} {mg : Str → Option Value} {base : Heap} {f : Addr} {fd : FuncData}
theorem sc_row_until : FnScope ["numbers", "n", "at", "number"] ["numbers", "n"] (defScope s_row_until) := ⟨rfl, rfl, rfl, by decide +kernel, rfl, by decide +kernel, by decide +kernel⟩
theorem ok_row_until (T : Txt K mg) (F : FnP K "row_until" "row_until" s_row_until f fd) : FnOk P w K mg base CX0 1 f fd ["numbers", "n"] spUntil := by
  refine ok0 F sc_row_until (fun vs H Q E h => ?_) (fun cdv A outer s H vs Q E hr h => ?_)
  · obtain ⟨a, xs, n, rfl, _⟩ := h
    rfl
  · obtain ⟨a, xs, n, rfl, e, k⟩ := h
    refine ⟨_, (pss_cons (ps_for PassesOwn.never rfl (pi_enum (by rfl) T.free_enumerate (pa_cons (pv 0) pa_nil)) (pg_tup (by rfl) (pgs_cons (pg_name (i := 2) sc_row_until.nd rfl (Or.inl rfl)) (pgs_cons (pg_name (i := 3) sc_row_until.nd rfl (Or.inl rfl)) pgs_nil)))
    (pss_one (ps_if (pt_cmpR op_ge (pv 3) (pv 1) (nomark _))
      (pss_one (ps_ret (pe_slice sl_list (pv 0) po_none (po_some (pv 2))))) pss_nil)))
  (pss_one (ps_ret (pv 0)))), ?_⟩
    try dsimp only [cxOf, Cx.nox, Cx.wish]
    refine rd_at (σ' := [some (.ref a), some (.int n), none, none]) rfl ?_
    walk_at "go"
    walk_at "fo"
    refine ⟨_, rfl, ?_⟩
    refine ⟨a, _, rfl, SqL.of e, ?_⟩
    refine for_it (walk_enum (K := K) (a := a) (xs := xs.map V.int)) (fun i σ H1 => ∃ v2 v3 : Option V, σ = [some (.ref a), some (.int n), v2, v3] ∧ (xs.take i).all (fun x => decide (x < n)) = true ∧ Fr [] H H1) ⟨_, _, rfl, rfl, Fr.refl _ _⟩ (fun i σ H1 _ ⟨_, _, _, _, f⟩ => SqL.of (f.at e (by simp))) ?_ ?_
    · rintro i x σ H1 H2 hi ⟨v2, v3, rfl, ha, f1⟩ ⟨T0, y1, y2, rfl, hT, rfl, hy1, hy2⟩
      rw [List.length_map] at hi
      cases hy1
      have hy3 : (xs.map V.int)[i]? = some y2 := hy2
      rw [List.getElem?_map, List.getElem?_eq_getElem hi] at hy3
      cases hy3
      have f2 : Fr [] H1 (upd H1 T0 (.tup [.int (i : Nat), .int xs[i]])) := Fr.new hT
      refine ⟨T0, _, rfl, SqT.of upd_same, rfl, ?_⟩
      refine ⟨_, _, rfl, ?_⟩
      refine rd_name ?_
      refine ⟨_, _, rfl, ?_⟩
      refine rd_name ?_
      refine ⟨rfl, ?_⟩
      walk_at "go"
      refine rd_dec (fun c => ?_) (fun c => ?_)
      · walk_at "go"
        refine rd_slTo (k := (i : Int)) (SqL.of ((f1.tr f2).at e (by simp))) (by omega) fun q hq => ?_
        have f3 : Fr [] H1 (upd (upd H1 T0 (.tup [.int (i : Nat), .int xs[i]])) q (.lst ((xs.map V.int).take (i : Int).toNat))) := f2.newN hq
        refine k _ q ?_ (.inr ((f1.tr f2).free (by simp) hq)) (f1.tr f3)
        rw [upd_same]
        show some (HO.lst ((xs.map V.int).take i)) = some (HO.lst ((xs.takeWhile fun x => decide (x < n)).map V.int))
        rw [tw_at ha hi c, List.map_take]
      · walk_at "go"
        refine ⟨_, _, rfl, ?_, f1.tr f2⟩
        rw [take_snoc hi, List.all_append, ha, getElem!_pos xs i hi]
        simpa using c
    · rintro σ H1 ⟨v2, v3, rfl, ha, f1⟩
      walk_at "go"
      refine k _ a ?_ (.inl rfl) f1
      have hl : ((xs.map V.int).length) = xs.length := List.length_map ..
      rw [f1.at e (by simp)]
      show some (HO.lst (xs.map V.int)) = some (HO.lst ((xs.takeWhile fun x => decide (x < n)).map V.int))
      rw [hl, List.take_length] at ha
      rw [tw_all ha]
theorem sc_row_unlike : FnScope ["numbers", "at", "number"] ["numbers"] (defScope s_row_unlike) := ⟨rfl, rfl, rfl, by decide +kernel, rfl, by decide +kernel, by decide +kernel⟩
theorem ok_row_unlike (T : Txt K mg) (F : FnP K "row_unlike" "row_unlike" s_row_unlike f fd) : FnOk P w K mg base CX0 1 f fd ["numbers"] spUnlike := by
  refine ok0 F sc_row_unlike (fun vs H Q E h => ?_) (fun cdv A outer s H vs Q E hr h => ?_)
  · obtain ⟨a, xs, rfl, _⟩ := h
    rfl
  · obtain ⟨a, xs, rfl, e, hx, k⟩ := h
    refine ⟨_, (pss_one (ps_ret (pe_lc (own := [("at", 1), ("number", 2)]) (g := gTup K 2 (gCons (gName 1) (gCons (gName 2) gNil))) rfl sc_row_unlike.nd (pi_enum (by rfl) T.free_enumerate (pa_cons (pv 0) pa_nil)) (blkOk_by (N := ["numbers", "at", "number"]) (sc := defScope s_row_unlike) (by decide +kernel)) (fun _ _ _ _ _ => pg_tup (by rfl) (pgs_cons (pg_name (i := 1) sc_row_unlike.nd rfl (Or.inl rfl)) (pgs_cons (pg_name (i := 2) sc_row_unlike.nd rfl (Or.inl rfl)) pgs_nil))) (fun _ _ _ _ _ => pts_one (PW.pt (pw_or (pt_cmpR op_eq (pv 1) pe_int (nomark _)) (pw_or1 (pt_cmpR op_ne (pv 2) (pe_ix (ix_listK K) (pv 0) (pe_op op_sub (pv 1) pe_int) (fun _ _ => rfl)) (nomark _)))))) (fun _ _ _ _ _ => (pv 2))))), ?_⟩
    try dsimp only [cxOf, Cx.nox, Cx.wish]
    refine rd_at (σ' := [some (.ref a), none, none]) rfl ?_
    walk_at "go"
    show iEnum _ _ _ _ _
    refine ⟨_, rfl, ?_⟩
    refine ⟨a, _, rfl, SqL.of e, fun D hD => ?_⟩
    refine lc_it (walk_enum (K := K) (a := a) (xs := xs.map V.int)) (fun i H1 => H1 D = some (.lst ((Kd.row .unlike (xs.take i)).map V.int)) ∧ (Kd.row .unlike (xs.take i)).length ≤ i ∧ Fr [] H H1) ⟨upd_same, Nat.le_refl _, Fr.new hD⟩ (fun i H1 _ h => SqL.of (h.2.2.at e (by simp))) ?_ ?_
    · rintro i x H1 H2 hi ⟨e1, hl1, f1⟩ ⟨T0, y1, y2, rfl, hT, rfl, hy1, hy2⟩
      rw [List.length_map] at hi
      cases hy1
      have hy3 : (xs.map V.int)[i]? = some y2 := hy2
      rw [List.getElem?_map, List.getElem?_eq_getElem hi] at hy3
      cases hy3
      have f2 : Fr [] H1 (upd H1 T0 (.tup [.int (i : Nat), .int xs[i]])) := Fr.new hT
      have e2 := f2.at e1 (by simp)
      have ea := (f1.tr f2).at e (by simp)
      have st := row_step .unlike xs hi
      have hfr : ∀ (ws : List V), Fr [] H (upd (upd H1 T0 (.tup [.int (i : Nat), .int xs[i]])) D (.lst ws)) := fun ws => (f1.tr f2).putN (.inr hD) (nt e2)
      refine ⟨T0, _, rfl, SqT.of upd_same, rfl, ?_⟩
      refine ⟨_, _, rfl, ?_⟩
      refine rd_name ?_
      refine ⟨_, _, rfl, ?_⟩
      refine rd_name ?_
      refine ⟨rfl, ?_⟩
      refine ⟨rfl, ?_⟩
      have gi : xs[i]! = xs[i] := getElem!_pos xs i hi
      have yes : Kd.often .unlike xs i = 1 → (∃ acc, (upd H1 T0 (.tup [.int (i : Nat), .int xs[i]])) D = some (.lst acc) ∧ acc.length < sizeLine ∧ (upd (upd H1 T0 (.tup [.int (i : Nat), .int xs[i]])) D (.lst (acc ++ [.int xs[i]]))) D = some (.lst ((Kd.row .unlike (xs.take (i + 1))).map V.int)) ∧ (Kd.row .unlike (xs.take (i + 1))).length ≤ i + 1 ∧ Fr [] H (upd (upd H1 T0 (.tup [.int (i : Nat), .int xs[i]])) D (.lst (acc ++ [.int xs[i]])))) := fun ho => by
        rw [ho, gi] at st
        refine ⟨_, e2, by rw [List.length_map]; exact Nat.lt_of_le_of_lt (show _ ≤ 100000 by omega) (by decide), ?_, ?_, hfr _⟩
        · rw [upd_same, st, List.map_append]; rfl
        · rw [st, List.length_append]; exact Nat.add_le_add_right hl1 1
      have no : Kd.often .unlike xs i = 0 → (upd H1 T0 (.tup [.int (i : Nat), .int xs[i]])) D = some (.lst ((Kd.row .unlike (xs.take (i + 1))).map V.int)) ∧ (Kd.row .unlike (xs.take (i + 1))).length ≤ i + 1 ∧ Fr [] H (upd H1 T0 (.tup [.int (i : Nat), .int xs[i]])) := fun ho => by
        rw [ho] at st
        have st' : Kd.row .unlike (xs.take (i + 1)) = Kd.row .unlike (xs.take i) := by rw [st]; exact List.append_nil _
        rw [st']
        exact ⟨e2, Nat.le_succ_of_le hl1, f1.tr f2⟩
      walk_at "go"
      refine rd_dec (fun c => ?_) (fun c => ?_)
      · have hi0 : i = 0 := by have := V.int.inj c; omega
        refine iteT ?_
        refine ⟨_, rfl, ?_⟩
        exact yes (by show (if i = 0 ∨ xs[i]! ≠ xs[i - 1]! then 1 else 0) = 1; rw [if_pos (Or.inl hi0)])
      · have hi0 : i ≠ 0 := fun z => c (by rw [z]; rfl)
        have hp : i - 1 < xs.length := by omega
        have gp : xs[i - 1]! = xs[i - 1] := getElem!_pos xs (i - 1) hp
        walk_at "go"
        refine rd_ixL (SqL.of ea) (at_of (j := i - 1) (v := .int xs[i - 1]) (by omega) (by rw [List.getElem?_map, List.getElem?_eq_getElem hp]; rfl)) ?_
        walk_at "go"
        refine rd_ndec (fun c2 => ?_) (fun c2 => ?_)
        · refine ⟨_, rfl, ?_⟩
          exact yes (by show (if i = 0 ∨ xs[i]! ≠ xs[i - 1]! then 1 else 0) = 1; rw [if_pos (Or.inr (by rw [gi, gp]; exact fun z => c2 (congrArg V.int z)))])
        · exact no (by show (if i = 0 ∨ xs[i]! ≠ xs[i - 1]! then 1 else 0) = 0; rw [if_neg (by rintro (z | z); exact hi0 z; exact z (by rw [gi, gp]; exact V.int.inj c2))])
    · rintro H1 ⟨e1, _, f1⟩
      rw [List.length_map, List.take_length] at e1
      exact k H1 D e1 hD f1
theorem row_app {H H1 : Hp} {D : Addr} {k : Kd} {xs : List Int} {i : Nat} (hi : i < xs.length) (hx : xs.length ≤ 100000) (hD : H D = none) (h : H1 D = some (.lst ((k.row (xs.take i)).map V.int)) ∧ (k.row (xs.take i)).length ≤ i ∧ Fr [] H H1) (ho : k.often xs i = 1) :
    ∃ acc, H1 D = some (.lst acc) ∧ acc.length < sizeLine ∧ (upd H1 D (.lst (acc ++ [.int (k.val xs[i])]))) D = some (.lst ((k.row (xs.take (i + 1))).map V.int)) ∧ (k.row (xs.take (i + 1))).length ≤ i + 1 ∧ Fr [] H (upd H1 D (.lst (acc ++ [.int (k.val xs[i])]))) := by
  obtain ⟨e1, hl, f1⟩ := h
  have st := row_step k xs hi
  rw [ho, getElem!_pos xs i hi] at st
  refine ⟨_, e1, by rw [List.length_map]; exact Nat.lt_of_le_of_lt (show _ ≤ 100000 by omega) (by decide), ?_, ?_, f1.putN (.inr hD) (nt e1)⟩
  · rw [upd_same, st, List.map_append]; rfl
  · rw [st, List.length_append]; exact Nat.add_le_add_right hl 1
theorem row_skip {H H1 : Hp} {D : Addr} {k : Kd} {xs : List Int} {i : Nat} (hi : i < xs.length) (h : H1 D = some (.lst ((k.row (xs.take i)).map V.int)) ∧ (k.row (xs.take i)).length ≤ i ∧ Fr [] H H1) (ho : k.often xs i = 0) :
    H1 D = some (.lst ((k.row (xs.take (i + 1))).map V.int)) ∧ (k.row (xs.take (i + 1))).length ≤ i + 1 ∧ Fr [] H H1 := by
  have st := row_step k xs hi
  rw [ho] at st
  have st' : k.row (xs.take (i + 1)) = k.row (xs.take i) := by rw [st]; exact List.append_nil _
  rw [st']
  exact ⟨h.1, Nat.le_succ_of_le h.2.1, h.2.2⟩
theorem map_get {xs : List Int} {i : Nat} {z : V} (h : (xs.map V.int)[i]? = some z) : ∃ hi : i < xs.length, z = .int xs[i] := by
  have hi : i < xs.length := by have := (List.getElem?_eq_some_iff.mp h).1; rwa [List.length_map] at this
  rw [List.getElem?_map, List.getElem?_eq_getElem hi] at h
  exact ⟨hi, (Option.some.inj h).symm⟩
/-- what one stage makes of a row; whole rows, at most so many makers deep -/
def spWholeRow (nw : Addr) (n : Nat) : Sp := fun vs H Q E => ∃ (p : Addr) (c : Ch), vs = [.ref p] ∧ ChAt H p c ∧ c.ok ∧ c.rows ∧ c.nm ≤ n ∧
  (∀ xs, c.row = some xs → ∀ H' q, H' q = some (.lst (xs.map V.int)) → H q = none → Fr [] H H' → Q (.ref q) H') ∧ (c.row = none → ∀ H', Fr [] H H' → E (.ref nw) none H')
def spBehindR (nw : Addr) (n : Nat) : Sp := fun vs H Q E => ∃ (a x : Addr) (xs : List Int) (g : Sg), vs = [.ref a, .ref x] ∧ H a = some (.lst (xs.map V.int)) ∧ xs.length ≤ 10000 ∧ SgAt H x g ∧ g.ok ∧ g.rows ∧ g.nm ≤ n ∧
  (∀ ys, g.row xs = some ys → ∀ H' q, H' q = some (.lst (ys.map V.int)) → (q = a ∨ H q = none) → Fr [] H H' → Q (.ref q) H') ∧ (g.row xs = none → ∀ H', Fr [] H H' → E (.ref nw) none H')
theorem sc_row_behind : FnScope ["numbers", "stage", "n", "number", "rest", "wheel", "many", "_", "chain", "one", "other"] ["numbers", "stage"] (defScope s_row_behind) := ⟨rfl, rfl, rfl, by decide +kernel, rfl, by decide +kernel, by decide +kernel⟩
theorem ok_row_behind {nw : Addr} {n j : Nat} (hj : 1 ≤ j) (T : Txt K mg) (F : FnP K "row_behind" "row_behind" s_row_behind f fd)
    (G_row_until : Cal P w K mg base CX0 1 "row_until" ["numbers", "n"] spUntil) (G_row_unlike : Cal P w K mg base CX0 1 "row_unlike" ["numbers"] spUnlike)
    (G_whole_row : Cal P w K mg base (L2.CX P w) j "whole_row" ["chain"] (spWholeRow nw n)) : FnOk P w K mg base (L2.CX P w) (j + 1) f fd ["numbers", "stage"] (spBehindR nw n) := by
  refine okX F sc_row_behind (fun vs H Q E h => ?_) (fun cdv A outer s H vs Q E hr h px tk po => ?_)
  · obtain ⟨a, x, xs, g, rfl, _⟩ := h
    rfl
  · obtain ⟨a, x, xs, g, rfl, e, hx, hg, gok, grow, gnm, k1, k2⟩ := h
    have hu64 := hr.units
    refine ⟨_, (pss_one (ps_match (pv 1)
    (pc_consV (is := [2]) sc_row_behind.nd (pat_seq rfl (pp_cons (pat_str op_eq) (pp_cons pat_cap pp_nil))) rfl (all_loc (by rfl))
      (pss_one (ps_ret (pe_lc (own := [("number", 3)]) (g := gName 3) rfl sc_row_behind.nd (pi_list (pv 0)) (blkOk_by (N := ["numbers", "stage", "n", "number", "rest", "wheel", "many", "_", "chain", "one", "other"]) (sc := defScope s_row_behind) (by decide +kernel)) (fun _ _ _ _ _ => pg_name (i := 3) sc_row_behind.nd rfl (Or.inl rfl)) (fun _ _ _ _ _ => pts_nil) (fun _ _ _ _ _ => (pe_op op_add (pv 3) (pv 2))))))
    (pc_consV (is := [2]) sc_row_behind.nd (pat_seq rfl (pp_cons (pat_str op_eq) (pp_cons pat_cap pp_nil))) rfl (all_loc (by rfl))
      (pss_one (ps_ret (pe_lc (own := [("number", 3)]) (g := gName 3) rfl sc_row_behind.nd (pi_list (pv 0)) (blkOk_by (N := ["numbers", "stage", "n", "number", "rest", "wheel", "many", "_", "chain", "one", "other"]) (sc := defScope s_row_behind) (by decide +kernel)) (fun _ _ _ _ _ => pg_name (i := 3) sc_row_behind.nd rfl (Or.inl rfl)) (fun _ _ _ _ _ => pts_nil) (fun _ _ _ _ _ => (pe_op op_mul (pv 3) (pv 2))))))
    (pc_consV (is := [4, 5]) sc_row_behind.nd (pat_seq rfl (pp_cons (pat_str op_eq) (pp_cons pat_cap (pp_cons pat_cap pp_nil)))) rfl (all_loc (by rfl))
      (pss_one (ps_ret (pe_lc (own := [("number", 3)]) (g := gName 3) rfl sc_row_behind.nd (pi_list (pv 0)) (blkOk_by (N := ["numbers", "stage", "n", "number", "rest", "wheel", "many", "_", "chain", "one", "other"]) (sc := defScope s_row_behind) (by decide +kernel)) (fun _ _ _ _ _ => pg_name (i := 3) sc_row_behind.nd rfl (Or.inl rfl)) (fun _ _ _ _ _ => pts_one (pt_cmpR op_eq (pe_op op_mod (pv 3) (pv 5)) (pv 4) (nomark _))) (fun _ _ _ _ _ => (pv 3)))))
    (pc_consV (is := [6]) sc_row_behind.nd (pat_seq rfl (pp_cons (pat_str op_eq) (pp_cons pat_cap pp_nil))) rfl (all_loc (by rfl))
      (pss_one (ps_ret (pe_slice sl_list (pv 0) (po_some (pv 6)) po_none)))
    (pc_consV (is := [6]) sc_row_behind.nd (pat_seq rfl (pp_cons (pat_str op_eq) (pp_cons pat_cap pp_nil))) rfl (all_loc (by rfl))
      (pss_one (ps_ret (pe_slice sl_list (pv 0) po_none (po_some (pv 6)))))
    (pc_consV (is := [6]) sc_row_behind.nd (pat_seq rfl (pp_cons (pat_str op_eq) (pp_cons pat_cap pp_nil))) rfl (all_loc (by rfl))
      (pss_one (ps_ret (pe_lc2 (own := [("number", 3), ("_", 7)]) (vs1 := [7]) rfl sc_row_behind.nd (pi_list (pv 0)) (blkOk_by (N := ["numbers", "stage", "n", "number", "rest", "wheel", "many", "_", "chain", "one", "other"]) (sc := defScope s_row_behind) (by decide +kernel)) (by decide) (fun _ _ _ _ _ => pg_name (i := 3) sc_row_behind.nd rfl (Or.inl rfl)) (fun _ _ _ _ _ => pts_nil) (fun _ _ _ _ _ => (pi_range1 (by rfl) T.free_range (pa_cons (pv 6) pa_nil))) (fun _ _ _ _ _ => pg_name (i := 7) sc_row_behind.nd rfl (Or.inl rfl)) (fun _ _ _ _ _ => pts_nil) (fun _ _ _ _ _ => (pv 3)))))
    (pc_consV (is := [2]) sc_row_behind.nd (pat_seq rfl (pp_cons (pat_str op_eq) (pp_cons pat_cap pp_nil))) rfl (all_loc (by rfl))
      (pss_one (ps_ret (pe_cal G_row_until (hr.mono (by omega)) pass0 (pa_cons (pv 0) (pa_cons (pv 2) pa_nil)))))
    (pc_cons (is := []) sc_row_behind.nd (pat_seq rfl (pp_cons (pat_str op_eq) pp_nil)) rfl (all_local (by rfl))
      (pss_one (ps_ret (pe_cal G_row_unlike (hr.mono (by omega)) pass0 (pa_cons (pv 0) pa_nil))))
    (pc_cons (is := [8]) sc_row_behind.nd (pat_seq rfl (pp_cons (pat_str op_eq) (pp_cons pat_cap pp_nil))) rfl (all_local (by rfl))
      (pss_one (ps_ret (pe_lc (own := [("one", 9), ("other", 10)]) (g := gTup K 2 (gCons (gName 9) (gCons (gName 10) gNil))) rfl sc_row_behind.nd (pi_zip (by rfl) T.free_zip (pa_cons (pv 0) (pa_cons (pe_cal G_whole_row (hr.mono (by omega)) px (pa_cons (pv 8) pa_nil)) pa_nil))) (blkOk_by (N := ["numbers", "stage", "n", "number", "rest", "wheel", "many", "_", "chain", "one", "other"]) (sc := defScope s_row_behind) (by decide +kernel)) (fun _ _ _ _ _ => pg_tup (by rfl) (pgs_cons (pg_name (i := 9) sc_row_behind.nd rfl (Or.inl rfl)) (pgs_cons (pg_name (i := 10) sc_row_behind.nd rfl (Or.inl rfl)) pgs_nil))) (fun _ _ _ _ _ => pts_nil) (fun _ _ _ _ _ => (pe_op op_add (pv 9) (pv 10))))))
    (pc_cons (is := [8]) sc_row_behind.nd (pat_seq rfl (pp_cons (pat_str op_eq) (pp_cons pat_cap pp_nil))) rfl (all_local (by rfl))
      (pss_one (ps_ret (pe_op op_cat (pv 0) (pe_cal G_whole_row (hr.mono (by omega)) px (pa_cons (pv 8) pa_nil)))))
    pc_nil)))))))))))), ?_⟩
    try dsimp only [cxOf, Cx.nox, Cx.wish]
    refine rd_at (σ' := [some (.ref a), some (.ref x), none, none, none, none, none, none, none, none, none]) rfl ?_
    refine rd_match ?_
    walk_at "go"
    have k0 : ∀ k : Kd, g = .one k → ∀ H1 D, H1 D = some (.lst ((k.row xs).map V.int)) ∧ (k.row xs).length ≤ xs.length ∧ Fr [] H H1 → H D = none → Q (.ref D) H1 := fun k eg H1 D h hD => k1 (k.row xs) (by rw [eg]; rfl) H1 D h.1 (.inr hD) h.2.2
    have hx2 : xs.length ≤ 100000 := by omega
    have full : ∀ {k : Kd} {H1 : Hp} {D : Addr}, (H1 D = some (.lst ((k.row (xs.take (xs.map V.int).length)).map V.int)) ∧ (k.row (xs.take (xs.map V.int).length)).length ≤ (xs.map V.int).length ∧ Fr [] H H1) → H1 D = some (.lst ((k.row xs).map V.int)) ∧ (k.row xs).length ≤ xs.length ∧ Fr [] H H1 := fun h => by
      rw [List.length_map, List.take_length] at h; exact h
    cases g with
    | one kd =>
      cases kd with
      | add n =>
        simp only [SgAt, Kd.vals] at hg
        repeat walk_at "pc"
        walk_at "go"
        show iList K (tVar 0) _ _ _
        refine ⟨_, rfl, a, rfl, ⟨_, SqL.of e⟩, fun D hD => ?_⟩
        refine lc_list (K := K) (a := a) (xs := xs.map V.int) (fun i H1 => H1 D = some (.lst ((Kd.row (.add n) (xs.take i)).map V.int)) ∧ (Kd.row (.add n) (xs.take i)).length ≤ i ∧ Fr [] H H1) ⟨upd_same, Nat.le_refl _, Fr.new hD⟩ (fun i H1 _ h => SqL.of (h.2.2.at e (by simp))) ?_ (fun H1 h => k0 _ rfl _ _ (full h) hD)
        rintro i z H1 hz h
        obtain ⟨hi, rfl⟩ := map_get hz
        walk_at "go"
        refine ⟨rfl, ?_⟩
        walk_at "go"
        exact row_app hi hx2 hD h rfl
      | times n =>
        simp only [SgAt, Kd.vals] at hg
        repeat walk_at "pc"
        walk_at "go"
        show iList K (tVar 0) _ _ _
        refine ⟨_, rfl, a, rfl, ⟨_, SqL.of e⟩, fun D hD => ?_⟩
        refine lc_list (K := K) (a := a) (xs := xs.map V.int) (fun i H1 => H1 D = some (.lst ((Kd.row (.times n) (xs.take i)).map V.int)) ∧ (Kd.row (.times n) (xs.take i)).length ≤ i ∧ Fr [] H H1) ⟨upd_same, Nat.le_refl _, Fr.new hD⟩ (fun i H1 _ h => SqL.of (h.2.2.at e (by simp))) ?_ (fun H1 h => k0 _ rfl _ _ (full h) hD)
        rintro i z H1 hz h
        obtain ⟨hi, rfl⟩ := map_get hz
        walk_at "go"
        refine ⟨rfl, ?_⟩
        walk_at "go"
        refine rd_I (.inr ⟨by have := gok.2; omega, by have := gok.2; omega⟩) ?_
        exact row_app hi hx2 hD h rfl
      | keep r wh =>
        simp only [SgAt, Kd.vals] at hg
        repeat walk_at "pc"
        walk_at "go"
        show iList K (tVar 0) _ _ _
        refine ⟨_, rfl, a, rfl, ⟨_, SqL.of e⟩, fun D hD => ?_⟩
        refine lc_list (K := K) (a := a) (xs := xs.map V.int) (fun i H1 => H1 D = some (.lst ((Kd.row (.keep r wh) (xs.take i)).map V.int)) ∧ (Kd.row (.keep r wh) (xs.take i)).length ≤ i ∧ Fr [] H H1) ⟨upd_same, Nat.le_refl _, Fr.new hD⟩ (fun i H1 _ h => SqL.of (h.2.2.at e (by simp))) ?_ (fun H1 h => k0 _ rfl _ _ (full h) hD)
        rintro i z H1 hz h
        obtain ⟨hi, rfl⟩ := map_get hz
        have gi : xs[i]! = xs[i] := getElem!_pos xs i hi
        walk_at "go"
        refine ⟨rfl, ?_⟩
        walk_at "go"
        refine rd_I (show (0 : Int) < wh by have := gok.1; omega) ?_
        walk_at "go"
        refine rd_dec (fun c => ?_) (fun c => ?_)
        · walk_at "go"
          exact row_app hi hx2 hD h (by show (if xs[i]! % wh = r then 1 else 0) = 1; rw [if_pos (by rw [gi]; exact V.int.inj c)])
        · exact row_skip hi h (by show (if xs[i]! % wh = r then 1 else 0) = 0; rw [if_neg (by rw [gi]; exact fun z => c (congrArg V.int z))])
      | drop n =>
        simp only [SgAt, Kd.vals] at hg
        repeat walk_at "pc"
        walk_at "go"
        refine rd_slFrom (k := n) (SqL.of e) gok.1 fun q hq => ?_
        exact k1 _ rfl _ q (by rw [upd_same, ← List.map_drop]; rfl) (.inr hq) (Fr.new hq)
      | take n =>
        simp only [SgAt, Kd.vals] at hg
        repeat walk_at "pc"
        walk_at "go"
        refine rd_slTo (k := n) (SqL.of e) gok.1 fun q hq => ?_
        exact k1 _ rfl _ q (by rw [upd_same, ← List.map_take]; rfl) (.inr hq) (Fr.new hq)
      | each n =>
        simp only [SgAt, Kd.vals] at hg
        repeat walk_at "pc"
        walk_at "go"
        show iList K (tVar 0) _ _ _
        refine ⟨_, rfl, a, rfl, ⟨_, SqL.of e⟩, fun D hD => ?_⟩
        have n0 : 0 ≤ n := by have := gok.1; omega
        have n1 : n ≤ 10 := gok.2
        have st := fun {i : Nat} (hi : i < xs.length) => row_step (.each n) xs hi
        refine ⟨fun i m H1 => m = xs.length - i ∧ i ≤ xs.length ∧ H1 D = some (.lst ((Kd.row (.each n) (xs.take i)).map V.int)) ∧ (Kd.row (.each n) (xs.take i)).length ≤ i * 10 ∧ Fr [] H H1, ⟨_, rfl, Nat.zero_le _, upd_same, Nat.le_refl _, Fr.new hD⟩, ?_⟩
        rintro i m H1 ⟨rfl, hi, e1, hl, f1⟩
        have ea := f1.at e (by simp)
        rcases Nat.lt_or_ge i xs.length with hlt | hge
        · refine .inr ⟨(walk_list (K := K) (a := a) (xs := xs.map V.int)).goes i H1 (by rw [List.length_map]; exact hlt) (SqL.of ea), fun H2 => H2 D = some (.lst ((Kd.row (.each n) (xs.take (i + 1))).map V.int)) ∧ (Kd.row (.each n) (xs.take (i + 1))).length ≤ (i + 1) * 10 ∧ Fr [] H H2, fun H2 h2 => ⟨xs.length - (i + 1), by omega, rfl, hlt, h2.1, h2.2.1, h2.2.2⟩, fun z H2 hz => ?_⟩
          obtain ⟨hH, hz2⟩ := (walk_list (K := K) (a := a) (xs := xs.map V.int)).yields i H1 z H2 (by rw [List.length_map]; exact hlt) (SqL.of ea) hz
          subst hH
          obtain ⟨_, rfl⟩ := map_get hz2
          refine rd_name ?_
          refine ⟨rfl, ?_⟩
          refine rd_yes ?_
          refine iteT ?_
          show iRng1 (tCons (tVar 6) tNil) _ _ _
          walk_at "go"
          refine ⟨n, rfl, by omega, by omega, ?_⟩
          have s1 := st hlt
          rw [getElem!_pos xs i hlt] at s1
          have s2 : Kd.row (.each n) (xs.take (i + 1)) = Kd.row (.each n) (xs.take i) ++ List.replicate n.toNat xs[i] := s1
          refine ⟨fun j k H3 => k = n.toNat - j ∧ j ≤ n.toNat ∧ H3 D = some (.lst ((Kd.row (.each n) (xs.take i) ++ List.replicate j xs[i]).map V.int)) ∧ Fr [] H H3, ⟨_, rfl, Nat.zero_le _, by rw [List.replicate_zero, List.append_nil]; exact e1, f1⟩, ?_⟩
          rintro j k3 H3 ⟨rfl, hj, e3, f3⟩
          rcases Nat.lt_or_ge j n.toNat with jlt | jge
          · refine .inr ⟨jlt, fun H4 => H4 D = some (.lst ((Kd.row (.each n) (xs.take i) ++ List.replicate (j + 1) xs[i]).map V.int)) ∧ Fr [] H H4, fun H4 h4 => ⟨n.toNat - (j + 1), by omega, rfl, jlt, h4.1, h4.2⟩, fun z H4 hz => ?_⟩
            obtain ⟨hz1, hz2⟩ := hz
            subst hz1 hz2
            refine rd_name ?_
            refine ⟨rfl, ?_⟩
            refine rd_yes ?_
            refine iteT ?_
            walk_at "go"
            refine ⟨_, e3, ?_, ?_, f3.putN (.inr hD) (nt e3)⟩
            · rw [List.length_map, List.length_append, List.length_replicate]; exact Nat.lt_of_le_of_lt (show _ ≤ 200000 by omega) (by decide)
            · rw [upd_same]; simp only [List.replicate_succ', List.map_append, List.map_cons, List.map_nil, List.append_assoc]
          · have ej : j = n.toNat := by omega
            subst ej
            refine .inl ⟨Nat.le_refl _, ?_, ?_, f3⟩
            · rw [s2]; exact e3
            · rw [s2, List.length_append, List.length_replicate]; omega
        · have ei : i = xs.length := by omega
          subst ei
          rw [List.take_length] at e1 hl
          refine .inl ⟨(walk_list (K := K) (a := a) (xs := xs.map V.int)).stops H1 (SqL.of ea) |> (fun z => by rw [List.length_map] at z; exact z), ?_⟩
          exact k1 _ rfl H1 D e1 (.inr hD) f1
      | «until» n =>
        simp only [SgAt, Kd.vals] at hg
        repeat walk_at "pc"
        walk_at "go"
        exact ⟨a, xs, n, rfl, e, fun H' q eq hq f => k1 _ rfl H' q eq hq f⟩
      | unlike =>
        simp only [SgAt, Kd.vals] at hg
        repeat walk_at "pc"
        walk_at "go"
        exact ⟨a, xs, rfl, e, hx2, fun H' q eq hq f => k1 _ rfl H' q eq (.inr hq) f⟩
    | both o =>
      obtain ⟨pi, ex, hpi⟩ := hg
      repeat walk_at "pc"
      walk_at "go"
      show iZip K _ _ _ _
      refine ⟨_, rfl, _, rfl, ?_⟩
      refine ⟨pi, o, rfl, hpi, gok, grow, gnm, fun ys ey H' q eq hq f => ?_, fun en H' f => k2 (by show o.row.map _ = none; rw [en]; rfl) H' f⟩
      have ea := f.at e (by simp)
      refine ⟨a, q, _, _, rfl, SqL.of ea, SqL.of eq, fun D hD => ?_⟩
      have kk := k1 (List.zipWith (· + ·) xs ys) (by show o.row.map _ = _; rw [ey]; rfl)
      refine lc_it (walk_zip (K := K) (a := a) (b := q) (xs := xs.map V.int) (ys := ys.map V.int) (n := min xs.length ys.length) (by rw [List.length_map, List.length_map])) (fun i H1 => H1 D = some (.lst (((List.zipWith (· + ·) xs ys).take i).map V.int)) ∧ Fr [] H' H1) ⟨upd_same, Fr.new hD⟩ (fun i H1 _ h => ⟨SqL.of (h.2.at ea (by simp)), SqL.of (h.2.at eq (by simp))⟩) ?_ ?_
      · rintro i z H1 H2 hi ⟨e1, f1⟩ ⟨T0, y1, y2, rfl, hT, rfl, hy1, hy2⟩
        have hy1' : (xs.map V.int)[i]? = some y1 := hy1
        have hy2' : (ys.map V.int)[i]? = some y2 := hy2
        obtain ⟨i1, rfl⟩ := map_get hy1'
        obtain ⟨i2, rfl⟩ := map_get hy2'
        have f2 : Fr [] H1 (upd H1 T0 (.tup [.int xs[i], .int ys[i]])) := Fr.new hT
        have e2 := f2.at e1 (by simp)
        refine ⟨T0, _, rfl, SqT.of upd_same, rfl, ?_⟩
        refine ⟨_, _, rfl, ?_⟩
        refine rd_name ?_
        refine ⟨_, _, rfl, ?_⟩
        refine rd_name ?_
        refine ⟨rfl, ?_⟩
        refine ⟨rfl, ?_⟩
        walk_at "go"
        have hz : i < (List.zipWith (· + ·) xs ys).length := by rw [List.length_zipWith]; exact hi
        refine ⟨_, e2, ?_, ?_, (f1.tr f2).putN (.inr hD) (nt e2)⟩
        · rw [List.length_map, List.length_take]; exact Nat.lt_of_le_of_lt (show _ ≤ 10000 by omega) (by decide)
        · rw [upd_same, take_snoc hz, List.map_append, getElem!_pos _ i hz, List.getElem_zipWith]; rfl
      · rintro H1 ⟨e1, f1⟩
        rw [List.take_of_length_le (by rw [List.length_zipWith]; exact Nat.le_refl _)] at e1
        exact kk H1 D e1 (.inr (f.free (by simp) hD)) (f.tr f1)
    | thn o =>
      obtain ⟨pi, ex, hpi⟩ := hg
      repeat walk_at "pc"
      walk_at "go"
      refine ⟨pi, o, rfl, hpi, gok, grow, gnm, fun ys ey H' q eq hq f => ?_, fun en H' f => k2 (by show o.row.map _ = none; rw [en]; rfl) H' f⟩
      have ea := f.at e (by simp)
      refine ⟨a, q, _, _, rfl, rfl, ea, eq, ?_, fun p hp => ?_⟩
      · rw [List.length_map, List.length_map]
        have := Ch.row_len ey gok
        exact Nat.le_trans (show xs.length + ys.length ≤ 20000 by omega) (by decide)
      · refine k1 (xs ++ ys) (by show o.row.map _ = _; rw [ey]; rfl) _ p (by rw [upd_same, List.map_append]) (.inr (f.free (by simp) hp)) (f.newN hp)
end
end Dc

set_option Elab.async false
set_option linter.all false
set_option maxRecDepth 100000
set_option maxHeartbeats 2000000
namespace Dc
open PySem PySem.Spec PyProof.Rows L2
local macro_rules | `(tactic| walk_at "ne") => `(tactic| first | assumption | (refine Ne.symm ?_; assumption) | exact ne_of (by assumption) (by assumption) (by intro q; cases q) | exact ne_of_none (by assumption) (by assumption) | exact Ne.symm (ne_of_none (by assumption) (by assumption)))
local macro_rules | `(tactic| walk_at "hp") => `(tactic| first | assumption | exact upd_same | (refine upd_keep ?_ (by assumption); walk_at "hp") | (refine upd_other ?_ ?_; · walk_at "ne"; · walk_at "hp"))
local macro_rules | `(tactic| walk_at "hl") => `(tactic| first | assumption | exact SqL.of (by walk_at "hp"))
local macro_rules | `(tactic| walk_at "ht") => `(tactic| first | assumption | exact SqT.of (by walk_at "hp"))
local macro_rules | `(tactic| walk_at "rd1") => `(tactic| first
  | ((with_reducible apply rd_var); exact rfl)
  | ((with_reducible apply rd_eq); exact rfl) | ((with_reducible apply rd_ne); exact rfl)
  | with_reducible first
  | refine iteT ?_ | refine iteF ?_ | refine rd_nF ?_ | refine rd_nT ?_ | refine rd_yes ?_ | refine rd_c ?_ | refine rd_op ?_ | refine rd_un ?_ | refine rd_test ?_ | refine rd_B ?_ | refine rd_bl ?_ | refine rd_seq ?_ | refine rd_next ?_ | refine rd_ifs ?_ | refine rd_asg ?_ | refine rd_name ?_ | refine rd_ret ?_ | refine rd_drop ?_
  | refine rd_call ?_ | refine rd_cons ?_ | refine rd_nil ?_ | refine rd_cb ?_ | refine rd_I0 ?_ | refine rd_U ?_ | refine rd_gsub ?_ | refine rd_lst ?_ | refine rd_tup ?_ | refine rd_if ?_ | refine rd_not ?_ | refine rd_rng1 ?_ | refine rd_itup ?_ | refine rd_ilst ?_ | refine rd_bm ?_ | refine rd_bm0 ?_ | refine rd_andV ?_ | refine rd_orV ?_ | refine rd_notV ?_)
local macro_rules | `(tactic| walk_at "rd") => `(tactic| repeat walk_at "rd1")
local macro_rules | `(tactic| walk_at "ci") => `(tactic| first | assumption | (show (0 : Int) < _; first | decide | omega) | exact ⟨by decide, by decide⟩ | exact Or.inr ⟨by decide, by decide⟩ | exact Or.inl ⟨by decide, by decide⟩ | exact ⟨by decide, by decide, by decide⟩ | exact Or.inl ⟨by omega, by omega⟩ | exact Or.inr ⟨by omega, by omega⟩)
local macro_rules | `(tactic| walk_at "ix") => `(tactic| first
  | ((with_reducible apply rd_ixL); (walk_at "hl"); exact rfl)
  | ((with_reducible apply rd_ixT); (walk_at "ht"); exact rfl)
  | ((with_reducible apply rd_lenL); (walk_at "hl"))
  | ((with_reducible apply rd_lenT); (walk_at "ht"))
  | ((with_reducible apply rd_tupOf); (walk_at "hl"))
  | ((with_reducible apply rd_listOf); (walk_at "hl"))
  | (with_reducible refine rd_min2 ?_)
  | ((with_reducible apply rd_I); (walk_at "ci"))
  | ((with_reducible apply rd_setL); (walk_at "hp"); exact rfl))
local macro_rules | `(tactic| walk_at "gs") => `(tactic| repeat first | walk_at "rd1" | walk_at "ix")
local macro_rules | `(tactic| walk_at "go") => `(tactic| repeat first | walk_at "rd1" | walk_at "ix" | with_reducible refine rd_and ?_ | with_reducible refine rd_or ?_)
local macro_rules | `(tactic| walk_at "fo") => `(tactic| (with_reducible refine rd_for ?_))
local macro_rules | `(tactic| walk_at "pm") => `(tactic| repeat first
  | with_reducible first | refine rd_pcons ?_ | refine rd_pstr ?_ | refine rd_pcap ?_ | refine rd_pwild ?_ | refine rd_pnil ?_ | refine rd_por ?_ | refine rd_pno ?_
  | ((with_reducible refine rd_eq rfl ?_); refine ⟨_, rfl, ?_⟩; first | refine rd_T rfl ?_ | refine rd_F (by decide) ?_)
  | dsimp only [List.nil_append, List.singleton_append, List.cons_append, setAll])
local macro_rules | `(tactic| walk_at "pc") => `(tactic| (refine rd_case ?_); (first | (refine rd_phit (SqT.of (by assumption)) rfl ?_) | (refine rd_pmiss (SqT.of (by assumption)) (by simp) ?_)); (walk_at "pm"))

theorem rd_nFW {c A B : Prop} [Decidable c] (h : c) (h2 : B) : if (!decide c) = true then A else B := by rw [if_neg (by rw [decide_eq_true h]; decide)]; exact h2
structure NwF (K : PySem.W.Frag) (mg : Str → Option Value) (nw : Addr) : Prop where
  ex : PySem.W.excIn K nw [Value.type "ValueError", Value.type "Exception", Value.type "BaseException", Value.type "object"] "ValueError.__new__" = true
  g : mg "NoWhole" = some (.ref nw)
  kp : PySem.W.keepIn K (.ref nw) = true
  sub : PySem.W.subIn K (.ref nw) (.type "BaseException") = some true
  ty : PySem.W.typeIn K (.ref nw) = some (.type "type")
theorem Ch.rows_sgs : ∀ {c : Ch}, c.rows → c.root.isRow ∧ ∀ g ∈ c.sgs, g.rows
  | .mkr m, h => ⟨h, fun g hg => by cases hg⟩
  | .st c k, h => ⟨(Ch.rows_sgs (c := c) h).1, fun g hg => by
    rcases List.mem_append.mp (show g ∈ c.sgs ++ [.one k] from hg) with q | q
    · exact (Ch.rows_sgs (c := c) h).2 g q
    · rw [List.mem_singleton.mp q]; trivial⟩
  | .both c o, h => ⟨(Ch.rows_sgs (c := c) h.1).1, fun g hg => by
    rcases List.mem_append.mp (show g ∈ c.sgs ++ [.both o] from hg) with q | q
    · exact (Ch.rows_sgs (c := c) h.1).2 g q
    · rw [List.mem_singleton.mp q]; exact h.2⟩
  | .thn c o, h => ⟨(Ch.rows_sgs (c := c) h.1).1, fun g hg => by
    rcases List.mem_append.mp (show g ∈ c.sgs ++ [.thn o] from hg) with q | q
    · exact (Ch.rows_sgs (c := c) h.1).2 g q
    · rw [List.mem_singleton.mp q]; exact h.2⟩
/-- a chain's inner chains have fewer makers -/
theorem Ch.sgs_nm : ∀ {c : Ch}, ∀ g ∈ c.sgs, g.nm + 1 ≤ c.nm
  | .mkr m, g, hg => by cases hg
  | .st c k, g, hg => by
    rcases List.mem_append.mp (show g ∈ c.sgs ++ [.one k] from hg) with q | q
    · exact Ch.sgs_nm (c := c) g q
    · rw [List.mem_singleton.mp q]; exact c.nm_pos
  | .both c o, g, hg => by
    have := c.nm_pos
    rcases List.mem_append.mp (show g ∈ c.sgs ++ [.both o] from hg) with q | q
    · have := Ch.sgs_nm (c := c) g q; show g.nm + 1 ≤ c.nm + o.nm; omega
    · rw [List.mem_singleton.mp q]; show o.nm + 1 ≤ c.nm + o.nm; omega
  | .thn c o, g, hg => by
    have := c.nm_pos
    rcases List.mem_append.mp (show g ∈ c.sgs ++ [.thn o] from hg) with q | q
    · have := Ch.sgs_nm (c := c) g q; show g.nm + 1 ≤ c.nm + o.nm; omega
    · rw [List.mem_singleton.mp q]; show o.nm + 1 ≤ c.nm + o.nm; omega
theorem of_split (m : Mkr) (l : List Sg) (k : Nat) : (l.drop k).foldl Ch.snoc (Ch.of m (l.take k)) = Ch.of m l := by
  unfold Ch.of
  rw [← List.foldl_append, List.take_append_drop]
/-- none stays none -/
theorem row_none : ∀ (l : List Sg) (c : Ch), c.row = none → (l.foldl Ch.snoc c).row = none
  | [], _, h => h
  | g :: l, c, h => row_none l (c.snoc g) (by rw [row_snoc, h]; rfl)
section
variable {P : Program} {w : World} {K : PySem.W.Frag} {mg : Str → Option Value} {base : Heap} {f : Addr} {fd : FuncData} {nw : Addr}
theorem sc_whole_row : FnScope ["chain", "numbers", "stage"] ["chain"] (defScope s_whole_row) := ⟨rfl, rfl, rfl, by decide +kernel, rfl, by decide +kernel, by decide +kernel⟩
theorem ok_whole_row {n j : Nat} (T : Txt K mg) (L : NwF K mg nw) (F : FnP K "whole_row" "whole_row" s_whole_row f fd)
    (G_row_behind : Cal P w K mg base (L2.CX P w) j "row_behind" ["numbers", "stage"] (spBehindR nw n)) : FnOk P w K mg base (L2.CX P w) (j + 1) f fd ["chain"] (spWholeRow nw (n + 1)) := by
  refine okX F sc_whole_row (fun vs H Q E h => ?_) (fun cdv A outer s H vs Q E hr h px tk po => ?_)
  · obtain ⟨p, c, rfl, _⟩ := h
    rfl
  · obtain ⟨p, c, rfl, ⟨mk, ss, as, ep, ess, hst⟩, cok, crow, cnm, k1, k2⟩ := h
    have hg := hst.get
    have ho := Ch.ok_sgs cok
    have hr' := Ch.rows_sgs crow
    have hn := Ch.sgs_nm (c := c)
    obtain ⟨ns, hrt⟩ : ∃ ns, c.root = .row ns := by
      have := hr'.1
      cases h : c.root with
      | row ns => exact ⟨ns, rfl⟩
      | count b s => rw [h] at this; exact this.elim
    have hm := hst.root
    rw [hrt] at hm
    obtain ⟨t, em, et⟩ := hm
    refine ⟨_, (pss_cons (ps_set (i := 1) sc_whole_row.nd rfl (Or.inl rfl) (pe_callTy (call_listOfK K) (by rfl) T.free_list (by decide +kernel) (pa_cons (pe_ix (ix_tupK K) (pe_ix (ix_tupK K) (pv 0) pe_int (fun _ _ => rfl)) pe_int (fun _ _ => rfl)) pa_nil)))
  (pss_cons (ps_for po rfl (pi_tup (pe_ix (ix_tupK K) (pv 0) pe_int (fun _ _ => rfl))) (pg_name (i := 2) sc_whole_row.nd rfl (Or.inl rfl))
    (pss_cons (ps_set (i := 1) sc_whole_row.nd rfl (Or.inl rfl) (pe_cal G_row_behind (hr.mono (by omega)) px (pa_cons (pv 1) (pa_cons (pv 2) pa_nil))))
    (pss_one (ps_if (pt_cmpR op_gt (pe_callB (call_len1K K) (by rfl) T.free_len (by decide +kernel) (pa_cons (pv 1) pa_nil)) (pe_cint T.c_WHOLE_AT_MOST) (nomark _))
      (pss_one (ps_raise rfl tk (pmk_own PySem.F.excBase_ValueError L.ex L.g L.kp (raises_own L.sub L.ty) (by rfl)))) pss_nil))))
  (pss_one (ps_ret (pv 1))))), ?_⟩
    try dsimp only [cxOf, Cx.nox, Cx.wish]
    refine rd_at (σ' := [some (.ref p), none, none]) rfl ?_
    walk_at "go"
    refine ⟨t, _, rfl, .inr (SqT.of et), fun l hl => ?_⟩
    have ns100 : ns.length ≤ 100 := by have := ho.1; rw [hrt] at this; exact this.1
    have e0 : upd H l (.lst (ns.map V.int)) l = some (.lst (ns.map V.int)) := upd_same
    have f0 : Fr [] H (upd H l (.lst (ns.map V.int))) := Fr.new hl
    generalize upd H l (.lst (ns.map V.int)) = H0 at *
    walk_at "go"
    walk_at "fo"
    refine ⟨_, rfl, ?_⟩
    walk_at "go"
    refine rd_ixT (SqT.of (f0.tp ep)) rfl ?_
    refine ⟨ss, rfl, ⟨_, SqT.of (f0.tp ess)⟩, ?_⟩
    have dead : ∀ i, (Ch.of c.root (c.sgs.take i)).row = none → ∀ H', Fr [] H H' → E (.ref nw) none H' := fun i h H' f => k2 (by
      rw [← Ch.of_sgs c, ← of_split c.root c.sgs i]
      exact row_none _ _ h) H' f
    refine for_it (walk_tup (K := K) (a := ss) (xs := as.map V.ref)) (fun i σ H1 => ∃ (l : Addr) (v2 : Option V) (xs : List Int), σ = [some (.ref p), some (.ref l), v2] ∧ (Ch.of c.root (c.sgs.take i)).row = some xs ∧ H1 l = some (.lst (xs.map V.int)) ∧ H l = none ∧ xs.length ≤ 10000 ∧ Fr [] H H1) ⟨l, _, ns, rfl, by show (Ch.mkr c.root).row = _; rw [hrt]; rfl, e0, hl, by omega, f0⟩ (fun i σ H1 _ ⟨_, _, _, _, _, _, _, _, f⟩ => SqT.of (f.tp ess)) ?_ ?_
    · clear e0 f0 hl H0 l
      rintro i z σ H1 H2 hi ⟨l, v2, xs, rfl, hrow, el, hl, hx, f1⟩ ⟨rfl, hz⟩
      rw [List.length_map] at hi
      rw [List.getElem?_map, List.getElem?_eq_getElem hi] at hz
      cases hz
      obtain ⟨g, eg, sg⟩ := hg.2 i as[i] (List.getElem?_eq_getElem hi)
      have hgm : g ∈ c.sgs := List.mem_of_getElem? eg
      have stp : (Ch.of c.root (c.sgs.take (i + 1))).row = (g.row xs).bind cap := by rw [Ch.of_take c.root eg, row_snoc, hrow]; rfl
      walk_at "go"
      refine ⟨l, as[i], xs, g, rfl, el, hx, sg.fr f1, ho.2 g hgm, hr'.2 g hgm, by have := hn g hgm; omega, fun ys ey H3 q eq hq f3 => ?_, fun en H3 f3 => dead (i + 1) (by rw [stp, en]; rfl) H3 (f1.tr f3)⟩
      rw [ey] at stp
      have hq0 : H q = none := by
        rcases hq with rfl | hq
        · exact hl
        · exact f1.free (by simp) hq
      walk_at "go"
      rw [List.length_map]
      refine rd_dec (fun c1 => ?_) (fun c1 => ?_)
      · exact dead (i + 1) (by rw [stp]; show cap ys = none; unfold cap; rw [if_neg (by omega)]) H3 (f1.tr f3)
      · walk_at "go"
        have hy : ys.length ≤ 10000 := by omega
        exact ⟨q, _, ys, rfl, by rw [stp]; show cap ys = _; unfold cap; rw [if_pos hy], eq, hq0, hy, f1.tr f3⟩
    · rintro σ H1 ⟨l, v2, xs, rfl, hrow, el, hl, hx, f1⟩
      rw [List.length_map, hg.1, List.take_length, Ch.of_sgs] at hrow
      walk_at "go"
      exact k1 xs hrow H1 l el hl f1
def spWithin (n : Nat) : Sp := fun vs H Q _ => ∃ (p : Addr) (c : Ch), vs = [.ref p] ∧ ChAt H p c ∧ c.nm ≤ n ∧ c.ok ∧ ∀ H' q (ms : List Addr), H' q = some (.lst (ms.map V.ref)) → ms.length ≤ c.nm → (∀ a ∈ ms, ∃ m, MkAt H' a m ∧ (c.rows → m.isRow)) → H q = none → Fr [] H H' → Q (.ref q) H'
def spWhole (nw : Addr) : Sp := fun vs H Q E => ∃ (p : Addr) (c : Ch), vs = [.ref p] ∧ ChAt H p c ∧ c.ok ∧ c.rows ∧ c.nm ≤ 4 ∧ c.ns ≤ 12 ∧
  (∀ xs, c.row = some xs → ∀ H' q, H' q = some (.lst (xs.map V.int)) → H q = none → Fr [] H H' → Q (.ref q) H') ∧ (c.row = none → ∀ H', Fr [] H H' → E (.ref nw) none H')
theorem sc_makers_within : FnScope ["chain", "found", "stage"] ["chain"] (defScope s_makers_within) := ⟨rfl, rfl, rfl, by decide +kernel, rfl, by decide +kernel, by decide +kernel⟩
theorem ok_makers_within {n : Nat} (hn1 : n ≤ 1000) (T : Txt K mg) (F : FnP K "makers_within" "makers_within" s_makers_within f fd) (G_has_chain : Cal P w K mg base CX0 1 "has_chain" ["stage"] spHasChain)
    (G_makers_within : Cal P w K mg base CX0 (n + 1) "makers_within" ["chain"] (spWithin n)) : FnOk P w K mg base CX0 (n + 2) f fd ["chain"] (spWithin (n + 1)) := by
  refine ok0 F sc_makers_within (fun vs H Q E h => ?_) (fun cdv A outer s H vs Q E hr h => ?_)
  · obtain ⟨p, c, rfl, _⟩ := h
    rfl
  · obtain ⟨p, c, rfl, ⟨mk, ss, as, ep, ess, hst⟩, cnm, cok, k⟩ := h
    have hg := hst.get
    have ho := Ch.ok_sgs cok
    have hn := Ch.sgs_nm (c := c)
    refine ⟨_, (pss_cons (ps_set (i := 1) sc_makers_within.nd rfl (Or.inl rfl) (pe_lst (pa_cons (pe_ix (ix_tupK K) (pv 0) pe_int (fun _ _ => rfl)) pa_nil)))
  (pss_cons (ps_for PassesOwn.never rfl (pi_tup (pe_ix (ix_tupK K) (pv 0) pe_int (fun _ _ => rfl))) (pg_name (i := 2) sc_makers_within.nd rfl (Or.inl rfl))
    (pss_one (ps_if (pt_val (pe_cal G_has_chain (hr.mono (by omega)) pass0 (pa_cons (pv 2) pa_nil)))
      (pss_one (ps_expr (pe_bm PySem.F.plainAttrs_list PySem.F.slot_list_extend PySem.F.type_list_extend mt_extend (pv 1) (pa_cons (pe_cal G_makers_within (hr.mono (by omega)) pass0 (pa_cons (pe_ix (ix_tupK K) (pv 2) pe_int (fun _ _ => rfl)) pa_nil)) pa_nil)))) pss_nil)))
  (pss_one (ps_ret (pv 1))))), ?_⟩
    try dsimp only [cxOf, Cx.nox, Cx.wish]
    refine rd_at (σ' := [some (.ref p), none, none]) rfl ?_
    walk_at "go"
    refine ⟨by show 1 ≤ sizeLine; decide, fun l hl => ?_⟩
    have e0 : upd H l (.lst [.ref mk]) l = some (.lst ([mk].map V.ref)) := upd_same
    have f0 : Fr [] H (upd H l (.lst [.ref mk])) := Fr.new hl
    generalize upd H l (.lst [.ref mk]) = H0 at *
    walk_at "go"
    walk_at "fo"
    refine ⟨_, rfl, ?_⟩
    walk_at "go"
    refine rd_ixT (SqT.of (f0.tp ep)) rfl ?_
    refine ⟨ss, rfl, ⟨_, SqT.of (f0.tp ess)⟩, ?_⟩
    have hroot := hst.root
    refine for_it (walk_tup (K := K) (a := ss) (xs := as.map V.ref)) (fun i σ H1 => ∃ (v2 : Option V) (ms : List Addr), σ = [some (.ref p), some (.ref l), v2] ∧ H1 l = some (.lst (ms.map V.ref)) ∧ ms.length ≤ (Ch.of c.root (c.sgs.take i)).nm ∧ (∀ a ∈ ms, ∃ m, MkAt H1 a m ∧ (c.rows → m.isRow)) ∧ Fr [] H H1) ⟨_, [mk], rfl, e0, Nat.le_refl _, fun a ha => ⟨c.root, by rw [List.mem_singleton.mp ha]; exact hroot.fr f0, fun r => (Ch.rows_sgs r).1⟩, f0⟩ (fun i σ H1 _ ⟨_, _, _, _, _, _, f⟩ => SqT.of (f.tp ess)) ?_ ?_
    · clear e0 f0 H0
      rintro i z σ H1 H2 hi ⟨v2, ms, rfl, el, hlen, hms, f1⟩ ⟨rfl, hz⟩
      rw [List.length_map] at hi
      rw [List.getElem?_map, List.getElem?_eq_getElem hi] at hz
      cases hz
      obtain ⟨g, eg, sg⟩ := hg.2 i as[i] (List.getElem?_eq_getElem hi)
      have hgm : g ∈ c.sgs := List.mem_of_getElem? eg
      have stp : (Ch.of c.root (c.sgs.take (i + 1))).nm = (Ch.of c.root (c.sgs.take i)).nm + g.nm := by rw [Ch.of_take c.root eg, Ch.snoc_nm]
      have htot : (Ch.of c.root (c.sgs.take (i + 1))).nm ≤ c.nm := Ch.of_take_nm c (i + 1)
      walk_at "go"
      refine ⟨as[i], g, rfl, sg.fr f1, fun H3 f3 => ?_⟩
      have el3 := f3.at el (by simp)
      have nest : ∀ (o : Ch) (pi : Addr), g.nm = o.nm → ChAt H pi o → o.ok → (c.rows → o.rows) → (∃ nm, H as[i] = some (.tup [.str nm, .ref pi])) → tDrop (tBM K "list" rExtend (tVar 1) (tCons (tCall (spWithin n) [] E0 (tCons (tOp (rIxT K) (tVar 2) (tC (.int 1))) tNil)) tNil)) { nx := fun σ H1 => ∃ (v2 : Option V) (ms : List Addr), σ = [some (.ref p), some (.ref l), v2] ∧ H1 l = some (.lst (ms.map V.ref)) ∧ ms.length ≤ (Ch.of c.root (c.sgs.take (i + 1))).nm ∧ (∀ a ∈ ms, ∃ m, MkAt H1 a m ∧ (c.rows → m.isRow)) ∧ Fr [] H H1, rt := Q } [some (.ref p), some (.ref l), some (.ref as[i])] H3 := fun o pi enm hpi ook orow ⟨nm, ex⟩ => by
        have f13 := f1.tr f3
        have ex3 := f13.tp ex
        walk_at "go"
        refine ⟨tyl el3, ?_⟩
        walk_at "go"
        refine ⟨pi, o, rfl, hpi.fr f13, by have := hn g hgm; omega, ook, fun H4 q ms' eq hl' hm' hq f4 => ?_⟩
        have el4 := f4.at el3 (by simp)
        walk_at "go"
        refine ⟨l, q, _, _, rfl, rfl, el4, eq, ?_, ?_⟩
        · rw [List.length_map, List.length_map]
          exact Nat.le_trans (show ms.length + ms'.length ≤ 1001 by omega) (by decide)
        · walk_at "go"
          have fp : Fr [l] H4 (upd H4 l (.lst (ms.map V.ref ++ ms'.map V.ref))) := Fr.put (by simp) (nt el4)
          refine ⟨_, ms ++ ms', rfl, by rw [upd_same, List.map_append], by rw [List.length_append]; omega, fun a ha => ?_, (f13.tr f4).putN (.inr hl) (nt el4)⟩
          rcases List.mem_append.mp ha with z | z
          · obtain ⟨m, h1, h2⟩ := hms a z
            exact ⟨m, ((h1.fr f3).fr f4).fr fp, h2⟩
          · obtain ⟨m, h1, h2⟩ := hm' a z
            exact ⟨m, h1.fr fp, fun r => h2 (orow r)⟩
      cases g with
      | one kd =>
        refine ⟨false, rfl, ?_⟩
        walk_at "go"
        exact ⟨_, ms, rfl, el3, by rw [stp]; exact hlen, fun a ha => let ⟨m, h1, h2⟩ := hms a ha; ⟨m, h1.fr f3, h2⟩, f1.tr f3⟩
      | both o =>
        refine ⟨true, rfl, ?_⟩
        obtain ⟨pi, ex, hpi⟩ := sg
        exact nest o pi rfl hpi (ho.2 _ hgm) (fun r => (Ch.rows_sgs r).2 _ hgm) ⟨_, ex⟩
      | thn o =>
        refine ⟨true, rfl, ?_⟩
        obtain ⟨pi, ex, hpi⟩ := sg
        exact nest o pi rfl hpi (ho.2 _ hgm) (fun r => (Ch.rows_sgs r).2 _ hgm) ⟨_, ex⟩
    · rintro σ H1 ⟨v2, ms, rfl, el, hlen, hms, f1⟩
      rw [List.length_map, hg.1, List.take_length, Ch.of_sgs] at hlen
      walk_at "go"
      exact k H1 l ms el hlen hms hl f1
theorem sc_whole : FnScope ["chain", "maker"] ["chain"] (defScope s_whole) := ⟨rfl, rfl, rfl, by decide +kernel, rfl, by decide +kernel, by decide +kernel⟩
theorem ok_whole (T : Txt K mg) (L : NwF K mg nw) (F : FnP K "whole" "whole" s_whole f fd) (G_check_chain : Cal P w K mg base CX0 5 "check_chain" ["chain"] spCheck)
    (G_makers_within : Cal P w K mg base CX0 5 "makers_within" ["chain"] (spWithin 4)) (G_whole_row : Cal P w K mg base (L2.CX P w) 9 "whole_row" ["chain"] (spWholeRow nw 4)) :
    FnOk P w K mg base (L2.CX P w) 10 f fd ["chain"] (spWhole nw) := by
  refine okX F sc_whole (fun vs H Q E h => ?_) (fun cdv A outer s H vs Q E hr h px tk po => ?_)
  · obtain ⟨p, c, rfl, _⟩ := h
    rfl
  · obtain ⟨p, c, rfl, hc, cok, crow, cnm, cns, k1, k2⟩ := h
    refine ⟨_, (pss_cons (ps_expr (pe_cal G_check_chain (hr.mono (by omega)) pass0 (pa_cons (pv 0) pa_nil)))
  (pss_cons (ps_for po rfl (pi_list (pe_cal G_makers_within (hr.mono (by omega)) pass0 (pa_cons (pv 0) pa_nil))) (pg_name (i := 1) sc_whole.nd rfl (Or.inl rfl))
    (pss_one (ps_if (pt_cmpR op_ne (pe_ix (ix_tupK K) (pv 1) pe_int (fun _ _ => rfl)) pe_str (nomark _))
      (pss_one (ps_raise rfl tk (pmk_own PySem.F.excBase_ValueError L.ex L.g L.kp (raises_own L.sub L.ty) (by rfl)))) pss_nil)))
  (pss_one (ps_ret (pe_cal G_whole_row (hr.mono (by omega)) px (pa_cons (pv 0) pa_nil)))))), ?_⟩
    try dsimp only [cxOf, Cx.nox, Cx.wish]
    refine rd_at (σ' := [some (.ref p), none]) rfl ?_
    walk_at "go"
    refine ⟨p, c, rfl, hc, cok, cnm, cns, fun H1 f1 => ?_⟩
    walk_at "go"
    walk_at "fo"
    walk_at "go"
    refine ⟨p, c, rfl, hc.fr f1, cnm, cok, fun H2 q ms eq hms hm hq f2 => ?_⟩
    refine ⟨q, rfl, ⟨_, SqL.of eq⟩, ?_⟩
    refine for_list (K := K) (a := q) (xs := ms.map V.ref) (fun i σ H3 => ∃ v1, σ = [some (.ref p), v1] ∧ H3 = H2) ⟨_, rfl, rfl⟩ (fun i σ H3 _ ⟨_, _, e⟩ => e ▸ SqL.of eq) ?_ ?_
    · rintro i z σ H3 hz ⟨v1, rfl, rfl⟩
      obtain ⟨a, ha, rfl⟩ : ∃ a ∈ ms, z = .ref a := by
        have := List.mem_of_getElem? hz
        obtain ⟨a, h1, h2⟩ := List.mem_map.mp this
        exact ⟨a, h1, h2.symm⟩
      obtain ⟨m, em, hr'⟩ := hm a ha
      cases m with
      | count b s => exact (hr' crow).elim
      | row ns =>
        obtain ⟨r, er, _⟩ := em
        walk_at "go"
        refine rd_nFW rfl ?_
        walk_at "go"
        exact ⟨_, rfl, rfl⟩
    · rintro σ H3 ⟨v1, rfl, rfl⟩
      walk_at "go"
      exact ⟨p, c, rfl, (hc.fr f1).fr f2, cok, crow, cnm, fun xs ex H' q' e' h' f' => k1 xs ex H' q' e' ((f1.tr f2).free (by simp) h') ((f1.tr f2).tr f'), fun en H' f' => k2 en H' ((f1.tr f2).tr f')⟩
end
end Dc

set_option Elab.async false
set_option linter.all false
set_option maxRecDepth 100000
set_option maxHeartbeats 2000000
namespace Dc
open PySem PySem.Spec PyProof.Rows L2
abbrev ExtN := LamX.ExtN
theorem exTp {H H' : Hp} {b : Addr} {xs : List V} (f : ExtN H H') (h : H b = some (.tup xs)) : H' b = some (.tup xs) := f b _ h fun _ z => by cases z
theorem exLs {H H' : Hp} {b : Addr} {xs : List V} (f : ExtN H H') (h : H b = some (.lst xs)) : H' b = some (.lst xs) := f b _ h fun _ z => by cases z
theorem exFz {H H' : Hp} {b : Addr} {o : Obj} {u : HO} (f : ExtN H H') (h : H b = some (.frz o u)) : H' b = some (.frz o u) := f b _ h fun _ z => by cases z
theorem MkAt.ex {H H' : Hp} {a : Addr} {m : Mkr} (f : ExtN H H') (h : MkAt H a m) : MkAt H' a m := by
  cases m with
  | count b s => exact exTp f h
  | row ns => obtain ⟨r, h1, h2⟩ := h; exact ⟨r, exTp f h1, exTp f h2⟩
theorem StsAt.ex {H H' : Hp} (f : ExtN H H') : ∀ {c : Ch} {a : Addr} {as : List Addr}, StsAt H c a as → StsAt H' c a as
  | .mkr m, a, as, ⟨h1, h2⟩ => ⟨h1, h2.ex f⟩
  | .st c k, a, as, ⟨as', x, h1, h2, h3⟩ => ⟨as', x, h1, h2.ex f, exTp f h3⟩
  | .both c o, a, as, ⟨as', x, p, h1, h2, h3, m, ss, bs, h4, h5, h6⟩ => ⟨as', x, p, h1, h2.ex f, exTp f h3, m, ss, bs, exTp f h4, exTp f h5, h6.ex f⟩
  | .thn c o, a, as, ⟨as', x, p, h1, h2, h3, m, ss, bs, h4, h5, h6⟩ => ⟨as', x, p, h1, h2.ex f, exTp f h3, m, ss, bs, exTp f h4, exTp f h5, h6.ex f⟩
theorem ChAt.ex {H H' : Hp} {p : Addr} {c : Ch} (f : ExtN H H') (h : ChAt H p c) : ChAt H' p c := by
  obtain ⟨m, ss, bs, h1, h2, h3⟩ := h
  exact ⟨m, ss, bs, exTp f h1, exTp f h2, h3.ex f⟩
theorem ScAt.ex {K : PySem.W.Frag} {ns : List Int} {H H' : Hp} {sc : Addr} (h : ScAt K ns H sc) (f : ExtN H H') : ScAt K ns H' sc := by
  rcases h with ⟨o, h⟩ | h
  · exact .inl ⟨o, exFz f h⟩
  · exact .inr h
theorem StAt.ex {K : PySem.W.Frag} {ns : List Int} {H H' : Hp} {a sc : Addr} (s : StAt K ns H a sc) (f : ExtN H H') : StAt K ns H' a sc := by
  obtain ⟨⟨b, m, l, h1, h2⟩, h3⟩ := s
  exact ⟨⟨b, m, l, exLs f h1, h2⟩, h3.ex f⟩
/-- the tables stay where a list, an instance is changed, or none -/
theorem tabsFr {T : List (Addr × Str)} {H H' : Hp} {S : List Addr} (hS : ∀ a ∈ S, H a = none ∨ (∃ xs, H a = some (.lst xs)) ∨ ∃ C dx fs, H a = some (.ins C dx fs)) (f : Fr S H H') (t : LamX.Tabs T H) : LamX.Tabs T H' := fun p hp => by
  obtain ⟨ps, h1, h2, h3⟩ := t p hp
  have no : ∀ b o, H b = some o → (∀ xs, o ≠ .lst xs) → (∀ C dx fs, o ≠ .ins C dx fs) → H' b = some o := fun b o hb hn hn2 => f.at hb fun hz => by
    rcases hS b hz with z | ⟨xs, z⟩ | ⟨C, dx, fs, z⟩
    · rw [hb] at z; cases z
    · rw [hb] at z; exact hn xs (Option.some.inj z)
    · rw [hb] at z; exact hn2 C dx fs (Option.some.inj z)
  refine ⟨ps, no _ _ h1 (fun xs z => by cases z) (fun C dx fs z => by cases z), h2, fun pos cv hc => ?_⟩
  obtain ⟨c, e1, e2⟩ := h3 pos cv hc
  exact ⟨c, e1, no _ _ e2 (fun xs z => by unfold LamX.CodeO at z; cases z) (fun C dx fs z => by unfold LamX.CodeO at z; cases z)⟩
theorem tabsFr0 {T : List (Addr × Str)} {H H' : Hp} (f : Fr [] H H') (t : LamX.Tabs T H) : LamX.Tabs T H' := tabsFr (fun a h => by cases h) f t
theorem tabsSt {K : PySem.W.Frag} {ns : List Int} {T : List (Addr × Str)} {H H' : Hp} {a sc : Addr} (s : StAt K ns H a sc) (f : Fr [a] H H') (t : LamX.Tabs T H) : LamX.Tabs T H' := tabsFr (fun b hb => by
  obtain ⟨⟨_, _, _, h1, _⟩, _⟩ := s
  rw [List.mem_singleton.mp hb]
  exact .inr (.inl ⟨_, h1⟩)) f t
end Dc

set_option Elab.async false
set_option linter.all false
set_option maxRecDepth 100000
set_option maxHeartbeats 2000000
namespace Dc
open PySem PySem.Spec PyProof.Rows L2
/-- the law's promise; its table of code objects stands at PL -/
def spLawT (K : PySem.W.Frag) (PL : Addr) (ns : List Int) : Sp := fun vs H Q _ => ∃ (sc : Addr), vs = [.ref sc] ∧ ScAt K ns H sc ∧ H PL = some (.tbl #[]) ∧ ∀ H', Q (.bl true) H'
/-- what is found: a new list, or the word -/
def foundV (H H' : Hp) : Option (List Int) → V → Prop
  | some xs, v => ∃ q, v = .ref q ∧ H' q = some (.lst (xs.map V.int)) ∧ H q = none
  | none, v => v = .str "NoWhole"
theorem whole_kind {K : PySem.W.Frag} {J : KJ} {p : Addr} {c : Ch} {H : Hp} {Q : VK} (hK : KOne K J J.nw 2) (hc : ChAt H p c) (cok : c.ok) (crow : c.rows) (cnm : c.nm ≤ 4) (cns : c.ns ≤ 12) (h : ∀ v H', foundV H H' c.row v → Fr [] H H' → Q v H') :
    spWhole J.nw [.ref p] H Q (fun cls d H' => ∃ D i, cls = .ref D ∧ d = none ∧ KOne K J D i ∧ ∀ H'', Fr [] H' H'' → Q (.str (kword i)) H'') :=
  ⟨p, c, rfl, hc, cok, crow, cnm, cns, fun xs e H' q hq nq f => h _ _ (by rw [e]; exact ⟨q, rfl, hq, nq⟩) f, fun e H' f => ⟨J.nw, 2, rfl, rfl, hK, fun H'' f' => h _ _ (by rw [e]; rfl) (f.tr f')⟩⟩
section
variable {K : PySem.W.Frag} {ns : List Int} {a sc p : Addr} {W : Hp → Prop} {H0 H H' : Hp} {l : List (Addr × HO)}
end
end Dc

set_option Elab.async false
set_option linter.all false
set_option maxRecDepth 100000
set_option maxHeartbeats 4000000
namespace Dc
open PySem PySem.Spec PyProof.Rows L2
local macro_rules | `(tactic| walk_at "ne") => `(tactic| first | assumption | (refine Ne.symm ?_; assumption) | exact ne_of (by assumption) (by assumption) (by intro q; cases q) | exact ne_of_none (by assumption) (by assumption) | exact Ne.symm (ne_of_none (by assumption) (by assumption)))
local macro_rules | `(tactic| walk_at "hp") => `(tactic| first | assumption | exact upd_same | (refine upd_keep ?_ (by assumption); walk_at "hp") | (refine upd_other ?_ ?_; · walk_at "ne"; · walk_at "hp"))
local macro_rules | `(tactic| walk_at "hl") => `(tactic| first | assumption | exact SqL.of (by walk_at "hp"))
local macro_rules | `(tactic| walk_at "ht") => `(tactic| first | assumption | exact SqT.of (by walk_at "hp"))
local macro_rules | `(tactic| walk_at "rd1") => `(tactic| first
  | ((with_reducible apply rd_var); exact rfl)
  | ((with_reducible apply rd_eq); exact rfl) | ((with_reducible apply rd_ne); exact rfl)
  | with_reducible first
  | refine iteT ?_ | refine iteF ?_ | refine rd_nF ?_ | refine rd_nT ?_ | refine rd_yes ?_ | refine rd_c ?_ | refine rd_op ?_ | refine rd_un ?_ | refine rd_test ?_ | refine rd_B ?_ | refine rd_bl ?_ | refine rd_seq ?_ | refine rd_next ?_ | refine rd_ifs ?_ | refine rd_asg ?_ | refine rd_name ?_ | refine rd_ret ?_ | refine rd_drop ?_
  | refine rd_call ?_ | refine rd_cons ?_ | refine rd_nil ?_ | refine rd_cb ?_ | refine rd_I0 ?_ | refine rd_U ?_ | refine rd_gsub ?_ | refine rd_lstB ?_ | refine rd_tupB ?_ | refine rd_sl ?_ | refine rd_np ?_ | refine rd_part ?_ | refine rd_in ?_ | refine rd_lc ?_ | refine rd_izip ?_ | refine rd_parB ?_ | refine rd_if ?_ | refine rd_not ?_ | refine rd_rng1 ?_ | refine rd_itup ?_ | refine rd_ilst ?_ | refine rd_bm ?_ | refine rd_bm0 ?_ | refine rd_andV ?_ | refine rd_orV ?_ | refine rd_notV ?_)
local macro_rules | `(tactic| walk_at "rd") => `(tactic| repeat walk_at "rd1")
local macro_rules | `(tactic| walk_at "ci") => `(tactic| first | assumption | (show (0 : Int) < _; first | decide | omega) | exact ⟨by decide, by decide⟩ | exact Or.inr ⟨by decide, by decide⟩ | exact Or.inl ⟨by decide, by decide⟩ | exact ⟨by decide, by decide, by decide⟩ | exact Or.inl ⟨by omega, by omega⟩ | exact Or.inr ⟨by omega, by omega⟩)
local macro_rules | `(tactic| walk_at "ix") => `(tactic| first
  | ((with_reducible apply rd_ixL); (walk_at "hl"); exact rfl)
  | ((with_reducible apply rd_ixT); (walk_at "ht"); exact rfl)
  | ((with_reducible apply rd_lenL); (walk_at "hl"))
  | ((with_reducible apply rd_lenT); (walk_at "ht"))
  | ((with_reducible apply rd_tupOf); (walk_at "hl"))
  | ((with_reducible apply rd_listOf); (walk_at "hl"))
  | (with_reducible refine rd_min2 ?_)
  | ((with_reducible apply rd_I); (walk_at "ci"))
  | ((with_reducible apply rd_setL); (walk_at "hp"); exact rfl))
local macro_rules | `(tactic| walk_at "gs") => `(tactic| repeat first | walk_at "rd1" | walk_at "ix")
local macro_rules | `(tactic| walk_at "go") => `(tactic| repeat first | walk_at "rd1" | walk_at "ix" | with_reducible refine rd_and ?_ | with_reducible refine rd_or ?_)
local macro_rules | `(tactic| walk_at "fo") => `(tactic| (with_reducible refine rd_for ?_))
local macro_rules | `(tactic| walk_at "pm") => `(tactic| repeat first
  | with_reducible first | refine rd_pcons ?_ | refine rd_pstr ?_ | refine rd_pcap ?_ | refine rd_pwild ?_ | refine rd_pnil ?_ | refine rd_por ?_ | refine rd_pno ?_
  | ((with_reducible refine rd_eq rfl ?_); refine ⟨_, rfl, ?_⟩; first | refine rd_T rfl ?_ | refine rd_F (by decide) ?_)
  | dsimp only [List.nil_append, List.singleton_append, List.cons_append, setAll])
local macro_rules | `(tactic| walk_at "pc") => `(tactic| (refine rd_case ?_); (first | (refine rd_phit (SqT.of (by assumption)) rfl ?_) | (refine rd_pmiss (SqT.of (by assumption)) (by simp) ?_)); (walk_at "pm"))
local macro_rules | `(tactic| walk_at "gd") => `(tactic| ((try dsimp only [gName, List.set]); walk_at "go"))

theorem room1 {k : Nat} {A : Around} (r : Room k A) : A.units + 1 < cLine := by have := r.un; omega
theorem isi5_sl : kitB "str" "list" = some false := by decide +kernel
theorem isi5_ll : kitB "list" "list" = some true := by decide +kernel
theorem rows_mks : ∀ {c : Ch}, c.rows → ∀ m ∈ c.mks, m.isRow
  | .mkr m, h, x, hx => by rw [List.mem_singleton.mp hx]; exact h
  | .st c _, h, x, hx => rows_mks (c := c) h x hx
  | .both c o, h, x, hx => (List.mem_append.mp (show x ∈ c.mks ++ o.mks from hx)).elim (rows_mks h.1 x) (rows_mks h.2 x)
  | .thn c o, h, x, hx => (List.mem_append.mp (show x ∈ c.mks ++ o.mks from hx)).elim (rows_mks h.1 x) (rows_mks h.2 x)
def RwR (c : Ch) (H : Hp) (rs : List Addr) : Prop := ∀ (j : Nat) (rr : Addr), rs[j]? = some rr → ∃ ns, c.mks[j]? = some (.row ns) ∧ H rr = some (.tup (ns.map V.int))
theorem RwR.fr {S : List Addr} {c : Ch} {H H' : Hp} {rs : List Addr} (f : Fr S H H') (h : RwR c H rs) : RwR c H' rs := fun j rr e => let ⟨ns, h1, h2⟩ := h j rr e; ⟨ns, h1, f.tp h2⟩
theorem vals_word {r : Rs} (hr : ∀ v, r ≠ .num v) : r.vals = [V.str r.word] := by
  cases r with
  | num v => exact absurd rfl (hr v)
  | fin => rfl
  | long => rfl
section
variable {P : Program} {w : World} {K : PySem.W.Frag} {mg : Str → Option Value} {base : Heap} {J : Cls'} {Z : KJ}
theorem sc_law : FnScope ["_law_script", "_law_state", "_law_turn", "_law_chain_here", "_law_row", "_law_told", "_law_word", "_law_drawn_here", "_law_rows", "_law_maker_here", "_law_k", "_law_drawer", "_law_number_here", "_law_lost"] ["_law_script"] (defScope s_law) := ⟨rfl, rfl, rfl, by decide +kernel, rfl, by decide +kernel, by decide +kernel⟩
theorem ok_law (T : Txt K mg) (BK : KB mg Z) {f : Addr} {fd : FuncData} {ns : List Int} {c PL : Addr} (F : FnP K "law" "law" s_law f fd) (hK : KOne K Z Z.nw 2) (hcode : fd.code = .ref c) (TB : LamX.TabB base mg c PL)
    (IK : ∃ f fd, FnP K "_law_kind" "_law_kind" s__law_kind f fd ∧ mg "_law_kind" = some (.ref f))
    (G__law_start : Cal P w K mg base CX0 1 "_law_start" ["_law_script"] (spStart K ns))
    (G__law_any : Cal P w K mg base CX0 11 "_law_any" ["_law_state", "_law_rows"] (spAny K ns))
    (G__law_drawn : Cal P w K mg base CX0 1 "_law_drawn" ["_law_state", "_law_many"] (spDrawn K ns))
    (G__law_makers : Cal P w K mg base CX0 5 "_law_makers" ["_law_chain_here"] (spMakers 4))
    (G_first : Cal P w K mg base CX0 28 "first" ["chain", "many"] spFirst)
    (G_whole : Cal P w K mg base (L2.CX P w) 10 "whole" ["chain"] (spWhole Z.nw))
    (I_Drawer : CalI P w K mg base CX0 14 "Drawer" J.drawer ["self", "chain"] (spDInit J))
    (G_next : CalM P w K mg base CX0 27 J.drawer "next" ["self"] (spNext J 12))
    (G_drawn : CalM P w K mg base CX0 1 J.drawer "drawn" ["self"] (spDrawnP J))
    (G_undone : CalM P w K mg base CX0 1 J.drawer "undone" ["self"] (spUndoneP J))
    (G_put : CalM P w K mg base CX0 1 J.drawer "put_back" ["self", "number"] (spPut J)) :
    FnOk P w K mg base CX0 56 f fd ["_law_script"] (spLawT K PL ns) := by
  refine ok0C F sc_law (fun vs H Q E h => ?_) (fun A outer s H vs Q E hr h => ?_)
  · obtain ⟨sc, rfl, _⟩ := h
    rfl
  · obtain ⟨sc, rfl, hS, hPL, k⟩ := h
    have hu := room1 hr
    have hu64 := hr.units
    refine ⟨_, (pss_cons (ps_set (i := 1) sc_law.nd rfl (Or.inl rfl) (pe_cal G__law_start (hr.mono (by omega)) pass0 (pa_cons (pv 0) pa_nil)))
  (pss_cons (ps_for PassesOwn.never rfl (pi_range1 (by rfl) T.free_range (pa_cons pe_int pa_nil)) (pg_name (i := 2) sc_law.nd rfl (Or.inl rfl))
    (pss_cons (ps_set (i := 3) sc_law.nd rfl (Or.inr rfl) (pe_cal G__law_any (hr.mono (by omega)) pass0 (pa_cons (pv 1) (pa_cons pe_bl pa_nil))))
    (pss_cons (ps_set (i := 4) sc_law.nd rfl (Or.inl rfl) (pe_kind (k := 10) IK T BK TB (by exact hcode) (List.mem_singleton.mpr rfl) (fun p hp _ => by rw [List.mem_singleton.mp hp]) (hr.mono (by omega)) (show LamX.LamS (defScope s_law) _ from LamX.lamS_by (by decide +kernel)) rfl (fun _ _ _ _ _ => rfl) (fun A outer s H E f c' hr => (pe_cal G_whole (hr.mono (by omega)) (passes_call (takes_of rfl rfl rfl rfl) fun _ _ _ _ h => h) (pa_cons (pv 3) pa_nil)))))
    (pss_one (ps_if (PW.pt (pw_and (pt_val (pe_callB (call_isiK1 K) (by rfl) T.free_isinstance (by decide +kernel) (pa_cons (pv 4) (pa_cons (pe_bltn (v := .ty "list") (u := .type "list") (by rfl) T.free_list (by decide +kernel) rfl) pa_nil)))) (pw_and1 (pt_cmpR op_lt (pe_callB (call_len1K K) (by rfl) T.free_len (by decide +kernel) (pa_cons (pv 4) pa_nil)) pe_int (nomark _)))))
      (pss_cons (ps_asg (pe_cal G_first (hr.mono (by omega)) pass0 (pa_cons (pv 3) (pa_cons (pe_op op_add (pe_callB (call_len1K K) (by rfl) T.free_len (by decide +kernel) (pa_cons (pv 4) pa_nil)) pe_int) pa_nil))) (pg_tup (by rfl) (pgs_cons (pg_name (i := 5) sc_law.nd rfl (Or.inl rfl)) (pgs_cons (pg_name (i := 6) sc_law.nd rfl (Or.inl rfl)) (pgs_cons (pg_name (i := 7) sc_law.nd rfl (Or.inr rfl)) pgs_nil)))))
      (pss_cons (ps_if (PW.pt (pw_or (pt_cmpR op_eq (pv 6) pe_str (nomark _)) (pw_or (pt_cmpR (op_neDK K hu64) (pv 5) (pe_slice sl_list (pv 4) po_none (po_some (pe_callB (call_len1K K) (by rfl) T.free_len (by decide +kernel) (pa_cons (pv 5) pa_nil)))) (nomark _)) (pw_or1 (PW.pt (pw_and (pt_cmpR op_eq (pv 6) pe_str (nomark _)) (pw_and1 (pt_cmpR op_ne (pe_callB (call_len1K K) (by rfl) T.free_len (by decide +kernel) (pa_cons (pv 5) pa_nil)) (pe_callB (call_len1K K) (by rfl) T.free_len (by decide +kernel) (pa_cons (pv 4) pa_nil)) (nomark _)))))))))
        (pss_one (ps_ret pe_bl)) pss_nil)
      (pss_cons (ps_set (i := 8) sc_law.nd rfl (Or.inr rfl) (pe_lc (own := [("_law_maker_here", 9)]) (g := gName 9) rfl sc_law.nd (pi_list (pe_cal G__law_makers (hr.mono (by omega)) pass0 (pa_cons (pv 3) pa_nil))) (blkOk_by (N := ["_law_script", "_law_state", "_law_turn", "_law_chain_here", "_law_row", "_law_told", "_law_word", "_law_drawn_here", "_law_rows", "_law_maker_here", "_law_k", "_law_drawer", "_law_number_here", "_law_lost"]) (sc := defScope s_law) (by decide +kernel)) (fun _ _ _ _ _ => pg_name (i := 9) sc_law.nd rfl (Or.inl rfl)) (fun _ _ _ _ _ => pts_nil) (fun _ _ _ _ _ => (pe_ix (ix_tupK K) (pv 9) pe_int (fun _ _ => rfl)))))
      (pss_cons (ps_if (pt_cmpR (op_neDK K hu64) (pe_lc (own := [("_law_k", 10)]) (g := gName 10) rfl sc_law.nd (pi_range1 (by rfl) T.free_range (pa_cons (pe_callB (call_len1K K) (by rfl) T.free_len (by decide +kernel) (pa_cons (pv 8) pa_nil)) pa_nil)) (blkOk_by (N := ["_law_script", "_law_state", "_law_turn", "_law_chain_here", "_law_row", "_law_told", "_law_word", "_law_drawn_here", "_law_rows", "_law_maker_here", "_law_k", "_law_drawer", "_law_number_here", "_law_lost"]) (sc := defScope s_law) (by decide +kernel)) (fun _ _ _ _ _ => pg_name (i := 10) sc_law.nd rfl (Or.inl rfl)) (fun _ _ _ _ _ => pts_one (pt_not (pt_chain op_le op_le pe_int (pe_ix (ix_listK K) (pv 7) (pv 10) (fun _ _ => rfl)) (pe_callB (call_len1K K) (by rfl) T.free_len (by decide +kernel) (pa_cons (pe_ix (ix_listK K) (pv 8) (pv 10) (fun _ _ => rfl)) pa_nil))))) (fun _ _ _ _ _ => (pv 10))) (pe_lst pa_nil) (nomark _))
        (pss_one (ps_ret pe_bl)) pss_nil)
      (pss_cons (ps_set (i := 11) sc_law.nd rfl (Or.inl rfl) (pe_mk I_Drawer (hr.mono (by omega)) pass0 (pa_cons (pv 3) pa_nil)))
      (pss_cons (ps_for PassesOwn.never rfl (pi_list (pv 5)) (pg_name (i := 12) sc_law.nd rfl (Or.inl rfl))
        (pss_one (ps_if (pt_cmpR (op_neDK K hu64) (pe_cm0 (pv 11) G_next (hr.mono (by omega)) pass0) (pe_tup (pa_cons pe_str (pa_cons (pv 12) pa_nil))) (nomark _))
          (pss_one (ps_ret pe_bl)) pss_nil)))
      (pss_cons (ps_if (PW.pt (pw_or (pt_cmpR (op_neDK K hu64) (pe_lst (pa_cons (pe_cm0 (pv 11) G_next (hr.mono (by omega)) pass0) (pa_cons (pe_cm0 (pv 11) G_next (hr.mono (by omega)) pass0) pa_nil))) (pe_lst (pa_cons (pe_tup (pa_cons (pv 6) pa_nil)) (pa_cons (pe_tup (pa_cons (pv 6) pa_nil)) pa_nil))) (nomark _)) (pw_or1 (pt_cmpR (op_neDK K hu64) (pe_cm0 (pv 11) G_drawn (hr.mono (by omega)) pass0) (pv 7) (nomark _)))))
        (pss_one (ps_ret pe_bl)) pss_nil)
      (pss_cons (ps_set (i := 13) sc_law.nd rfl (Or.inl rfl) (pe_cm0 (pv 11) G_undone (hr.mono (by omega)) pass0))
      (pss_cons (ps_expr (pe_cm (pv 11) G_put (hr.mono (by omega)) pass0 (pa_cons pe_int pa_nil)))
      (pss_one (ps_if (PW.pt (pw_or (pt_cmpR (op_neDK K hu64) (pe_lst (pa_cons (pe_cm0 (pv 11) G_next (hr.mono (by omega)) pass0) (pa_cons (pe_cm0 (pv 11) G_next (hr.mono (by omega)) pass0) pa_nil))) (pe_lst (pa_cons (pe_tup (pa_cons pe_str (pa_cons pe_int pa_nil))) (pa_cons (pe_tup (pa_cons (pv 6) pa_nil)) pa_nil))) (nomark _)) (pw_or1 (pt_cmpR (op_neDK K hu64) (pe_cm0 (pv 11) G_undone (hr.mono (by omega)) pass0) (pv 13) (nomark _)))))
        (pss_one (ps_ret pe_bl)) pss_nil))))))))))) pss_nil)))))
  (pss_one (ps_ret pe_bl)))), ?_⟩
    try dsimp only [cxOf, Cx.nox, Cx.wish]
    refine rd_at (σ' := [some (.ref sc), none, none, none, none, none, none, none, none, none, none, none, none, none]) rfl ?_
    generalize (envOfC (Str.ofString "law") (defScope s_law) s.heap.objs.size f fd.code).qual ++ Str.ofString "<lambda>" = lq
    have tab0 : LamX.Tabs [(PL, lq)] H := fun p hp => by
      rw [List.mem_singleton.mp hp]
      exact LamX.TabS.nil hPL
    walk_at "gd"
    refine ⟨sc, rfl, hS, fun sa H1 S1 n1 f1 => ?_⟩
    replace tab0 := tabsFr0 f1 tab0
    walk_at "gd"
    walk_at "fo"
    walk_at "gd"
    refine ⟨_, rfl, by decide, by decide, ?_⟩
    refine for_range (lo := 0) (n := 6) (fun i σ H2 => ∃ v2 v3 v4 v5 v6 v7 v8 v9 v10 v11 v12 v13 : Option V, σ = [some (.ref sc), some (.ref sa), v2, v3, v4, v5, v6, v7, v8, v9, v10, v11, v12, v13] ∧ StAt K ns H2 sa sc ∧ LamX.Tabs [(PL, lq)] H2) ⟨_, _, _, _, _, _, _, _, _, _, _, _, rfl, S1, tab0⟩ ?_ ?_
    · clear S1 f1 n1 H1 tab0
      rintro i0 σ H2 hi ⟨v2, v3, v4, v5, v6, v7, v8, v9, v10, v11, v12, v13, rfl, S2, t2⟩
      walk_at "gd"
      refine ⟨sa, sc, true, rfl, S2, fun p c H3 hc cok crow0 cnm cns S3 f3 => ?_⟩
      have crow := crow0 rfl
      replace t2 := tabsSt S2 f3 t2
      clear S2 f3 crow0
      walk_at "gd"
      refine ⟨t2, fun H6 e6 t6 => ?_⟩
      have S6 := S3.ex e6
      replace hc := hc.ex e6
      clear t2 e6 S3
      unfold TTk
      walk_at "gd"
      refine whole_kind hK hc cok crow cnm cns fun v H7 hv f7 => ?_
      cases hrow : c.row with
      | none =>
        rw [hrow] at hv
        obtain rfl : v = .str "NoWhole" := hv
        walk_at "gd"
        refine rd_isi (.base (.str _)) isi5_sl ?_
        walk_at "gd"
        exact ⟨_, _, _, _, _, _, _, _, _, _, _, _, rfl, S6.fr f7 (by simp), tabsFr0 f7 t6⟩
      | some xs =>
        rw [hrow] at hv
        obtain ⟨q, rfl, hq, nq⟩ := hv
        have hqa : q ≠ sa := fun z => by
          obtain ⟨⟨_, _, _, e, _⟩, _⟩ := S6
          rw [z, e] at nq
          cases nq
        have B := (Bn.start0 (W := fun H => LamX.Tabs [(PL, lq)] H ∧ ChAt H p c) (S6.fr f7 (by simp)) ⟨tabsFr0 f7 t6, hc.fr f7⟩ (fun _ _ _ hS f w => ⟨tabsFr hS f w.1, w.2.fr f⟩)).push hq hqa
        clear S6 t6 hc hq nq hqa f7
        walk_at "gd"
        refine rd_isi (.base (.lst (B.get 0))) isi5_ll ?_
        walk_at "gd"
        refine rd_lenL (SqL.of (B.get 0)) ?_
        rw [List.length_map]
        walk_at "gd"
        refine rd_dec (fun c1000 => ?_) (fun _ => ?_)
        rotate_left
        · walk_at "gd"
          exact ⟨_, _, _, _, _, _, _, _, _, _, _, _, rfl, B.st, B.w.1⟩
        obtain ⟨X, L, told, r, x1, l1, Th, E1⟩ := thru_ex cok crow cnm cns hrow
        walk_at "gd"
        refine rd_lenL (SqL.of (B.get 0)) ?_
        rw [List.length_map]
        walk_at "gd"
        refine B.first (many := xs.length + 1) B.w.2 cok cnm cns (by omega) Th.path E1 fun qf a1 b1 H8 B => ?_
        walk_at "gd"
        refine ⟨qf, _, rfl, SqT.of (B.get 0), rfl, _, _, rfl, _, _, rfl, _, _, rfl, rfl, ?_⟩
        replace B := B.sub (l' := [(a1, .lst (told.map V.int)), (b1, .lst (x1.gv.map V.int)), (q, .lst (xs.map V.int))]) (by simp)
        have hwd := Th.word
        have hne : ¬ (V.str r.word = V.str "more") := fun z => by
          rcases hwd with ⟨e, _⟩ | e <;> (rw [e] at z; exact absurd z (by decide))
        try dsimp only [gName, List.set]
        refine rd_seq ?_
        refine ifs_coreN (fun σ' H' => σ' = [some (.ref sc), some (.ref sa), some (.int (0 + (i0 : Int))), some (.ref p), some (.ref q), some (.ref a1), some (.str r.word), some (.ref b1), v8, v9, v10, v11, v12, v13] ∧ Bn K ns sa sc (fun H => LamX.Tabs [(PL, lq)] H ∧ ChAt H p c) (fun _ => none) H' [(a1, .lst (told.map V.int)), (b1, .lst (x1.gv.map V.int)), (q, .lst (xs.map V.int))]) ?_ (fun nx' hn => ?_)
        rotate_left
        · walk_at "gd"
          refine rd_F hne ?_
          walk_at "gd"
          refine rd_lenL (SqL.of (B.get 0)) ?_
          rw [List.length_map]
          walk_at "gd"
          refine B.sliceL (B.get 2) fun s1 H9 B => ?_
          rw [cutN, ← List.map_take, ← Th.tk] at B
          walk_at "gd"
          refine neD_ints (B.get 1) (B.get 0) ?_
          replace B := B.sub (l' := [(a1, .lst (told.map V.int)), (b1, .lst (x1.gv.map V.int)), (q, .lst (xs.map V.int))]) (by simp)
          walk_at "gd"
          refine rd_dec (fun ce => ?_) (fun _ => ?_)
          · have hl : told.length = xs.length := by
              rcases hwd with ⟨_, e⟩ | e
              · exact e
              · rw [e] at ce; exact absurd ce (by decide)
            walk_at "gd"
            refine rd_lenL (SqL.of (B.get 0)) ?_
            walk_at "gd"
            refine rd_lenL (SqL.of (B.get 2)) ?_
            rw [List.length_map, List.length_map, hl]
            walk_at "gd"
            rw [decide_eq_true rfl]
            walk_at "gd"
            exact hn _ _ ⟨rfl, B⟩
          · walk_at "gd"
            exact hn _ _ ⟨rfl, B⟩
        clear B
        rintro σ' H1 ⟨rfl, B⟩
        replace B := B.sub (l' := [(a1, .lst (told.map V.int)), (b1, .lst (x1.gv.map V.int))]) (by simp)
        obtain ⟨hgl, hgb⟩ := Th.gv cok cnm cns
        walk_at "gd"
        refine ⟨p, c, rfl, B.w.2, cnm, fun H2 qm ms eqm hms nqm f2 => ?_⟩
        have Bm := ((B.fr0 f2).push eqm (B.nea nqm)).add (T := fun H => MksAt H ms c.mks) hms (fun _ _ _ f h => h.fr f)
        clear B eqm hms f2 nqm
        walk_at "gd"
        refine ⟨qm, rfl, ⟨_, SqL.of (Bm.get 0)⟩, fun D1 hD1 => ?_⟩
        have hneD := Bm.ne hD1
        have hDa := Bm.nea hD1
        have hml : ms.length = c.nm := by rw [Bm.w.2.1, Ch.mks_len]
        refine lc_list (K := K) (a := qm) (xs := ms.map V.ref) (fun i H => ∃ rs : List Addr, rs.length = i ∧ H D1 = some (.lst (rs.map V.ref)) ∧ RwR c H rs ∧ Bn K ns sa sc (fun H => (LamX.Tabs [(PL, lq)] H ∧ ChAt H p c) ∧ MksAt H ms c.mks) (fun _ => none) H [(qm, .lst (ms.map V.ref)), (a1, .lst (told.map V.int)), (b1, .lst (x1.gv.map V.int))])
          ⟨[], rfl, upd_same, (fun j rr h => by cases h), Bm.fr0 (Fr.new hD1)⟩ (fun i H _ ⟨_, _, _, _, B⟩ => SqL.of (B.get 0)) ?_ ?_
        · clear Bm hD1
          rintro i y H hi ⟨rs, rl, eD, hR, B⟩
          rw [List.getElem?_map] at hi
          obtain ⟨mk, hmk, rfl⟩ : ∃ mk, ms[i]? = some mk ∧ y = .ref mk := by
            cases e : ms[i]? with
            | none => rw [e] at hi; cases hi
            | some z => rw [e] at hi; exact ⟨z, rfl, (Option.some.inj hi).symm⟩
          have hi4 : i < 4 := by have := (List.getElem?_eq_some_iff.mp hmk).1; omega
          obtain ⟨m, hm, hmA⟩ := B.w.2.2 i mk hmk
          obtain ⟨ys, rfl⟩ : ∃ ys, m = .row ys := by
            have := rows_mks crow m (List.mem_of_getElem? hm)
            cases m with
            | count b st => exact this.elim
            | row ys => exact ⟨ys, rfl⟩
          obtain ⟨rr, h1, h2⟩ := hmA
          clear hi
          walk_at "gd"
          refine ⟨rfl, ?_⟩
          walk_at "gd"
          have fp : Fr [D1] H (upd H D1 (.lst (rs.map V.ref ++ [.ref rr]))) := Fr.put (by simp) (nt eD)
          refine ⟨_, eD, by rw [List.length_map, rl]; exact Nat.lt_of_lt_of_le hi4 (by decide), rs ++ [rr], by rw [List.length_append, rl]; rfl, by rw [upd_same, List.map_append]; rfl, fun j r2 e => ?_, B.put eD rfl hneD hDa⟩
          rcases get_snoc e with e | ⟨rfl, rfl⟩
          · exact hR.fr fp j r2 e
          · exact ⟨ys, by rw [rl]; exact hm, fp.tp h2⟩
        clear Bm hD1
        rintro H2 ⟨rs, rl, eD, hR, B⟩
        rw [List.length_map, hml] at rl
        have B2 := (((B.left (fun _ _ _ hS f h => ⟨tabsFr hS f h.1, h.2.fr f⟩)).push eD hDa).add (T := fun H => RwR c H rs) hR (fun _ _ _ f h => h.fr f)).sub (l' := [(D1, .lst (rs.map V.ref)), (a1, .lst (told.map V.int)), (b1, .lst (x1.gv.map V.int))]) (by simp)
        clear B eD hR hneD hDa hml
        walk_at "gd"
        refine rd_lenL (SqL.of (B2.get 0)) ?_
        walk_at "gd"
        refine ⟨_, rfl, by rw [List.length_map]; omega, by rw [List.length_map]; omega, fun D2 hD2 => ?_⟩
        replace B2 := B2.new (o := .lst []) hD2
        refine lc_range (lo := 0) (n := (((rs.map V.ref).length : Nat) : Int).toNat) (fun i H => Bn K ns sa sc (fun H => (LamX.Tabs [(PL, lq)] H ∧ ChAt H p c) ∧ RwR c H rs) (fun _ => none) H [(D2, .lst []), (D1, .lst (rs.map V.ref)), (a1, .lst (told.map V.int)), (b1, .lst (x1.gv.map V.int))]) B2 ?_ ?_
        · clear B2 hD2
          intro i H i1 B
          rw [Int.toNat_natCast, List.length_map] at i1
          have i2 : i < x1.gv.length := by omega
          obtain ⟨ys, e1, e2⟩ := B.w.2 i rs[i] (List.getElem?_eq_getElem i1)
          obtain ⟨g0, g1⟩ := hgb i x1.gv[i] ys (List.getElem?_eq_getElem i2) e1
          walk_at "gd"
          refine ⟨rfl, ?_⟩
          walk_at "gd"
          refine rd_chain ?_
          walk_at "gd"
          refine rd_ixL (SqL.of (B.get 3)) (at_of (v := .int x1.gv[i]) (Int.zero_add _) (by rw [List.getElem?_map, List.getElem?_eq_getElem i2]; rfl)) ?_
          walk_at "gd"
          refine rd_T g0 ?_
          walk_at "gd"
          refine rd_ixL (SqL.of (B.get 1)) (at_of (v := .ref rs[i]) (Int.zero_add _) (by rw [List.getElem?_map, List.getElem?_eq_getElem i1]; rfl)) ?_
          walk_at "gd"
          rw [List.length_map, decide_eq_true g1]
          walk_at "gd"
          exact B
        clear B2 hD2
        intro H3 B
        walk_at "gd"
        refine B.mkL fun s2 H4 B => ?_
        walk_at "gd"
        refine neD_ints (bs := []) (B.get 1) (B.get 0) ?_
        have B5 := (B.left (fun _ _ _ hS f h => ⟨tabsFr hS f h.1, h.2.fr f⟩)).sub (l' := [(a1, .lst (told.map V.int)), (b1, .lst (x1.gv.map V.int))]) (by simp)
        clear B
        walk_at "gd"
        refine rd_make ?_
        walk_at "gd"
        intro xd dx hx hdx nd
        refine B5.drawer hx hdx nd B5.w.2 cok cnm cns fun H5 D hda G => ⟨rfl, ?_⟩
        subst hda
        clear B5 hx hdx nd
        have P0 := PInv.new cok cnm cns
        obtain ⟨fd1, bd1, hd1⟩ := Th.draw
        have PI := Th.path.at P0 told.length (Nat.le_refl _)
        have PI1 := PI.next hd1
        have en1 : r = .fin → x1.ended := (draw_facts _ _ _ _ _ _ hd1 PI.inv (Nat.zero_le _)).en
        walk_at "gd"
        walk_at "fo"
        walk_at "gd"
        refine ⟨a1, rfl, ⟨_, SqL.of (G.B.get 0)⟩, for_list (K := K) (a := a1) (xs := told.map V.int) (fun i σ H => ∃ v12 : Option V, σ = [some (.ref sc), some (.ref sa), some (.int (0 + (i0 : Int))), some (.ref p), some (.ref q), some (.ref a1), some (.str r.word), some (.ref b1), some (.ref D1), v9, v10, some (.ref D.da), v12, v13] ∧ BD J K ns sa sc (fun H => LamX.Tabs [(PL, lq)] H ∧ ChAt H p c) H [(a1, .lst (told.map V.int)), (b1, .lst (x1.gv.map V.int))] D (X i) (L i) false [])
          ⟨_, rfl, by rw [Th.path.x0, Th.path.l0]; exact G⟩ (fun i σ H _ ⟨_, _, G⟩ => SqL.of (G.B.get 0)) ?_ ?_⟩
        · clear G
          rintro i y σ H hi ⟨v12, rfl, G⟩
          have hil : i < told.length := by have := (List.getElem?_eq_some_iff.mp hi).1; rw [List.length_map] at this; exact this
          rw [List.getElem?_map, List.getElem?_eq_getElem hil] at hi
          cases hi
          obtain ⟨f0, b0, hd0⟩ := Th.path.step i told[i] (List.getElem?_eq_getElem hil)
          have PIi := Th.path.at P0 i (by omega)
          walk_at "gd"
          refine rd_meth ?_
          walk_at "gd"
          obtain ⟨_, dr⟩ := id G.dr
          obtain ⟨dx, eo⟩ := dr.ob
          refine rd_m eo rfl ?_
          clear eo dr
          walk_at "gd"
          refine G.next PIi.inv PIi.dep PIi.al (nextR_draw hd0) (fun z => by cases z) fun H6 q6 G6 => ?_
          walk_at "gd"
          refine G6.mkT fun q7 H7 G7 => ?_
          walk_at "gd"
          refine neD_rs (r := .num told[i]) (G7.B.get 1) (G7.B.get 0) ?_
          walk_at "gd"
          exact ⟨_, rfl, G7.sub (by simp)⟩
        clear G
        rintro σ H5 ⟨v12, rfl, G⟩
        rw [List.length_map] at G
        have again := nextR_again (x1 := x1) (lost := l1) Th.nn en1
        have hvw := vals_word Th.nn
        dsimp only
        refine rd_seq ?_
        refine ifs_coreN (fun σ' H' => σ' = [some (.ref sc), some (.ref sa), some (.int (0 + (i0 : Int))), some (.ref p), some (.ref q), some (.ref a1), some (.str r.word), some (.ref b1), some (.ref D1), v9, v10, some (.ref D.da), v12, v13] ∧ BD J K ns sa sc (fun H => LamX.Tabs [(PL, lq)] H ∧ ChAt H p c) H' [(a1, .lst (told.map V.int)), (b1, .lst (x1.gv.map V.int))] D x1 l1 r.isLong []) ?_ (fun nx' hn => ?_)
        rotate_left
        · walk_at "gd"
          refine rd_meth ?_
          walk_at "gd"
          obtain ⟨_, dr⟩ := id G.dr
          obtain ⟨dx, eo⟩ := dr.ob
          refine rd_m eo rfl ?_
          clear eo dr
          walk_at "gd"
          refine G.next PI.inv PI.dep PI.al (nextR_draw hd1) (fun z => by cases z) fun H6 q6 G6 => ?_
          walk_at "gd"
          refine rd_meth ?_
          walk_at "gd"
          obtain ⟨_, dr⟩ := id G6.dr
          obtain ⟨dx, eo⟩ := dr.ob
          refine rd_m eo rfl ?_
          clear eo dr
          walk_at "gd"
          refine G6.next PI1.inv PI1.dep PI1.al again id fun H7 q7 G7 => ?_
          walk_at "gd"
          refine G7.mkL fun l7 H8 G8 => ?_
          walk_at "gd"
          refine G8.mkT fun t1 H8 G8 => ?_
          walk_at "gd"
          refine G8.mkT fun t2 H8 G8 => ?_
          walk_at "gd"
          refine G8.mkL fun l8 H8 G8 => ?_
          walk_at "gd"
          refine neD_rs2 (r := r) (t := r) (G8.B.get 3) (G8.B.get 0) (G8.B.get 5) (G8.B.get 4) (by rw [hvw]; exact G8.B.get 2) (by rw [hvw]; exact G8.B.get 1) ?_
          walk_at "gd"
          refine rd_meth ?_
          walk_at "gd"
          obtain ⟨_, dr⟩ := id G8.dr
          obtain ⟨dx, eo⟩ := dr.ob
          refine rd_m eo rfl ?_
          clear eo dr
          walk_at "gd"
          refine G8.drawn fun H9 q9 G9 => ?_
          walk_at "gd"
          refine neD_ints (bs := x1.gv) (G9.B.get 0) (G9.B.get 8) ?_
          walk_at "gd"
          exact hn _ _ ⟨rfl, G9.sub (by simp)⟩
        clear G
        rintro σ' H6 ⟨rfl, G⟩
        walk_at "gd"
        refine rd_meth ?_
        walk_at "gd"
        obtain ⟨_, dr⟩ := id G.dr
        obtain ⟨dx, eo⟩ := dr.ob
        refine rd_m eo rfl ?_
        clear eo dr
        walk_at "gd"
        refine G.undone fun H7 lq7 G => ?_
        walk_at "gd"
        refine rd_meth ?_
        walk_at "gd"
        obtain ⟨_, dr⟩ := id G.dr
        obtain ⟨dx, eo⟩ := dr.ob
        refine rd_m eo rfl ?_
        clear eo dr
        walk_at "gd"
        refine G.put (n := 7) (by decide) fun H8 G => ?_
        walk_at "gd"
        refine rd_meth ?_
        walk_at "gd"
        obtain ⟨_, dr⟩ := id G.dr
        obtain ⟨dx, eo⟩ := dr.ob
        refine rd_m eo rfl ?_
        clear eo dr
        walk_at "gd"
        refine G.next PI1.inv PI1.dep PI1.al nextR_back id fun H6 q6 G6 => ?_
        walk_at "gd"
        refine rd_meth ?_
        walk_at "gd"
        obtain ⟨_, dr⟩ := id G6.dr
        obtain ⟨dx, eo⟩ := dr.ob
        refine rd_m eo rfl ?_
        clear eo dr
        walk_at "gd"
        refine G6.next PI1.inv PI1.dep PI1.al again id fun H7 q7 G7 => ?_
        walk_at "gd"
        refine G7.mkL fun l7 H8 G8 => ?_
        walk_at "gd"
        refine G8.mkT fun t1 H8 G8 => ?_
        walk_at "gd"
        refine G8.mkT fun t2 H8 G8 => ?_
        walk_at "gd"
        refine G8.mkL fun l8 H8 G8 => ?_
        walk_at "gd"
        refine neD_rs2 (r := .num 7) (t := r) (G8.B.get 3) (G8.B.get 0) (G8.B.get 5) (G8.B.get 4) (G8.B.get 2) (by rw [hvw]; exact G8.B.get 1) ?_
        walk_at "gd"
        refine rd_meth ?_
        walk_at "gd"
        obtain ⟨_, dr⟩ := id G8.dr
        obtain ⟨dx, eo⟩ := dr.ob
        refine rd_m eo rfl ?_
        clear eo dr
        walk_at "gd"
        refine G8.undone fun H9 q9 G9 => ?_
        walk_at "gd"
        refine neD_ints (bs := l1) (G9.B.get 0) (G9.B.get 7) ?_
        walk_at "gd"
        exact ⟨_, _, _, _, _, _, _, _, _, _, _, _, rfl, G9.B.st, G9.B.w.1⟩
    · rintro σ H2 ⟨v2, v3, v4, v5, v6, v7, v8, v9, v10, v11, v12, v13, rfl, S2, t2⟩
      walk_at "gd"
      exact k _
end
end Dc

set_option Elab.async false
set_option linter.all false
set_option maxRecDepth 100000
set_option maxHeartbeats 2000000
namespace Dc
open PySem PySem.Spec PyProof.Rows L2
/-- the program's whole -/
structure ProgV (K : PySem.W.Frag) (mg : Str → Option Value) : Prop where
  makers_within : FnM K mg "makers_within" s_makers_within
  whole : FnM K mg "whole" s_whole
  whole_row : FnM K mg "whole_row" s_whole_row
  row_behind : FnM K mg "row_behind" s_row_behind
  row_until : FnM K mg "row_until" s_row_until
  row_unlike : FnM K mg "row_unlike" s_row_unlike
section
variable {P : Program} {w : World} {K : PySem.W.Frag} {mg : Str → Option Value} {base : Heap}
theorem withins {f : Addr} {fd : FuncData} (T : Txt K mg) (F : FnP K "makers_within" "makers_within" s_makers_within f fd) (g : mg "makers_within" = some (.ref f)) (G : Cal P w K mg base CX0 1 "has_chain" ["stage"] spHasChain) : ∀ n, n ≤ 1000 → Cal P w K mg base CX0 (n + 1) "makers_within" ["chain"] (spWithin n)
  | 0, _ => cal_of F g (ok0 F sc_makers_within (fun vs H Q E ⟨p, c, _, _, h, _⟩ => absurd h (by have := c.nm_pos; omega)) fun cdv A outer s H vs Q E hr ⟨p, c, _, _, h, _⟩ => absurd h (by have := c.nm_pos; omega)) fun _ _ _ _ _ _ us hl => match us, hl with | [_], _ => rfl
  | n + 1, hn => cal_of F g (ok_makers_within (n := n) (by omega) T F G (withins T F g G n (by omega))) fun _ _ _ _ _ _ us hl => match us, hl with | [_], _ => rfl
theorem wrows {nw fR fB : Addr} {dR dB : FuncData} (T : Txt K mg) (L : NwF K mg nw) (FR : FnP K "whole_row" "whole_row" s_whole_row fR dR) (gR : mg "whole_row" = some (.ref fR)) (FB : FnP K "row_behind" "row_behind" s_row_behind fB dB) (gB : mg "row_behind" = some (.ref fB))
    (GU : Cal P w K mg base CX0 1 "row_until" ["numbers", "n"] spUntil) (GL : Cal P w K mg base CX0 1 "row_unlike" ["numbers"] spUnlike) : ∀ n, Cal P w K mg base (L2.CX P w) (2 * n + 1) "whole_row" ["chain"] (spWholeRow nw n)
  | 0 => cal_of FR gR (okX FR sc_whole_row (fun vs H Q E ⟨p, c, _, _, _, _, h, _⟩ => absurd h (by have := c.nm_pos; omega)) fun cdv A outer s H vs Q E hr ⟨p, c, _, _, _, _, h, _⟩ _ _ _ => absurd h (by have := c.nm_pos; omega)) fun _ _ _ _ _ _ us hl => match us, hl with | [_], _ => rfl
  | n + 1 => by
    have ih := wrows T L FR gR FB gB GU GL n
    have GB : Cal P w K mg base (L2.CX P w) (2 * n + 2) "row_behind" ["numbers", "stage"] (spBehindR nw n) := cal_of FB gB (ok_row_behind (j := 2 * n + 1) (by omega) T FB GU GL ih) fun _ _ _ _ _ _ us hl => match us, hl with | [_, _], _ => rfl
    exact cal_of FR gR (ok_whole_row T L FR GB) fun _ _ _ _ _ _ us hl => match us, hl with | [_], _ => rfl
theorem wholes {nw : Addr} {J : Cls'} (T : Txt K mg) (L : NwF K mg nw) (A : ProgA P K mg J) (R : ProgV K mg) : Cal P w K mg base (L2.CX P w) 10 "whole" ["chain"] (spWhole nw) := by
  obtain ⟨f1, d1, F1, g1⟩ := A.has_chain
  obtain ⟨f2, d2, F2, g2⟩ := R.makers_within
  obtain ⟨f3, d3, F3, g3⟩ := R.row_until
  obtain ⟨f4, d4, F4, g4⟩ := R.row_unlike
  obtain ⟨f5, d5, F5, g5⟩ := R.row_behind
  obtain ⟨f6, d6, F6, g6⟩ := R.whole_row
  obtain ⟨f7, d7, F7, g7⟩ := R.whole
  have G1 : Cal P w K mg base CX0 1 "has_chain" ["stage"] spHasChain := cal_of F1 g1 (ok_has_chain T F1) fun _ _ _ _ _ _ us hl => match us, hl with | [_], _ => rfl
  have G3 : Cal P w K mg base CX0 1 "row_until" ["numbers", "n"] spUntil := cal_of F3 g3 (ok_row_until T F3) fun _ _ _ _ _ _ us hl => match us, hl with | [_, _], _ => rfl
  have G4 : Cal P w K mg base CX0 1 "row_unlike" ["numbers"] spUnlike := cal_of F4 g4 (ok_row_unlike T F4) fun _ _ _ _ _ _ us hl => match us, hl with | [_], _ => rfl
  exact cal_of F7 g7 (ok_whole T L F7 (checks T A) (withins T F2 g2 G1 4 (by decide)) (wrows T L F6 g6 F5 g5 G3 G4 4)) fun _ _ _ _ _ _ us hl => match us, hl with | [_], _ => rfl
end
end Dc

set_option Elab.async false
set_option linter.all false
set_option maxRecDepth 100000
set_option maxHeartbeats 2000000
namespace Dc
open PySem PySem.Spec PyProof.Rows L2
structure ProgU (K : PySem.W.Frag) (J : Cls') : Prop where
  undone : MT K J.drawer "undone" "undone" "Drawer.undone" s_Drawer_undone
section
variable {P : Program} {w : World} {K : PySem.W.Frag} {mg : Str → Option Value} {base : Heap} {J : Cls'}
theorem undones (T : Txt K mg) (R : ProgA P K mg J) (R' : ProgU K J) : CalM P w K mg base CX0 1 J.drawer "undone" ["self"] (spUndoneP J) := calm_of R'.undone R.z.c (fun f fd F => ok_Drawer_undone T R.z R.d.met F) fun _ _ _ _ _ _ us hl => match us, hl with | [_], _ => rfl
end
end Dc

set_option Elab.async false
set_option linter.all false
set_option maxRecDepth 100000
set_option maxHeartbeats 2000000
namespace Dc
open PySem PySem.Spec PyProof.Rows L2
structure ProgM (P : Program) (K : PySem.W.Frag) (mg : Str → Option Value) (J : Cls') : Prop where
  u : ProgU K J
  put : MT K J.drawer "put_back" "put_back" "Drawer.put_back" s_Drawer_put_back
section
variable {P : Program} {w : World} {K : PySem.W.Frag} {mg : Str → Option Value} {base : Heap} {J : Cls'}
theorem puts (T : Txt K mg) (R : ProgA P K mg J) (R' : ProgM P K mg J) : CalM P w K mg base CX0 1 J.drawer "put_back" ["self", "number"] (spPut J) := calm_of R'.put R.z.c (fun f fd F => ok_Drawer_put_back T R.z F) fun _ _ _ _ _ _ us hl => match us, hl with | [_, _], _ => rfl
end
end Dc

set_option Elab.async false
set_option linter.all false
set_option maxRecDepth 100000
set_option maxHeartbeats 2000000
namespace Dc
open PySem PySem.Spec PyProof.Rows L2
section
variable {P : Program} {w : World} {K : PySem.W.Frag} {mg : Str → Option Value} {base : Heap} {J : Cls'} {Z : KJ}
theorem law_fn (T : Txt K mg) (R : ProgA P K mg J) (M : ProgM P K mg J) (V : ProgV K mg) (L : NwF K mg Z.nw) (S : StartL K mg) (C : ChainsL K mg) (I : FnM K mg "first" s_first) (Mk : FnM K mg "_law_makers" s__law_makers) (Kd : FnM K mg "_law_kind" s__law_kind) (BK : KB mg Z) (hK : KOne K Z Z.nw 2)
    {f : Addr} {fd : FuncData} {c PL : Addr} (F : FnP K "law" "law" s_law f fd) (hcode : fd.code = .ref c) (TB : LamX.TabB base mg c PL) {ns : List Int} (hl : ns.length ≤ 63) : FnOk P w K mg base CX0 56 f fd ["_law_script"] (spLawT K PL ns) := by
  obtain ⟨f1, d1, F1, g1⟩ := Mk
  exact ok_law T BK F hK hcode TB Kd (l_start T S) (l_any T S C hl) (l_drawn T S hl) (lawmakers T F1 g1 4 (by omega)) (firsts T R I) (wholes T L R V) (makes T R) (nexts T R 12) (drawns T R) (undones T R M.u) (puts T R M)
end
end Dc

set_option Elab.async false
set_option linter.all false
set_option maxRecDepth 100000
set_option maxHeartbeats 0
namespace Dc
open PySem PySem.Spec PyProof.Rows L2
theorem all_at {α : Type} {l : List α} {p : α → Bool} (h : l.all p = true) (i : Nat) {x : α} (e : l[i]? = some x := by rfl) : p x = true := List.all_eq_true.mp h x (List.mem_of_getElem? e)
theorem map_at {α β : Type} {l : List α} {f g : α → β} (h : l.map f = l.map g) (i : Nat) {x : α} (e : l[i]? = some x := by rfl) : f x = g x := by
  have h1 : (l.map f)[i]? = (l.map g)[i]? := by rw [h]
  rw [List.getElem?_map, List.getElem?_map, e] at h1
  exact Option.some.inj h1
section
variable {w : World} {K : PySem.W.Frag} {h : Heap} {mg : Str → Option Value}
def jK (K : PySem.W.Frag) : Cls' := ⟨He.ga K "Count", He.ga K "Row", He.ga K "Reckon", He.ga K "Keep", He.ga K "Drop", He.ga K "Take", He.ga K "Each", He.ga K "Until", He.ga K "Unlike", He.ga K "Both", He.ga K "Then", He.ga K "Meter", He.ga K "Drawer", He.ga K "LongDraw"⟩
structure Facts (K : PySem.W.Frag) : Prop where
  hglobs : (globs.all fun x => (He.Fa.glo x).ok K) = true
  hfrees : (frees.all fun x => (He.Fa.free x).ok K) = true
  hcons_ : (cons_.all fun q => (He.Fa.int q.1 q.2).ok K) = true
  hclss : (clss.all fun x => (He.Fa.cls x).ok K) = true
  hnodes : (nodes.all fun x => flds.all fun f => (He.Fa.noat x f).ok K) = true
  hnas : (nas.all fun q => (He.Fa.noat q.1 q.2).ok K) = true
  hmths : (mths.all fun q => (He.Fa.meth q.1 q.2).ok K) = true
  hmkrs : (mkrs.all fun x => (He.Fa.mkr x).ok K) = true
  long : longB K = true
  exm : (He.Fa.exm "LongDraw" "LongDraw" true).ok K = true
  nodup : (List.map (He.ga K) Dc.nodes).Nodup
  hsups : (sups.all fun q => supB K q) = true
  stg2 : stg2B K = true
  defs : (fns.all fun d => d.ok K) = true
  fnw : (fns.map fun d => He.fnW K d.at_) = fns.map He.DefD.val
  supw : (supD.map fun d => supW K d.at_) = supD.map He.DefD.val
theorem facts_of (e : obsK K = valZ) : Facts K := by
  have e1 : (exB K && fns.all fun d => d.ok K) = true := congrArg (fun z : AlZ => z.1) e
  obtain ⟨x0, d0⟩ := He.ba e1
  obtain ⟨c1, x0⟩ := He.ba x0
  obtain ⟨c2, x0⟩ := He.ba x0
  obtain ⟨c3, x0⟩ := He.ba x0
  obtain ⟨c4, x0⟩ := He.ba x0
  obtain ⟨c5, x0⟩ := He.ba x0
  obtain ⟨c6, x0⟩ := He.ba x0
  obtain ⟨c7, x0⟩ := He.ba x0
  obtain ⟨c8, x0⟩ := He.ba x0
  obtain ⟨c9, x0⟩ := He.ba x0
  obtain ⟨c10, x0⟩ := He.ba x0
  obtain ⟨c11, x0⟩ := He.ba x0
  obtain ⟨c12, c13⟩ := He.ba x0
  exact ⟨c1, c2, c3, c4, c5, c6, c7, c8, c9, c10, of_decide_eq_true c11, c12, c13, d0, congrArg (fun z : AlZ => z.2.1) e, congrArg (fun z : AlZ => z.2.2) e⟩
theorem Facts.glo (c : Facts K) (X : K.In h) (G : h.Ns mainGlobals mg) (i : Nat) {x : Str} (e : globs[i]? = some x := by rfl) : mg x = some (.ref (He.ga K x)) := He.glo_ok X G (all_at (p := fun x => (He.Fa.glo x).ok K) c.hglobs i e)
theorem Facts.free (c : Facts K) (X : K.In h) (G : h.Ns mainGlobals mg) (i : Nat) {x : Str} (e : frees[i]? = some x := by rfl) : mg x = none := He.free_ok X G (all_at (p := fun x => (He.Fa.free x).ok K) c.hfrees i e)
theorem Facts.con (c : Facts K) (X : K.In h) (G : h.Ns mainGlobals mg) (i : Nat) {x : Str} {n : Int} (e : cons_[i]? = some (x, n) := by rfl) : ∃ t, mg x = some (.int n t) := He.int_ok X G (all_at (p := fun q => (He.Fa.int q.1 q.2).ok K) c.hcons_ i e)
theorem Facts.cl (c : Facts K) (i : Nat) {x : Str} (e : clss[i]? = some x := by rfl) : Cls K (He.ga K x) := He.cls_ok (all_at (p := fun x => (He.Fa.cls x).ok K) c.hclss i e)
theorem Facts.nat (c : Facts K) (i : Nat) {x f : Str} (e : Dc.nas[i]? = some (x, f) := by rfl) : NoAttr K (He.ga K x) f := He.noat_ok (all_at (p := fun q => (He.Fa.noat q.1 q.2).ok K) c.hnas i e)
theorem Facts.mth (c : Facts K) (i : Nat) {x m : Str} (e : Dc.mths[i]? = some (x, m) := by rfl) : Meth K (He.ga K x) m (He.ma K (He.ga K x) m) := He.meth_ok (all_at (p := fun q => (He.Fa.meth q.1 q.2).ok K) c.hmths i e)
theorem Facts.mkr (c : Facts K) (i : Nat) {x : Str} (e : Dc.mkrs[i]? = some x := by rfl) : Mk K (He.ga K x) (He.ma K (He.ga K x) "__init__") := He.mkr_ok (all_at (p := fun x => (He.Fa.mkr x).ok K) c.hmkrs i e)
theorem Facts.def_ (c : Facts K) (i : Nat) {d : He.DefD} (e : fns[i]? = some d := by rfl) : ∃ fd, FunD K d.name d.qual d.params d.body d.scope (d.dvs K) (d.kws K) (He.fAd K d.at_) fd := He.DefD.funD (map_at (f := fun d => He.fnW K d.at_) (g := He.DefD.val) c.fnw i e) (all_at (p := fun d => d.ok K) c.defs i e)
theorem Facts.na (c : Facts K) (i j : Nat) {x f : Str} (e : Dc.nodes[i]? = some x := by rfl) (e2 : flds[j]? = some f := by rfl) : NoAttr K (He.ga K x) f := He.noat_ok (all_at (p := fun f => (He.Fa.noat x f).ok K) (all_at (p := fun x => flds.all fun f => (He.Fa.noat x f).ok K) c.hnodes i e) j e2)
theorem txt (c : Facts K) (X : K.In h) (G : h.Ns mainGlobals mg) : Txt K mg :=
  ⟨c.free X G 0, c.free X G 1, c.free X G 2, c.free X G 3, c.free X G 4, c.free X G 5, c.free X G 6, c.free X G 7, c.free X G 8, c.free X G 9, c.free X G 10, c.free X G 11, c.free X G 12, c.con X G 0, c.con X G 1, c.con X G 2, c.con X G 3, c.con X G 4, c.con X G 5, c.con X G 6⟩
theorem long_of (c : Facts K) (X : K.In h) (G : h.Ns mainGlobals mg) : LongF K mg (jK K) := by
  obtain ⟨c1, z⟩ := He.ba c.long
  obtain ⟨c2, z⟩ := He.ba z
  obtain ⟨c3, c4⟩ := He.ba z
  exact ⟨c1, c.glo X G 29, c2, of_decide_eq_true c3, of_decide_eq_true c4⟩
theorem met_of (c : Facts K) : MetF K (jK K) := ⟨c.cl 11, c.nat 0, c.nat 1, c.nat 2⟩
theorem drf_of (c : Facts K) : DrF K (jK K) := ⟨c.cl 12, c.nat 3, c.nat 4, c.nat 5, c.nat 6⟩
theorem draw_ga {C : Addr} (hC : DrawC (jK K) C) : ∃ (i : Nat) (x : Str), nodes[i]? = some x ∧ C = He.ga K x := by
  rcases hC with z | z | z | z | z | z | z | z | z | z | z
  · exact ⟨0, _, rfl, z⟩
  · exact ⟨1, _, rfl, z⟩
  · exact ⟨2, _, rfl, z⟩
  · exact ⟨3, _, rfl, z⟩
  · exact ⟨4, _, rfl, z⟩
  · exact ⟨5, _, rfl, z⟩
  · exact ⟨6, _, rfl, z⟩
  · exact ⟨7, _, rfl, z⟩
  · exact ⟨8, _, rfl, z⟩
  · exact ⟨9, _, rfl, z⟩
  · exact ⟨10, _, rfl, z⟩
theorem node_of (c : Facts K) : NodeF K (jK K) := by
  have na : ∀ (C : Addr), DrawC (jK K) C → ∀ (j : Nat) (f : Str), flds[j]? = some f → NoAttr K C f := fun C hC j f e => by
    obtain ⟨i, x, e1, rfl⟩ := draw_ga hC
    exact c.na i j e1 e
  have cl : ∀ C, DrawC (jK K) C → Cls K C := fun C hC => by
    rcases hC with rfl | rfl | rfl | rfl | rfl | rfl | rfl | rfl | rfl | rfl | rfl
    · exact c.cl 0
    · exact c.cl 1
    · exact c.cl 2
    · exact c.cl 3
    · exact c.cl 4
    · exact c.cl 5
    · exact c.cl 6
    · exact c.cl 7
    · exact c.cl 8
    · exact c.cl 9
    · exact c.cl 10
  exact ⟨cl, fun C hC => na C hC 0 _ rfl, fun C hC => na C hC 1 _ rfl, fun C hC => na C hC 2 _ rfl, fun C hC => na C hC 3 _ rfl, fun C hC => na C hC 4 _ rfl, fun C hC => na C hC 5 _ rfl, fun C hC => na C hC 6 _ rfl, fun C hC => na C hC 7 _ rfl, fun C hC => na C hC 8 _ rfl, fun C hC => na C hC 9 _ rfl, fun C hC => na C hC 10 _ rfl, fun C hC => na C hC 11 _ rfl, fun C hC => na C hC 12 _ rfl, fun C hC => na C hC 13 _ rfl, fun C hC => na C hC 14 _ rfl, fun C hC => na C hC 15 _ rfl, fun C hC => na C hC 16 _ rfl⟩
theorem mt_Meter_note_drawn (c : Facts K) : MT K (jK K).meter "note_drawn" "note_drawn" "Meter.note_drawn" s_Meter_note_drawn := by
  obtain ⟨fd, F⟩ := c.def_ 32
  exact ⟨_, fd, F, c.mth 2⟩
theorem mt_Meter_note_undone (c : Facts K) : MT K (jK K).meter "note_undone" "note_undone" "Meter.note_undone" s_Meter_note_undone := by
  obtain ⟨fd, F⟩ := c.def_ 33
  exact ⟨_, fd, F, c.mth 3⟩
theorem mt_Meter_enter (c : Facts K) : MT K (jK K).meter "enter" "enter" "Meter.enter" s_Meter_enter := by
  obtain ⟨fd, F⟩ := c.def_ 30
  exact ⟨_, fd, F, c.mth 0⟩
theorem mt_Meter_begin_next (c : Facts K) : MT K (jK K).meter "begin_next" "begin_next" "Meter.begin_next" s_Meter_begin_next := by
  obtain ⟨fd, F⟩ := c.def_ 31
  exact ⟨_, fd, F, c.mth 1⟩
theorem mt_Count_draw (c : Facts K) : MT K (jK K).count "draw" "draw" "Count.draw" s_Count_draw := by
  obtain ⟨fd, F⟩ := c.def_ 35
  exact ⟨_, fd, F, c.mth 4⟩
theorem mt_Row_draw (c : Facts K) : MT K (jK K).row "draw" "draw" "Row.draw" s_Row_draw := by
  obtain ⟨fd, F⟩ := c.def_ 37
  exact ⟨_, fd, F, c.mth 5⟩
theorem mt_Drawer_next (c : Facts K) : MT K (jK K).drawer "next" "next" "Drawer.next" s_Drawer_next := by
  obtain ⟨fd, F⟩ := c.def_ 51
  exact ⟨_, fd, F, c.mth 15⟩
theorem mt_Drawer_drawn (c : Facts K) : MT K (jK K).drawer "drawn" "drawn" "Drawer.drawn" s_Drawer_drawn := by
  obtain ⟨fd, F⟩ := c.def_ 52
  exact ⟨_, fd, F, c.mth 16⟩
theorem mt_Drawer_undone (c : Facts K) : MT K (jK K).drawer "undone" "undone" "Drawer.undone" s_Drawer_undone := by
  obtain ⟨fd, F⟩ := c.def_ 53
  exact ⟨_, fd, F, c.mth 17⟩
theorem mt_Drawer_put_back (c : Facts K) : MT K (jK K).drawer "put_back" "put_back" "Drawer.put_back" s_Drawer_put_back := by
  obtain ⟨fd, F⟩ := c.def_ 54
  exact ⟨_, fd, F, c.mth 18⟩
theorem mt_Reckon_draw (c : Facts K) : MT K (jK K).reckon "draw" "draw" "Stage.draw" s_Stage_draw := by
  obtain ⟨fd, F⟩ := c.def_ 55
  exact ⟨_, fd, F, c.mth 19⟩
theorem mt_Reckon_work (c : Facts K) : MT K (jK K).reckon "work" "work" "Reckon.work" s_Reckon_work := by
  obtain ⟨fd, F⟩ := c.def_ 41
  exact ⟨_, fd, F, c.mth 6⟩
theorem mt_Keep_draw (c : Facts K) : MT K (jK K).keep "draw" "draw" "Stage.draw" s_Stage_draw := by
  obtain ⟨fd, F⟩ := c.def_ 56
  exact ⟨_, fd, F, c.mth 20⟩
theorem mt_Keep_work (c : Facts K) : MT K (jK K).keep "work" "work" "Keep.work" s_Keep_work := by
  obtain ⟨fd, F⟩ := c.def_ 42
  exact ⟨_, fd, F, c.mth 7⟩
theorem mt_Drop_draw (c : Facts K) : MT K (jK K).drop "draw" "draw" "Stage.draw" s_Stage_draw := by
  obtain ⟨fd, F⟩ := c.def_ 57
  exact ⟨_, fd, F, c.mth 21⟩
theorem mt_Drop_work (c : Facts K) : MT K (jK K).drop "work" "work" "Drop.work" s_Drop_work := by
  obtain ⟨fd, F⟩ := c.def_ 43
  exact ⟨_, fd, F, c.mth 8⟩
theorem mt_Take_draw (c : Facts K) : MT K (jK K).take "draw" "draw" "Stage.draw" s_Stage_draw := by
  obtain ⟨fd, F⟩ := c.def_ 58
  exact ⟨_, fd, F, c.mth 22⟩
theorem mt_Take_work (c : Facts K) : MT K (jK K).take "work" "work" "Take.work" s_Take_work := by
  obtain ⟨fd, F⟩ := c.def_ 44
  exact ⟨_, fd, F, c.mth 9⟩
theorem mt_Each_draw (c : Facts K) : MT K (jK K).each "draw" "draw" "Stage.draw" s_Stage_draw := by
  obtain ⟨fd, F⟩ := c.def_ 59
  exact ⟨_, fd, F, c.mth 23⟩
theorem mt_Each_work (c : Facts K) : MT K (jK K).each "work" "work" "Each.work" s_Each_work := by
  obtain ⟨fd, F⟩ := c.def_ 45
  exact ⟨_, fd, F, c.mth 10⟩
theorem mt_Until_draw (c : Facts K) : MT K (jK K).until' "draw" "draw" "Stage.draw" s_Stage_draw := by
  obtain ⟨fd, F⟩ := c.def_ 60
  exact ⟨_, fd, F, c.mth 24⟩
theorem mt_Until_work (c : Facts K) : MT K (jK K).until' "work" "work" "Until.work" s_Until_work := by
  obtain ⟨fd, F⟩ := c.def_ 46
  exact ⟨_, fd, F, c.mth 11⟩
theorem mt_Unlike_draw (c : Facts K) : MT K (jK K).unlike "draw" "draw" "Stage.draw" s_Stage_draw := by
  obtain ⟨fd, F⟩ := c.def_ 61
  exact ⟨_, fd, F, c.mth 25⟩
theorem mt_Unlike_work (c : Facts K) : MT K (jK K).unlike "work" "work" "Unlike.work" s_Unlike_work := by
  obtain ⟨fd, F⟩ := c.def_ 47
  exact ⟨_, fd, F, c.mth 12⟩
theorem mt_Both_draw (c : Facts K) : MT K (jK K).both "draw" "draw" "Stage.draw" s_Stage_draw := by
  obtain ⟨fd, F⟩ := c.def_ 62
  exact ⟨_, fd, F, c.mth 26⟩
theorem mt_Both_work (c : Facts K) : MT K (jK K).both "work" "work" "Both.work" s_Both_work := by
  obtain ⟨fd, F⟩ := c.def_ 48
  exact ⟨_, fd, F, c.mth 13⟩
theorem mt_Then_draw (c : Facts K) : MT K (jK K).thn "draw" "draw" "Stage.draw" s_Stage_draw := by
  obtain ⟨fd, F⟩ := c.def_ 63
  exact ⟨_, fd, F, c.mth 27⟩
theorem mt_Then_work (c : Facts K) : MT K (jK K).thn "work" "work" "Then.work" s_Then_work := by
  obtain ⟨fd, F⟩ := c.def_ 49
  exact ⟨_, fd, F, c.mth 14⟩
theorem progd_of (c : Facts K) (X : K.In h) (G : h.Ns mainGlobals mg) : ProgD K mg (jK K) :=
  ⟨⟨c.nodup⟩, node_of c, met_of c, long_of c X G, mt_Meter_note_drawn c, mt_Meter_note_undone c, mt_Meter_enter c, mt_Meter_begin_next c, mt_Count_draw c, mt_Row_draw c, fun C hC => by
    rcases hC with rfl | rfl | rfl | rfl | rfl | rfl | rfl | rfl | rfl
    · exact mt_Reckon_draw c
    · exact mt_Keep_draw c
    · exact mt_Drop_draw c
    · exact mt_Take_draw c
    · exact mt_Each_draw c
    · exact mt_Until_draw c
    · exact mt_Unlike_draw c
    · exact mt_Both_draw c
    · exact mt_Then_draw c
    , mt_Reckon_work c, mt_Keep_work c, mt_Drop_work c, mt_Take_work c, mt_Each_work c, mt_Until_work c, mt_Unlike_work c, mt_Both_work c, mt_Then_work c⟩
theorem fn_makers_within (c : Facts K) (X : K.In h) (G : h.Ns mainGlobals mg) : FnM K mg "makers_within" s_makers_within := by
  obtain ⟨fd, F⟩ := c.def_ 0
  exact ⟨_, fd, F, c.glo X G 0⟩
theorem fn_check_chain (c : Facts K) (X : K.In h) (G : h.Ns mainGlobals mg) : FnM K mg "check_chain" s_check_chain := by
  obtain ⟨fd, F⟩ := c.def_ 1
  exact ⟨_, fd, F, c.glo X G 1⟩
theorem fn_is_chain (c : Facts K) (X : K.In h) (G : h.Ns mainGlobals mg) : FnM K mg "is_chain" s_is_chain := by
  obtain ⟨fd, F⟩ := c.def_ 2
  exact ⟨_, fd, F, c.glo X G 2⟩
theorem fn_is_pair (c : Facts K) (X : K.In h) (G : h.Ns mainGlobals mg) : FnM K mg "is_pair" s_is_pair := by
  obtain ⟨fd, F⟩ := c.def_ 3
  exact ⟨_, fd, F, c.glo X G 3⟩
theorem fn_is_maker (c : Facts K) (X : K.In h) (G : h.Ns mainGlobals mg) : FnM K mg "is_maker" s_is_maker := by
  obtain ⟨fd, F⟩ := c.def_ 4
  exact ⟨_, fd, F, c.glo X G 4⟩
theorem fn_is_row (c : Facts K) (X : K.In h) (G : h.Ns mainGlobals mg) : FnM K mg "is_row" s_is_row := by
  obtain ⟨fd, F⟩ := c.def_ 5
  exact ⟨_, fd, F, c.glo X G 5⟩
theorem fn_is_stage (c : Facts K) (X : K.In h) (G : h.Ns mainGlobals mg) : FnM K mg "is_stage" s_is_stage := by
  obtain ⟨fd, F⟩ := c.def_ 6
  exact ⟨_, fd, F, c.glo X G 6⟩
theorem fn_has_chain (c : Facts K) (X : K.In h) (G : h.Ns mainGlobals mg) : FnM K mg "has_chain" s_has_chain := by
  obtain ⟨fd, F⟩ := c.def_ 7
  exact ⟨_, fd, F, c.glo X G 7⟩
theorem fn_is_within (c : Facts K) (X : K.In h) (G : h.Ns mainGlobals mg) : FnM K mg "is_within" s_is_within := by
  obtain ⟨fd, F⟩ := c.def_ 8
  exact ⟨_, fd, F, c.glo X G 8⟩
theorem fn_is_number (c : Facts K) (X : K.In h) (G : h.Ns mainGlobals mg) : FnM K mg "is_number" s_is_number := by
  obtain ⟨fd, F⟩ := c.def_ 9
  exact ⟨_, fd, F, c.glo X G 9⟩
theorem fn_chain_end (c : Facts K) (X : K.In h) (G : h.Ns mainGlobals mg) : FnM K mg "chain_end" s_chain_end := by
  obtain ⟨fd, F⟩ := c.def_ 10
  exact ⟨_, fd, F, c.glo X G 10⟩
theorem fn_maker_of (c : Facts K) (X : K.In h) (G : h.Ns mainGlobals mg) : FnM K mg "maker_of" s_maker_of := by
  obtain ⟨fd, F⟩ := c.def_ 11
  exact ⟨_, fd, F, c.glo X G 11⟩
theorem fn_stage_behind (c : Facts K) (X : K.In h) (G : h.Ns mainGlobals mg) : FnM K mg "stage_behind" s_stage_behind := by
  obtain ⟨fd, F⟩ := c.def_ 12
  exact ⟨_, fd, F, c.glo X G 12⟩
theorem fn_first (c : Facts K) (X : K.In h) (G : h.Ns mainGlobals mg) : FnM K mg "first" s_first := by
  obtain ⟨fd, F⟩ := c.def_ 13
  exact ⟨_, fd, F, c.glo X G 13⟩
theorem fn_whole (c : Facts K) (X : K.In h) (G : h.Ns mainGlobals mg) : FnM K mg "whole" s_whole := by
  obtain ⟨fd, F⟩ := c.def_ 14
  exact ⟨_, fd, F, c.glo X G 14⟩
theorem fn_whole_row (c : Facts K) (X : K.In h) (G : h.Ns mainGlobals mg) : FnM K mg "whole_row" s_whole_row := by
  obtain ⟨fd, F⟩ := c.def_ 15
  exact ⟨_, fd, F, c.glo X G 15⟩
theorem fn_row_behind (c : Facts K) (X : K.In h) (G : h.Ns mainGlobals mg) : FnM K mg "row_behind" s_row_behind := by
  obtain ⟨fd, F⟩ := c.def_ 16
  exact ⟨_, fd, F, c.glo X G 16⟩
theorem fn_row_until (c : Facts K) (X : K.In h) (G : h.Ns mainGlobals mg) : FnM K mg "row_until" s_row_until := by
  obtain ⟨fd, F⟩ := c.def_ 17
  exact ⟨_, fd, F, c.glo X G 17⟩
theorem fn_row_unlike (c : Facts K) (X : K.In h) (G : h.Ns mainGlobals mg) : FnM K mg "row_unlike" s_row_unlike := by
  obtain ⟨fd, F⟩ := c.def_ 18
  exact ⟨_, fd, F, c.glo X G 18⟩
theorem fn__law_start (c : Facts K) (X : K.In h) (G : h.Ns mainGlobals mg) : FnM K mg "_law_start" s__law_start := by
  obtain ⟨fd, F⟩ := c.def_ 19
  exact ⟨_, fd, F, c.glo X G 19⟩
theorem fn__law_drawn (c : Facts K) (X : K.In h) (G : h.Ns mainGlobals mg) : FnM K mg "_law_drawn" s__law_drawn := by
  obtain ⟨fd, F⟩ := c.def_ 20
  exact ⟨_, fd, F, c.glo X G 20⟩
theorem fn__law_kind (c : Facts K) (X : K.In h) (G : h.Ns mainGlobals mg) : FnM K mg "_law_kind" s__law_kind := by
  obtain ⟨fd, F⟩ := c.def_ 21
  exact ⟨_, fd, F, c.glo X G 21⟩
theorem fn__law_number (c : Facts K) (X : K.In h) (G : h.Ns mainGlobals mg) : FnM K mg "_law_number" s__law_number := by
  obtain ⟨fd, F⟩ := c.def_ 22
  exact ⟨_, fd, F, c.glo X G 22⟩
theorem fn__law_maker (c : Facts K) (X : K.In h) (G : h.Ns mainGlobals mg) : FnM K mg "_law_maker" s__law_maker := by
  obtain ⟨fd, F⟩ := c.def_ 23
  exact ⟨_, fd, F, c.glo X G 23⟩
theorem fn__law_stage (c : Facts K) (X : K.In h) (G : h.Ns mainGlobals mg) : FnM K mg "_law_stage" s__law_stage := by
  obtain ⟨fd, F⟩ := c.def_ 24
  exact ⟨_, fd, F, c.glo X G 24⟩
theorem fn__law_chain (c : Facts K) (X : K.In h) (G : h.Ns mainGlobals mg) : FnM K mg "_law_chain" s__law_chain := by
  obtain ⟨fd, F⟩ := c.def_ 25
  exact ⟨_, fd, F, c.glo X G 25⟩
theorem fn__law_any (c : Facts K) (X : K.In h) (G : h.Ns mainGlobals mg) : FnM K mg "_law_any" s__law_any := by
  obtain ⟨fd, F⟩ := c.def_ 26
  exact ⟨_, fd, F, c.glo X G 26⟩
theorem fn__law_makers (c : Facts K) (X : K.In h) (G : h.Ns mainGlobals mg) : FnM K mg "_law_makers" s__law_makers := by
  obtain ⟨fd, F⟩ := c.def_ 27
  exact ⟨_, fd, F, c.glo X G 27⟩
theorem fn_law (c : Facts K) (X : K.In h) (G : h.Ns mainGlobals mg) : FnM K mg "law" s_law := by
  obtain ⟨fd, F⟩ := c.def_ 28
  exact ⟨_, fd, F, c.glo X G 28⟩
theorem ini_Meter (c : Facts K) (X : K.In h) (G : h.Ns mainGlobals mg) : IniM K mg "Meter" (jK K).meter "Meter.__init__" s_Meter___init__ := by
  obtain ⟨fd, F⟩ := c.def_ 29
  exact ⟨_, fd, F, c.mkr 11, c.glo X G 30⟩
theorem ini_Count (c : Facts K) (X : K.In h) (G : h.Ns mainGlobals mg) : IniM K mg "Count" (jK K).count "Count.__init__" s_Count___init__ := by
  obtain ⟨fd, F⟩ := c.def_ 34
  exact ⟨_, fd, F, c.mkr 0, c.glo X G 33⟩
theorem ini_Row (c : Facts K) (X : K.In h) (G : h.Ns mainGlobals mg) : IniM K mg "Row" (jK K).row "Row.__init__" s_Row___init__ := by
  obtain ⟨fd, F⟩ := c.def_ 36
  exact ⟨_, fd, F, c.mkr 1, c.glo X G 34⟩
theorem ini_Drawer (c : Facts K) (X : K.In h) (G : h.Ns mainGlobals mg) : IniM K mg "Drawer" (jK K).drawer "Drawer.__init__" s_Drawer___init__ := by
  obtain ⟨fd, F⟩ := c.def_ 50
  exact ⟨_, fd, F, c.mkr 12, c.glo X G 31⟩
theorem sup_txt (c : Facts K) (X : K.In h) (G : h.Ns mainGlobals mg) {x qual : Str} {params : Arguments} {body : List Stmt} {scope : Scope} (b : supB K (x, qual) = true) (e : supW K (x, some "__init__") = some (("__init__" : Str), qual, params, FuncBody.stmts body, scope, mainGlobals, [], builtinsNs)) (cl : Cls K (He.ga K x)) :
    ∃ fd, SupTxt theP K mg "__init__" qual params body scope (He.ga K x) (He.fAd K (x, some "__init__")) (He.fAd K ("Stage", some "__init__")) fd := by
  obtain ⟨b1, b2⟩ := He.ba b
  obtain ⟨b2, b3⟩ := He.ba b2
  obtain ⟨s1, s2⟩ := He.ba c.stg2
  obtain ⟨s2, s3⟩ := He.ba s2
  unfold supW at e
  cases q : K.lookup (He.fAd K (x, some "__init__")) with
  | none => rw [q] at e; cases e
  | some o =>
    obtain ⟨oc, od, dt, osl⟩ := o
    rw [q] at e
    have b1' : (match K.lookup (He.fAd K (x, some "__init__")) with
      | some ⟨_, _, .func fd, _⟩ => isNon fd.defaults && (cellB K (He.ga K x) fd.closure && codeB K qual fd.code)
      | _ => false) = true := b1
    rw [q] at b1'
    cases dt with
    | func fd =>
      obtain ⟨n1, n2, n3, n4, n5, n6, n7, n8, n9, n10, n11, n12, n13, n14, n15⟩ := fd
      have e2 : (some (n1, n2, n3, n4, n5, n6, ([] : List (Str × Addr)), n15) : He.FnW) = some (("__init__" : Str), qual, params, FuncBody.stmts body, scope, mainGlobals, [], builtinsNs) := e
      simp only [Option.some.injEq, Prod.mk.injEq] at e2
      obtain ⟨h1, h2, h3, h4, h5, h6, _, h8⟩ := e2
      subst h1 h2 h3 h4 h5 h6 h8
      have b4 : (isNon n8 && (cellB K (He.ga K x) n7 && codeB K n2 n13)) = true := b1'
      obtain ⟨k1, k2⟩ := He.ba b4
      obtain ⟨k2, k3⟩ := He.ba k2
      have hn8 : n8 = .none := by cases n8 <;> first | rfl | cases k1
      subst hn8
      obtain ⟨cc, cl', cld, csl, rfl, hcc⟩ : ∃ cc cl' cld csl, n7 = [(("__class__" : Str), cc)] ∧ K.lookup cc = some ⟨cl', cld, .cell (some (.ref (He.ga K x))), csl⟩ := by
        cases n7 with
        | nil => cases k2
        | cons p r =>
          cases r with
          | cons _ _ => cases k2
          | nil =>
            obtain ⟨y, cc⟩ := p
            have k4 : (decide (y = ("__class__" : Str)) && (match K.lookup cc with
              | some ⟨_, _, .cell (some (.ref d)), _⟩ => decide (d = He.ga K x)
              | _ => false)) = true := k2
            obtain ⟨k5, k6⟩ := He.ba k4
            have ey : y = ("__class__" : Str) := of_decide_eq_true k5
            subst ey
            cases z : K.lookup cc with
            | none => rw [z] at k6; cases k6
            | some o =>
              obtain ⟨c1, c2, c3, c4⟩ := o
              rw [z] at k6
              cases c3 with
              | cell v =>
                cases v with
                | none => cases k6
                | some v =>
                  cases v with
                  | ref d =>
                    have ed : d = He.ga K x := of_decide_eq_true k6
                    subst ed
                    exact ⟨cc, c1, c2, c4, rfl, z⟩
                  | _ => cases k6
              | _ => cases k6
      obtain ⟨cda, ccl, cdd, ws, ccs, file, tf, rfl, hcd, hk, hws, hfile⟩ : ∃ cda ccl cdd ws ccs file tf, n13 = .ref cda ∧ PySem.W.codeIn K (.ref cda) n2 = true ∧ K.lookup cda = some ⟨ccl, cdd, .fields ws, ccs⟩ ∧ (ws[2]? : Option Value) = some (.str file tf) ∧ ((theP.main.file : Str) == file) = true := by
        unfold codeB at k3
        cases n13 with
        | ref cda =>
          obtain ⟨k4, k5⟩ := He.ba k3
          cases z : K.lookup cda with
          | none => rw [z] at k5; cases k5
          | some o =>
            obtain ⟨c1, c2, c3, c4⟩ := o
            rw [z] at k5
            cases c3 with
            | fields ws =>
              have k6 : (match (ws[2]? : Option Value) with
                | some (.str file _) => ((theP.main.file : Str) == file)
                | _ => false) = true := k5
              cases y : (ws[2]? : Option Value) with
              | none => rw [y] at k6; cases k6
              | some v =>
                rw [y] at k6
                cases v with
                | str file tf => exact ⟨cda, c1, c2, ws, c4, file, tf, rfl, k4, z, y, k6⟩
                | _ => cases k6
            | _ => cases k5
        | _ => cases k3
      have hm : PySem.W.mroIn K (He.ga K x) (.ref (He.ga K x)) = some true := of_decide_eq_true b2
      obtain ⟨cdD, hD, _⟩ := Option.bind_eq_some_iff.mp (show (PySem.W.clsIn K (He.ga K x)).bind _ = some true from hm)
      exact ⟨_, ⟨oc, od, n9, n10, n11, n12, cda, cc, n14, osl, ccl, cdd, ws, ccs, file, tf, cl', cld, csl, cdD, rfl, q, hcd, hk, hws, hfile, hcc, hD⟩, hm, He.eqO_ok b3, of_decide_eq_true s1, s2, cl, He.eqO_ok s3, c.free X G 10, by decide +kernel⟩
    | _ => cases b1'
theorem sup_Reckon (c : Facts K) (X : K.In h) (G : h.Ns mainGlobals mg) : SupM theP K mg "Reckon" (jK K).reckon (He.fAd K ("Stage", some "__init__")) "Reckon.__init__" s_Reckon___init__ := by
  obtain ⟨fd, S⟩ := sup_txt c X G (all_at (p := fun q => supB K q) c.hsups 0 rfl) (map_at (f := fun d => supW K d.at_) (g := He.DefD.val) c.supw 0 rfl) (c.cl 2)
  exact ⟨_, fd, S, c.mkr 2, c.glo X G 35⟩
theorem sup_Keep (c : Facts K) (X : K.In h) (G : h.Ns mainGlobals mg) : SupM theP K mg "Keep" (jK K).keep (He.fAd K ("Stage", some "__init__")) "Keep.__init__" s_Keep___init__ := by
  obtain ⟨fd, S⟩ := sup_txt c X G (all_at (p := fun q => supB K q) c.hsups 1 rfl) (map_at (f := fun d => supW K d.at_) (g := He.DefD.val) c.supw 1 rfl) (c.cl 3)
  exact ⟨_, fd, S, c.mkr 3, c.glo X G 36⟩
theorem sup_Drop (c : Facts K) (X : K.In h) (G : h.Ns mainGlobals mg) : SupM theP K mg "Drop" (jK K).drop (He.fAd K ("Stage", some "__init__")) "Drop.__init__" s_Drop___init__ := by
  obtain ⟨fd, S⟩ := sup_txt c X G (all_at (p := fun q => supB K q) c.hsups 2 rfl) (map_at (f := fun d => supW K d.at_) (g := He.DefD.val) c.supw 2 rfl) (c.cl 4)
  exact ⟨_, fd, S, c.mkr 4, c.glo X G 37⟩
theorem sup_Take (c : Facts K) (X : K.In h) (G : h.Ns mainGlobals mg) : SupM theP K mg "Take" (jK K).take (He.fAd K ("Stage", some "__init__")) "Take.__init__" s_Take___init__ := by
  obtain ⟨fd, S⟩ := sup_txt c X G (all_at (p := fun q => supB K q) c.hsups 3 rfl) (map_at (f := fun d => supW K d.at_) (g := He.DefD.val) c.supw 3 rfl) (c.cl 5)
  exact ⟨_, fd, S, c.mkr 5, c.glo X G 38⟩
theorem sup_Each (c : Facts K) (X : K.In h) (G : h.Ns mainGlobals mg) : SupM theP K mg "Each" (jK K).each (He.fAd K ("Stage", some "__init__")) "Each.__init__" s_Each___init__ := by
  obtain ⟨fd, S⟩ := sup_txt c X G (all_at (p := fun q => supB K q) c.hsups 4 rfl) (map_at (f := fun d => supW K d.at_) (g := He.DefD.val) c.supw 4 rfl) (c.cl 6)
  exact ⟨_, fd, S, c.mkr 6, c.glo X G 39⟩
theorem sup_Until (c : Facts K) (X : K.In h) (G : h.Ns mainGlobals mg) : SupM theP K mg "Until" (jK K).until' (He.fAd K ("Stage", some "__init__")) "Until.__init__" s_Until___init__ := by
  obtain ⟨fd, S⟩ := sup_txt c X G (all_at (p := fun q => supB K q) c.hsups 5 rfl) (map_at (f := fun d => supW K d.at_) (g := He.DefD.val) c.supw 5 rfl) (c.cl 7)
  exact ⟨_, fd, S, c.mkr 7, c.glo X G 40⟩
theorem sup_Unlike (c : Facts K) (X : K.In h) (G : h.Ns mainGlobals mg) : SupM theP K mg "Unlike" (jK K).unlike (He.fAd K ("Stage", some "__init__")) "Unlike.__init__" s_Unlike___init__ := by
  obtain ⟨fd, S⟩ := sup_txt c X G (all_at (p := fun q => supB K q) c.hsups 6 rfl) (map_at (f := fun d => supW K d.at_) (g := He.DefD.val) c.supw 6 rfl) (c.cl 8)
  exact ⟨_, fd, S, c.mkr 8, c.glo X G 41⟩
theorem sup_Both (c : Facts K) (X : K.In h) (G : h.Ns mainGlobals mg) : SupM theP K mg "Both" (jK K).both (He.fAd K ("Stage", some "__init__")) "Both.__init__" s_Both___init__ := by
  obtain ⟨fd, S⟩ := sup_txt c X G (all_at (p := fun q => supB K q) c.hsups 7 rfl) (map_at (f := fun d => supW K d.at_) (g := He.DefD.val) c.supw 7 rfl) (c.cl 9)
  exact ⟨_, fd, S, c.mkr 9, c.glo X G 42⟩
theorem sup_Then (c : Facts K) (X : K.In h) (G : h.Ns mainGlobals mg) : SupM theP K mg "Then" (jK K).thn (He.fAd K ("Stage", some "__init__")) "Then.__init__" s_Then___init__ := by
  obtain ⟨fd, S⟩ := sup_txt c X G (all_at (p := fun q => supB K q) c.hsups 8 rfl) (map_at (f := fun d => supW K d.at_) (g := He.DefD.val) c.supw 8 rfl) (c.cl 10)
  exact ⟨_, fd, S, c.mkr 10, c.glo X G 43⟩
theorem proga_of (c : Facts K) (X : K.In h) (G : h.Ns mainGlobals mg) : ProgA theP K mg (jK K) := by
  obtain ⟨fd2, F2⟩ := c.def_ 38
  exact ⟨progd_of c X G, drf_of c, He.exm_ok c.exm, fn_check_chain c X G, fn_is_chain c X G, fn_is_pair c X G, fn_is_maker c X G, fn_is_row c X G, fn_is_stage c X G, fn_has_chain c X G, fn_is_within c X G, fn_is_number c X G, fn_chain_end c X G, fn_maker_of c X G, fn_stage_behind c X G, ini_Meter c X G, ini_Count c X G, ini_Row c X G, ini_Drawer c X G, mt_Drawer_next c, mt_Drawer_drawn c,
    _, fd2, F2, sup_Reckon c X G, sup_Keep c X G, sup_Drop c X G, sup_Take c X G, sup_Each c X G, sup_Until c X G, sup_Unlike c X G, sup_Both c X G, sup_Then c X G⟩
theorem progm_of (c : Facts K) : ProgM theP K mg (jK K) := ⟨⟨mt_Drawer_undone c⟩, mt_Drawer_put_back c⟩
theorem startl_of (c : Facts K) (X : K.In h) (G : h.Ns mainGlobals mg) : StartL K mg := ⟨fn__law_start c X G, fn__law_drawn c X G⟩
theorem chainsl_of (c : Facts K) (X : K.In h) (G : h.Ns mainGlobals mg) : ChainsL K mg := ⟨fn__law_number c X G, fn__law_maker c X G, fn__law_stage c X G, fn__law_chain c X G, fn__law_any c X G⟩
def kJ (K : PySem.W.Frag) : KJ := ⟨He.ga K "DrawError", He.ga K "BadChain", He.ga K "BadMany", He.ga K "NoWhole", He.ga K "BadText"⟩
theorem kb_of (c : Facts K) (X : K.In h) (G : h.Ns mainGlobals mg) : KB mg (kJ K) := ⟨c.glo X G 44, c.glo X G 45, c.glo X G 46, c.glo X G 47, c.glo X G 48, c.free X G 13⟩
theorem exc2_of (c : Facts K) (X : K.In h) (G : h.Ns mainGlobals mg) (z : exc2B K = true) : NwF K mg (kJ K).nw ∧ KOne K (kJ K) (kJ K).nw 2 := by
  unfold exc2B at z
  obtain ⟨q1, z⟩ := He.ba z
  obtain ⟨q2, z⟩ := He.ba z
  obtain ⟨q3, z⟩ := He.ba z
  obtain ⟨q4, z⟩ := He.ba z
  obtain ⟨q5, z⟩ := He.ba z
  obtain ⟨q6, z⟩ := He.ba z
  obtain ⟨q7, z⟩ := He.ba z
  obtain ⟨q8, z⟩ := He.ba z
  obtain ⟨q9, z⟩ := He.ba z
  obtain ⟨q10, z⟩ := He.ba z
  obtain ⟨q11, z⟩ := He.ba z
  obtain ⟨q12, z⟩ := He.ba z
  obtain ⟨q13, z⟩ := He.ba z
  obtain ⟨q14, z⟩ := He.ba z
  obtain ⟨q15, z⟩ := He.ba z
  obtain ⟨q16, z⟩ := He.ba z
  exact ⟨⟨q15, c.glo X G 47, q16, of_decide_eq_true q3, of_decide_eq_true z⟩, ⟨⟨He.eqO_ok q1, He.eqO_ok q2, of_decide_eq_true q3, q4, He.eqO_ok q5, He.eqO_ok q6, of_decide_eq_true q7, of_decide_eq_true q8⟩, of_decide_eq_true q9, of_decide_eq_true q10, of_decide_eq_true q11, of_decide_eq_true q12, of_decide_eq_true q13, of_decide_eq_true q14, by decide⟩⟩
theorem progv_of (c : Facts K) (X : K.In h) (G : h.Ns mainGlobals mg) : ProgV K mg := ⟨fn_makers_within c X G, fn_whole c X G, fn_whole_row c X G, fn_row_behind c X G, fn_row_until c X G, fn_row_unlike c X G⟩
theorem law_at {f : Addr} (X : K.In h) (G : h.Ns mainGlobals mg) (hfa : mg ("law" : Str) = some (.ref f)) (e : obsK K = valZ) (z : excsB K = true) (t : ∀ d ∈ tf, TabF K h d) : LamX.LawAtS PySem.Challenge.rw_drawchain_k05_whole_drawn_as_whole_rows w K CX0 56 63 "_law_script" mg f h := by
  have c := facts_of e
  unfold excsB at z
  have e2 := z
  obtain ⟨fd, F⟩ := c.def_ 28
  have e := hfa.symm.trans (c.glo X G 28)
  cases e
  have bb := FunD.bindsA (ps := ["_law_script"]) F fun _ _ _ _ _ _ us hl => match us, hl with | [_], _ => rfl
  have hcode : fd.code = .ref (He.cT K ("law", none)).1 := by
    obtain ⟨oc, od, dV, kV, doc, pm, an, cdv, ct, osl, rfl, lk, hcd, _, _⟩ := F.ex
    obtain ⟨cc, rfl⟩ := He.codeIn_ref hcd
    show Value.ref cc = .ref (He.codeOf K ("law", none))
    rw [He.codeOf_eq lk rfl]
  refine ⟨fd, [He.cT K ("law", none)], fun vs H Q E => ∃ ns : List Int, ns.length ≤ 63 ∧ spFz (spLawT K (He.cT K ("law", none)).2 ns) vs H Q E, fun p hp => ?_, fun p hp => ?_, fun p hp => ?_, fun s v => bb s [v] rfl, fun H a ns hl _ hH hS => ⟨ns, hl, ?_⟩, fun base _ _ tb => ?_⟩
  · rw [List.mem_singleton.mp hp]; exact (t ("law", none) (by simp [tf])).empty
  · rw [List.mem_singleton.mp hp]; exact (t ("law", none) (by simp [tf])).out
  · rw [List.mem_singleton.mp hp]; exact PySem.W.codeHd_of_K X (t ("law", none) (by simp [tf])).hd
  · have hH : ∀ p ∈ [He.cT K ("law", none)], H p.2 = some (.tbl #[]) := hH
    have hP0 := hH (He.cT K ("law", none)) (by simp)
    rcases hS with (hS | ⟨ob, hS⟩) | hS
    · exact .inr ⟨a, _, hS, fun o => ⟨a, rfl, .inl ⟨o, upd_same⟩, updF_ne hS hP0 (fun z => by cases z), fun _ => rfl⟩⟩
    · exact .inl ⟨a, rfl, .inl ⟨ob, hS⟩, hP0, fun _ => rfl⟩
    · exact .inl ⟨a, rfl, .inr fun H' => .inr hS, hP0, fun _ => rfl⟩
  · have tb' : ∀ p ∈ [He.cT K ("law", none)], LamX.TabB base mg p.1 p.2 := tb
    have TB0 := tb' (He.cT K ("law", none)) (by simp)
    have FF : ∀ ns : List Int, ns.length ≤ 63 → FnOk theP w K mg base CX0 56 (He.ga K "law") fd ["_law_script"] (spFz (spLawT K (He.cT K ("law", none)).2 ns)) := fun ns hl => fnFrz (law_fn (txt c X G) (proga_of c X G) (progm_of c) (progv_of c X G) (exc2_of c X G e2).1 (startl_of c X G) (chainsl_of c X G) (fn_first c X G) (fn__law_makers c X G) (fn__law_kind c X G) (kb_of c X G) (exc2_of c X G e2).2 F hcode TB0 hl)
    exact ⟨fun vs H Q E ⟨ns, hl, q⟩ => (FF ns hl).len vs H Q E q, fun A outer s H args us vs Q E hr e0 hb rv ⟨ns, hl, q⟩ => (FF ns hl).run A outer s H args us vs Q E hr e0 hb rv q⟩
end
end Dc

set_option Elab.async false
set_option linter.all false
set_option maxRecDepth 100000
set_option maxHeartbeats 0
open PySem PySem.W PySem.Calls PyProof.Rows
theorem PySem.Challenge.cw_drawchain_k05_whole_drawn_as_whole_rows_holds : PySem.Challenge.rw_drawchain_k05_whole_drawn_as_whole_rows.Holds := by
  w_on; o_law
  refine HandSHeadRun.head_any (r := OpenLaw.row PySem.Challenge.rw_drawchain_k05_whole_drawn_as_whole_rows) (q := view (OpenLaw.row PySem.Challenge.rw_drawchain_k05_whole_drawn_as_whole_rows).prog [63]) (H := Dc.hkZ) (ob := Dc.obZ) (M := 100000) (loose := Dc.looses) (d := HandSHeadRun.topDef (OpenLaw.row PySem.Challenge.rw_drawchain_k05_whole_drawn_as_whole_rows).prog 63) (kwd := []) Dc.obZ_eq
    (by kernel_rfl) (fun s => by kernel_rfl) Dc.run (by kernel_rfl) (by kernel_rfl) (by kernel_rfl) (by rfl) (by first | assumption | decide +kernel) (by decide +kernel) ⟨rfl, rfl, rfl, rfl, rfl, by decide +kernel⟩ ?hw ?hc
  case hw => w_witness2
  case hc =>
    refine LamX.walk_ofTsE (l := PySem.Challenge.rw_drawchain_k05_whole_drawn_as_whole_rows) (n := 63) (k := 56) (x := "_law_script") (CX := fun _ => L2.CX0) rfl (by decide) (by kernel_rfl) ⟨rfl, by decide, by decide⟩ ?F (fun _ _ _ _ _ z => z)
    intro w mg fa h Y G hmg0
    obtain ⟨K, KX, c, b, t⟩ := Y
    have hmg : mg ("law" : PySem.Str) = some (.ref fa) := by
      have e : (HandSHeadRun.topDef (OpenLaw.row PySem.Challenge.rw_drawchain_k05_whole_drawn_as_whole_rows).prog 63).name = ("law" : PySem.Str) := by kernel_rfl
      rw [← e]
      exact hmg0
    exact ⟨K, KX, Dc.law_at KX G hmg c b t⟩
