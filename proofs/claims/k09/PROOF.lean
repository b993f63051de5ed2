import PyProof.Rows.All
import Wide.All
import OpenK.AllK
import Wide.FinOn
import HandS.ForMost
import HandS.ForExc
import HandS.Wide
import HandS.DictTup
import HandS.SetKeys
import HandS.TryOnly
import HandS.ExcOwn
import HandS.IsInst
import HandS.Defaults
import HandS.Flow
import HandS.ExcInit
import HandS.HeadHook1
import HandS.HeadHook2
import HandS.HeadHook3
import HandS.HeadHook4
import KE.KStateDown
import Lean
import HandS.Head0
import HandS.Head1
import HandS.Head2
import HandS.HeadEnd
import HandS.ExcIs
import PyProof.Rows.MatchSeqLen
import PyProof.DictMoreH
import HandS.ExcField
import KE.KIsAll
import HandS.ClsMeth
import KE.KSuper
import HandS.FStr
import KE.KExcSuper
import HandS.TupAny
import HandS.Walk
import HandS.Lambda
import HandS.SetFor
import HandS.Iter
import HandS.StrMore
import HandS.Comp
import KE.GoesComp
import HandS.Text
import HandS.More
import HandS.Dict
import HandS.Evl
import PyProof.StrBlock2
import PyProof.Rows.StrMul
import HandS.HeadWalk
import PySem.Challenge.RW_drawchain_k09_written_and_read
set_option Elab.async false
set_option linter.all false
set_option maxRecDepth 100000
set_option maxHeartbeats 2000000
namespace Dc
open PySem PySem.Spec PyProof.Rows L2
/-! ### frames -/
/-- what nothing writes: a tuple, a locked thing -/
def fixd : HO → Bool
  | .tup _ => true
  | .frz _ _ => true
  | _ => false
/-- all that was tracked stands, but what lies in S (and may be written) -/
def Fr (S : List Addr) (H H' : Hp) : Prop := ∀ b o, H b = some o → (b ∉ S ∨ fixd o = true) → H' b = some o
theorem Fr.refl (S : List Addr) (H : Hp) : Fr S H H := fun _ _ h _ => h
theorem Fr.at {S : List Addr} {H H' : Hp} {b : Addr} {o : HO} (f : Fr S H H') (h : H b = some o) (n : b ∉ S) : H' b = some o := f b o h (.inl n)
theorem Fr.tp {S : List Addr} {H H' : Hp} {b : Addr} {xs : List V} (f : Fr S H H') (h : H b = some (.tup xs)) : H' b = some (.tup xs) := f b _ h (.inr rfl)
theorem Fr.fz {S : List Addr} {H H' : Hp} {b : Addr} {o : Obj} {u : HO} (f : Fr S H H') (h : H b = some (.frz o u)) : H' b = some (.frz o u) := f b _ h (.inr rfl)
theorem Fr.free {S : List Addr} {H H' : Hp} {b : Addr} (f : Fr S H H') (n : b ∉ S) (h : H' b = none) : H b = none := by
  cases q : H b with
  | none => rfl
  | some o => rw [f.at q n] at h; cases h
theorem Fr.mono {S S' : List Addr} {H H' : Hp} (f : Fr S H H') (h : ∀ b, b ∈ S → b ∈ S') : Fr S' H H' := fun b o e c =>
  f b o e (c.imp (fun n z => n (h b z)) id)
theorem Fr.trans {S S1 : List Addr} {H H1 H2 : Hp} (f : Fr S H H1) (g : Fr S1 H1 H2) (h : ∀ b, b ∈ S1 → b ∈ S ∨ H b = none) : Fr S H H2 := fun b o e c => by
  refine g b o (f b o e c) (c.imp (fun n z => ?_) id)
  rcases h b z with q | q
  · exact n q
  · rw [e] at q; cases q
theorem Fr.tr {S : List Addr} {H H1 H2 : Hp} (f : Fr S H H1) (g : Fr S H1 H2) : Fr S H H2 := f.trans g fun _ h => .inl h
theorem Fr.of_same {S : List Addr} {H H' : Hp} (s : ∀ b o, H b = some o → H' b = some o) : Fr S H H' := fun b o e _ => s b o e
/-- p holds nothing that must stand -/
def Loose (H : Hp) (p : Addr) : Prop := ∀ o, H p = some o → fixd o = false
theorem nt {H : Hp} {p : Addr} {u : HO} (h : H p = some u) (e : fixd u = false := by rfl) : Loose H p := fun o q => by
  rw [h] at q; cases q; exact e
theorem nt_none {H : Hp} {p : Addr} (h : H p = none) : Loose H p := fun o q => by rw [h] at q; cases q
/-- a new object -/
theorem Fr.new {S : List Addr} {H : Hp} {p : Addr} {o : HO} (h : H p = none) : Fr S H (upd H p o) := fun b u e _ => by
  rw [upd_ne (ne_of_none e h)]; exact e
/-- a thing of S is changed -/
theorem Fr.put {S : List Addr} {H : Hp} {p : Addr} {o : HO} (h : p ∈ S) (hp : Loose H p) : Fr S H (upd H p o) := fun b u e c => by
  have n : b ≠ p := fun z => by
    rcases c with q | q
    · rw [z] at q; exact q h
    · rw [z] at e; rw [hp _ e] at q; cases q
  rw [upd_ne n]; exact e
theorem Fr.putN {S : List Addr} {H H1 : Hp} {p : Addr} {o : HO} (f : Fr S H H1) (h : p ∈ S ∨ H p = none) (hp : Loose H1 p) : Fr S H (upd H1 p o) :=
  f.trans (Fr.put (S := [p]) List.mem_cons_self hp) fun b hb => by
    rw [List.mem_singleton] at hb; rw [hb]; exact h
theorem Fr.newN {S : List Addr} {H H1 : Hp} {p : Addr} {o : HO} (f : Fr S H H1) (h : H1 p = none) : Fr S H (upd H1 p o) := f.trans (Fr.new (S := []) h) fun b hb => by cases hb
theorem Fr.seqL {S : List Addr} {K : PySem.W.Frag} {H H' : Hp} {a : Addr} {xs : List V} (f : Fr S H H') (n : a ∉ S) (h : SqL K H a xs) : SqL K H' a xs := by
  rcases h with (h | ⟨o, h⟩) | h
  · exact .inl (.inl (f.at h n))
  · exact .inl (.inr ⟨o, f.fz h⟩)
  · exact .inr h
theorem Fr.seqT {S : List Addr} {K : PySem.W.Frag} {H H' : Hp} {a : Addr} {xs : List V} (f : Fr S H H') (h : SqT K H a xs) : SqT K H' a xs := by
  rcases h with (h | ⟨o, h⟩) | h
  · exact .inl (.inl (f.tp h))
  · exact .inl (.inr ⟨o, f.fz h⟩)
  · exact .inr h
theorem upd_keep {H : Hp} {a p : Addr} {o u : HO} (h : H a = some o) (n : H p = none) : upd H p u a = some o := by
  rw [upd_ne (ne_of_none h n)]; exact h
/-! ### callables by name -/
section
variable (P : Program) (w : World) (K : PySem.W.Frag) (mg : Str → Option Value) (base : Heap)
/-- the def that the module's name x stands for keeps the promise sp -/
def Cal (CX : CXT) (k : Nat) (x : Str) (ps : List Str) (sp : Sp) : Prop := ∃ f fd, FnOk P w K mg base CX k f fd ps sp ∧ Binds K fd ps [] ∧ PySem.W.keepIn K (.ref f) = true ∧ mg x = some (.ref f)
/-- the method m of the class at C -/
def CalM (CX : CXT) (k : Nat) (C : Addr) (m : Str) (ps : List Str) (sp : Sp) : Prop := ∃ f fd, FnOk P w K mg base CX k f fd ps sp ∧ Binds K fd ps [] ∧ Meth K C m f ∧ Cls K C
/-- the class x, at C, made by its __init__ -/
def CalI (CX : CXT) (k : Nat) (x : Str) (C : Addr) (ps : List Str) (sp : Sp) : Prop := ∃ f fd, FnOk P w K mg base CX k f fd ps sp ∧ Binds K fd ps [] ∧ Mk K C f ∧ mg x = some (.ref C)
end
section
variable {P : Program} {w : World} {K : PySem.W.Frag} {mg : Str → Option Value} {base : Heap} {CX : CXT} {k j : Nat} {x m : Str} {C : Addr} {ps : List Str} {sp sp' : Sp}
theorem Cal.mono (G : Cal P w K mg base CX j x ps sp) (h : j ≤ k) : Cal P w K mg base CX k x ps sp := let ⟨f, fd, F, r⟩ := G; ⟨f, fd, F.mono h, r⟩
theorem CalM.mono (G : CalM P w K mg base CX j C m ps sp) (h : j ≤ k) : CalM P w K mg base CX k C m ps sp := let ⟨f, fd, F, r⟩ := G; ⟨f, fd, F.mono h, r⟩
theorem CalI.mono (G : CalI P w K mg base CX j x C ps sp) (h : j ≤ k) : CalI P w K mg base CX k x C ps sp := let ⟨f, fd, F, r⟩ := G; ⟨f, fd, F.mono h, r⟩
theorem Cal.imp (G : Cal P w K mg base CX k x ps sp) (h : ∀ vs H Q E, sp' vs H Q E → sp vs H Q E) : Cal P w K mg base CX k x ps sp' := let ⟨f, fd, F, r⟩ := G; ⟨f, fd, F.imp h, r⟩
theorem CalM.imp (G : CalM P w K mg base CX k C m ps sp) (h : ∀ vs H Q E, sp' vs H Q E → sp vs H Q E) : CalM P w K mg base CX k C m ps sp' := let ⟨f, fd, F, r⟩ := G; ⟨f, fd, F.imp h, r⟩
end
section
variable {X : Cx} {CX : CXT} {k : Nat} {x m : Str} {C : Addr} {ps : List Str} {sp : Sp} {E : XK} {e o : Expr} {es : List Expr} {t : TA} {ta : TE} {p pos apos : Pos}
theorem pe_cal (G : Cal X.prog X.w X.K X.mg X.base CX k x ps sp) (hr : Room k X.A) (hx : Passes CX X E) (ha : PA X (e :: es) t) (hg : Gl X x := by rfl) (hdb : (x == ("__debug__" : Str)) = false := by decide)
    (he : starEach (e :: es) X.env = (false, eval e X.env) :: starEach es X.env := by rfl) (hpl : (backTo pos (starEach es X.env)).any (·.1) = false := by rfl) : PE X (.Call (.Name x p) (e :: es) [] pos) (tCall sp [] E t) := by
  obtain ⟨f, fd, F, b, kp, g⟩ := G
  exact pe_call F hr hg g kp b .nil hx ha hdb he hpl
end
/-! ### readings, a step at a time -/
section
variable {K : PySem.W.Frag} {σ : L2.St} {H : Hp} {i : Nat} {v x y : V} {ta tb te : TE} {t u : TT} {r : R2} {D : Ends} {s1 s2 : TS} {g : TG} {Q : VK} {a : Addr}
theorem rd_var (h : σ[i]? = some (some v)) (q : Q v H) : tVar i σ H Q := ⟨v, h, q⟩
theorem rd_c (q : Q v H) : tC v σ H Q := q
theorem rd_op (h : ta σ H fun x H1 => tb σ H1 fun y H2 => r x y H2 Q) : tOp r ta tb σ H Q := h
theorem rd_un {r : V → Hp → VK → Prop} (h : ta σ H fun x H1 => r x H1 Q) : tUn r ta σ H Q := h
theorem rd_test {Q : Bool → Hp → Prop} (h : te σ H fun x H' => ∃ k, x = .bl k ∧ Q k H') : tTest te σ H Q := h
theorem rd_B {Q : Bool → Hp → Prop} (h : te σ H fun x H' => ∃ k, x = .bl k ∧ Q k H') : tB te σ H Q := h
theorem rd_bl {b : Bool} {Q : Bool → Prop} (h : Q b) : ∃ k, V.bl b = .bl k ∧ Q k := ⟨b, rfl, h⟩
theorem rd_seq (h : s1 { D with nx := s2 D } σ H) : tSeq s1 s2 D σ H := h
theorem rd_next (h : D.nx σ H) : tNext D σ H := h
theorem rd_ifs (h : t σ H fun b H1 => if b = true then s1 D σ H1 else s2 D σ H1) : tIfS t s1 s2 D σ H := h
theorem rd_asg (h : te σ H fun x H1 => g x σ H1 D.nx) : tAsg te g D σ H := h
theorem rd_name {Q : L2.St → Hp → Prop} (h : Q (σ.set i (some v)) H) : gName i v σ H Q := h
theorem rd_ret (h : te σ H D.rt) : tRet te D σ H := h
theorem rd_drop (h : te σ H fun _ H1 => D.nx σ H1) : tDrop te D σ H := h
theorem rd_call {sp : Sp} {dvs : List V} {E : XK} {tl : TA} (h : tl σ H fun vs H1 => sp (vs ++ dvs) H1 Q E) : tCall sp dvs E tl σ H Q := h
theorem rd_cons {tl : TA} {Q : List V → Hp → Prop} (h : ta σ H fun x H1 => tl σ H1 fun xs H2 => Q (x :: xs) H2) : tCons ta tl σ H Q := h
theorem rd_nil {Q : List V → Hp → Prop} (h : Q [] H) : tNil σ H Q := h
theorem rd_cb {r : List V → Hp → VK → Prop} {tl : TA} (h : tl σ H fun vs H1 => r vs H1 Q) : tCB r tl σ H Q := h
theorem rd_I {C : Int → Int → Prop} {f : Int → Int → V} {i j : Int} (c : C i j) (q : Q (f i j) H) : rI C f (.int i) (.int j) H Q := ⟨i, j, rfl, rfl, c, q⟩
theorem rd_I0 {f : Int → Int → V} {i j : Int} (q : Q (f i j) H) : rI0 f (.int i) (.int j) H Q := ⟨i, j, rfl, rfl, q⟩
theorem rd_U {f : Int → V} {i : Int} (q : Q (f i) H) : rU f (.int i) H Q := ⟨i, rfl, q⟩
theorem rd_eq (s : scal x y = true) (q : Q (.bl (decide (x = y))) H) : rEq x y H Q := ⟨s, q⟩
theorem rd_ne (s : scal x y = true) (q : Q (.bl (!decide (x = y))) H) : rNe x y H Q := ⟨s, q⟩
theorem rd_ixL {p : Addr} {xs : List V} {i : Int} (h : SqL K H p xs) (e : atI xs i = some v) (q : Q v H) : rIxL K (.ref p) (.int i) H Q := ⟨p, xs, i, v, rfl, rfl, h, e, q⟩
theorem rd_ixT {p : Addr} {xs : List V} {i : Int} (h : SqT K H p xs) (e : atI xs i = some v) (q : Q v H) : rIxT K (.ref p) (.int i) H Q := ⟨p, xs, i, v, rfl, rfl, h, e, q⟩
theorem rd_gsub {to ti : TE} {ts : TSet} {Q : L2.St → Hp → Prop} (h : to σ H fun o H1 => ti σ H1 fun i H2 => ts o i v H2 fun H3 => Q σ H3) : gSub to ti ts v σ H Q := h
theorem rd_setL {p : Addr} {xs : List V} {k : Int} {j : Nat} {Q : Hp → Prop} (h : H p = some (.lst xs)) (e : ixN xs.length k = some j) (q : Q (upd H p (.lst (xs.set j v)))) : rSetL (.ref p) (.int k) v H Q := ⟨p, xs, k, j, rfl, rfl, h, e, q⟩
theorem rd_lst {tl : TA} (h : tl σ H fun xs H1 => xs.length ≤ sizeLine ∧ ∀ p, H1 p = none → Q (.ref p) (upd H1 p (.lst xs))) : tLst tl σ H Q := h
theorem rd_tup {tl : TA} (h : tl σ H fun xs H1 => xs.length ≤ sizeLine ∧ ∀ p, H1 p = none → Q (.ref p) (upd H1 p (.tup xs))) : tTup tl σ H Q := h
theorem rd_if (h : t σ H fun c H1 => if c = true then ta σ H1 Q else tb σ H1 Q) : tIf t ta tb σ H Q := h
theorem rd_and {Q : Bool → Hp → Prop} (h : t σ H fun c H1 => if c = true then u σ H1 Q else Q false H1) : tAnd t u σ H Q := h
theorem rd_or {Q : Bool → Hp → Prop} (h : t σ H fun c H1 => if c = true then Q true H1 else u σ H1 Q) : tOr t u σ H Q := h
theorem rd_not {Q : Bool → Hp → Prop} (h : t σ H fun c H1 => Q (!c) H1) : tNot t σ H Q := h
theorem rd_andV (h : ta σ H fun x H1 => ∃ c, x = .bl c ∧ if c = true then tb σ H1 Q else Q (.bl false) H1) : tAndV ta tb σ H Q := h
theorem rd_orV (h : ta σ H fun x H1 => ∃ c, x = .bl c ∧ if c = true then Q (.bl true) H1 else tb σ H1 Q) : tOrV ta tb σ H Q := h
theorem rd_notV (h : ta σ H fun x H1 => ∃ c, x = .bl c ∧ Q (.bl (!c)) H1) : tNotV ta σ H Q := h
theorem rd_blV {b : Bool} {Q : Bool → Hp → Prop} {A : Prop} (h : A) : ∃ k, V.bl b = .bl k ∧ A := ⟨b, rfl, h⟩
theorem rd_dec {c A B : Prop} [Decidable c] (h1 : c → A) (h2 : ¬ c → B) : if decide c = true then A else B := by
  by_cases h : c
  · rw [if_pos (decide_eq_true h)]; exact h1 h
  · rw [if_neg (by rw [decide_eq_false h]; decide)]; exact h2 h
theorem rd_ndec {c A B : Prop} [Decidable c] (h1 : ¬ c → A) (h2 : c → B) : if (!decide c) = true then A else B := by
  by_cases h : c
  · rw [if_neg (by rw [decide_eq_true h]; decide)]; exact h2 h
  · rw [if_pos (by rw [decide_eq_false h]; decide)]; exact h1 h
theorem rd_T {c A B : Prop} [Decidable c] (h : c) (h1 : A) : if decide c = true then A else B := by rw [if_pos (decide_eq_true h)]; exact h1
theorem rd_F {c A B : Prop} [Decidable c] (h : ¬ c) (h1 : B) : if decide c = true then A else B := by rw [if_neg (by rw [decide_eq_false h]; decide)]; exact h1
theorem rd_b {b : Bool} {A B : Prop} (h1 : b = true → A) (h2 : b = false → B) : if b = true then A else B := by
  cases b with
  | true => rw [if_pos rfl]; exact h1 rfl
  | false => rw [if_neg Bool.false_ne_true]; exact h2 rfl
theorem at_in {α : Type} {xs : List α} {i : Int} (h0 : 0 ≤ i) (h1 : i < xs.length) : ∃ v, v ∈ xs ∧ atI xs i = some v := by
  obtain ⟨j, rfl⟩ : ∃ j : Nat, i = (j : Int) := ⟨i.toNat, by omega⟩
  have hj : j < xs.length := by omega
  exact ⟨xs[j], List.getElem_mem hj, atI_nat (List.getElem?_eq_getElem hj)⟩
theorem rd_yes {Q : Bool → Hp → Prop} (h : Q true H) : tYes σ H Q := h
theorem rd_nF {A B : Prop} (h : A) : if (!false) = true then A else B := iteT h
theorem rd_nT {A B : Prop} (h : B) : if (!true) = true then A else B := iteF h
theorem rd_and_pure {b1 b2 : Bool} {Q : Bool → Hp → Prop} (h1 : ∀ Q : Bool → Hp → Prop, Q b1 H → t σ H Q) (h2 : ∀ Q : Bool → Hp → Prop, Q b2 H → u σ H Q) (h : Q (b1 && b2) H) : tAnd t u σ H Q := by
  refine h1 _ ?_
  cases b1 with
  | true => exact iteT (h2 _ (by simpa using h))
  | false => exact iteF (by simpa using h)
theorem rd_or_pure {b1 b2 : Bool} {Q : Bool → Hp → Prop} (h1 : ∀ Q : Bool → Hp → Prop, Q b1 H → t σ H Q) (h2 : ∀ Q : Bool → Hp → Prop, Q b2 H → u σ H Q) (h : Q (b1 || b2) H) : tOr t u σ H Q := by
  refine h1 _ ?_
  cases b1 with
  | false => exact iteF (h2 _ (by simpa using h))
  | true => exact iteT (by simpa using h)
theorem rd_b2 {b1 b2 : Bool} {A B : Prop} (h1 : b1 = true → b2 = true → A) (h2 : ¬ (b1 = true ∧ b2 = true) → B) : if (b1 && b2) = true then A else B := by
  cases b1 with
  | true => cases b2 with
    | true => exact iteT (h1 rfl rfl)
    | false => exact iteF (h2 (by simp))
  | false => exact iteF (h2 (by simp))
theorem rd_cat {l b : Addr} {xs zs : List V} (h : H l = some (.lst xs)) (h' : H b = some (.lst zs)) (hz : xs.length + zs.length ≤ sizeLine) (q : ∀ p, H p = none → Q (.ref p) (upd H p (.lst (xs ++ zs)))) : rCat (.ref l) (.ref b) H Q := ⟨l, b, xs, zs, rfl, rfl, h, h', hz, q⟩
theorem rd_bm {T : String} {r : V → List V → Hp → VK → Prop} {to : TE} {tl : TA} (h : to σ H fun x H1 => tyV K T x H1 ∧ tl σ H1 fun xs H2 => r x xs H2 Q) : tBM K T r to tl σ H Q := h
theorem rd_bm0 {T : String} {r : V → List V → Hp → VK → Prop} {to : TE} (h : to σ H fun x H1 => tyV K T x H1 ∧ r x [] H1 Q) : tBM0 K T r to σ H Q := h
theorem rd_append {l : Addr} {xs : List V} (h : H l = some (.lst xs)) (hz : xs.length < sizeLine) (q : Q .non (upd H l (.lst (xs ++ [y])))) : rAppend (.ref l) [y] H Q := ⟨l, xs, y, rfl, rfl, h, hz, q⟩
theorem tyl {K : PySem.W.Frag} {l : Addr} {xs : List V} (h : H l = some (.lst xs)) : tyV K "list" (.ref l) H := Or.inl ⟨rfl, _, SqL.of h⟩
/-- what is walked first, then the loop -/
theorem rd_for {wi : TI} {tb : TS} (h : wi σ H fun J H1 => tFor (fun _ _ R => R J H1) g tb D σ H1) : tFor wi g tb D σ H := h
theorem rd_rng1 {tl : TA} {R : It → Hp → Prop} (h : tl σ H fun vs H1 => ∃ j : Int, vs = [.int j] ∧ -(2 ^ 62) ≤ j ∧ j < 2 ^ 62 ∧ R (Itr 0 j.toNat) H1) : iRng1 tl σ H R := h
theorem rd_itup {R : It → Hp → Prop} (h : te σ H fun x H1 => ∃ a, x = .ref a ∧ (∃ xs, SqT K H1 a xs) ∧ R (Itt K a) H1) : iTup K te σ H R := h
theorem rd_ilst {R : It → Hp → Prop} (h : te σ H fun x H1 => ∃ a, x = .ref a ∧ (∃ xs, SqL K H1 a xs) ∧ R (Itl K a) H1) : iList K te σ H R := h
theorem rd_at {t : TS} {σ' : L2.St} (e : σ = σ') (h : t D σ' H) : t D σ H := e ▸ h
theorem upd_other {H : Hp} {a b : Addr} {o u : HO} (n : b ≠ a) (h : H b = some o) : upd H a u b = some o := by rw [upd_ne n]; exact h
theorem upd_none {H : Hp} {a b : Addr} {u : HO} (n : b ≠ a) (h : H b = none) : upd H a u b = none := by rw [upd_ne n]; exact h
end
/-- the rule for a def that lets nothing out -/
theorem ok0 {P : Program} {w : World} {K : PySem.W.Frag} {mg : Str → Option Value} {base : Heap} {x qual : Str} {params : Arguments} {body : List Stmt} {scope : Scope} {f : Addr} {fd : FuncData}
    {N ps : List Str} {k : Nat} {sp : Sp} (F : FunD K x qual params body scope [] [] f fd) (S : FnScope N ps scope) (len : ∀ vs H Q E, sp vs H Q E → vs.length = ps.length)
    (hbody : ∀ (cdv : Value) (A : Around) (outer : List Env) (s : Shared) (H : Hp) (vs : List V) (Q : VK) (E : XK), Room k (A.deeper (envOfC qual scope s.heap.objs.size f cdv)) → sp vs H Q E →
      ∃ t, PSs (cxOf CX0 P w K mg base N qual scope f cdv A outer s H E).nox body t ∧ t { nx := fun _ H' => Q .non H', rt := Q } (start N vs) H) : FnOk P w K mg base CX0 (k + 1) f fd ps sp := by
  refine F.ok S len fun cdv A outer s H vs Q E hr h => ?_
  obtain ⟨t, ht, q⟩ := hbody cdv A outer s H vs Q E hr h
  exact ⟨t, PSs.nox ht, q⟩
theorem cal_of {P : Program} {w : World} {K : PySem.W.Frag} {mg : Str → Option Value} {base : Heap} {CX : CXT} {k : Nat} {x qual y : Str} {params : Arguments} {body : List Stmt} {scope : Scope} {f : Addr} {fd : FuncData} {ps : List Str} {sp : Sp}
    (F : FunD K x qual params body scope [] [] f fd) (g : mg y = some (.ref f)) (ok : FnOk P w K mg base CX k f fd ps sp)
    (h : ∀ (kV doc pm : Value) (an : Option Addr) (cdv ct : Value) (us : List Value), us.length = ps.length → bindArgs (PySem.W.fnOf x qual params body scope .none kV doc pm an cdv ct) ⟨us, []⟩ = pure (ps.zip us)) :
    Cal P w K mg base CX k y ps sp := ⟨f, fd, ok, F.bindsN h, F.kp, g⟩
/-! ### built-ins, by named readings -/
def rLen1 (K : PySem.W.Frag) : List V → Hp → VK → Prop := fun xs H Q => ∃ p ys, xs = [.ref p] ∧ (SqL K H p ys ∨ SqT K H p ys) ∧ Q (.int ys.length) H
def rTupOf (K : PySem.W.Frag) : List V → Hp → VK → Prop := fun xs H Q => ∃ p ys, xs = [.ref p] ∧ ((SqL K H p ys ∧ ∀ l, H l = none → Q (.ref l) (upd H l (.tup ys))) ∨ (SqT K H p ys ∧ Q (.ref p) H))
def rListOf (K : PySem.W.Frag) : List V → Hp → VK → Prop := fun xs H Q => ∃ p ys, xs = [.ref p] ∧ (SqL K H p ys ∨ SqT K H p ys) ∧ ∀ l, H l = none → Q (.ref l) (upd H l (.lst ys))
def rMin2 : List V → Hp → VK → Prop := fun xs H Q => ∃ i j, xs = [.int i, .int j] ∧ Q (.int (if j < i then j else i)) H
section
variable {X : Cx}
theorem call_len1 : CallR X (.builtin "len") (rLen1 X.K) := call_len_seq
theorem call_tupOf : CallR X (.type "tuple") (rTupOf X.K) := call_tuple_of
theorem call_listOf : CallR X (.type "list") (rListOf X.K) := call_list_of
theorem call_min2n (hc : X.calm = true) : CallR X (.builtin "min") rMin2 := call_min2 hc
theorem ix_listK (K : PySem.W.Frag) (e : X.K = K := by rfl) : IxR X (rIxL K) := e ▸ ix_list
theorem ix_tupK (K : PySem.W.Frag) (e : X.K = K := by rfl) : IxR X (rIxT K) := e ▸ ix_tup
theorem ix_seqK (K : PySem.W.Frag) (e : X.K = K := by rfl) : IxR X (rIx K) := e ▸ ix_seq
theorem call_len1K (K : PySem.W.Frag) (e : X.K = K := by rfl) : CallR X (.builtin "len") (rLen1 K) := e ▸ call_len1
theorem call_tupOfK (K : PySem.W.Frag) (e : X.K = K := by rfl) : CallR X (.type "tuple") (rTupOf K) := e ▸ call_tupOf
theorem call_listOfK (K : PySem.W.Frag) (e : X.K = K := by rfl) : CallR X (.type "list") (rListOf K) := e ▸ call_listOf
theorem call_isiK1 (K : PySem.W.Frag) (e : X.K = K := by rfl) : CallR X (.builtin "isinstance") (rIsi K) := e ▸ call_isi
theorem call_isiTK (K : PySem.W.Frag) (e : X.K = K := by rfl) : CallR X (.builtin "isinstance") (rIsiT K) := e ▸ call_isiT
theorem cr_allK (K : PySem.W.Frag) (hc : X.calm = true) (e : X.K = K := by rfl) : CallR X (.builtin "all") (rAll K) := e ▸ cr_all hc
theorem op_in_seqK (K : PySem.W.Frag) (e : X.K = K := by rfl) : OpR X (compareOp .In) (rIn K false) := e ▸ op_in_seq
theorem op_eqDK (K : PySem.W.Frag) (hu : X.A.units + 64 < cLine) (e : X.K = K := by rfl) : OpR X (compareOp .Eq) (rEqD K) := e ▸ op_eqD hu
theorem op_neDK (K : PySem.W.Frag) (hu : X.A.units + 64 < cLine) (e : X.K = K := by rfl) : OpR X (compareOp .NotEq) (rNeD K) := e ▸ op_neD hu
theorem sl_tupK (K : PySem.W.Frag) (e : X.K = K := by rfl) : SlR X (rSlT K) := e ▸ sl_tup
theorem op_catTK (K : PySem.W.Frag) (e : X.K = K := by rfl) : OpR X (binaryOp .Add) (rCatT K) := e ▸ op_catT
theorem pe_cint {x : Str} {i : Int} {pos : Pos} (h : ∃ t, X.mg x = some (.int i t)) (hg : Gl X x := by rfl) (hd : (x == ("__debug__" : Str)) = false := by decide) : PE X (.Name x pos) (tC (.int i)) := by
  obtain ⟨t, e⟩ := h
  exact pe_glob hg e ⟨t, rfl⟩ hd
end
section
variable {K : PySem.W.Frag} {H : Hp} {v x y : V} {Q : VK} {a p : Addr} {xs : List V}
theorem rd_lenL (h : SqL K H p xs) (q : Q (.int xs.length) H) : rLen1 K [.ref p] H Q := ⟨p, xs, rfl, .inl h, q⟩
theorem rd_lenT (h : SqT K H p xs) (q : Q (.int xs.length) H) : rLen1 K [.ref p] H Q := ⟨p, xs, rfl, .inr h, q⟩
theorem rd_tupOf (h : SqL K H p xs) (q : ∀ l, H l = none → Q (.ref l) (upd H l (.tup xs))) : rTupOf K [.ref p] H Q := ⟨p, xs, rfl, .inl ⟨h, q⟩⟩
theorem rd_listOf (h : SqL K H p xs) (q : ∀ l, H l = none → Q (.ref l) (upd H l (.lst xs))) : rListOf K [.ref p] H Q := ⟨p, xs, rfl, .inl h, q⟩
theorem rd_min2 {i j : Int} (q : Q (.int (if j < i then j else i)) H) : rMin2 [.int i, .int j] H Q := ⟨i, j, rfl, q⟩
theorem rd_isi {A T : String} {b : Bool} (t : TyX K H x (.type A)) (e : kitB A T = some b) (q : Q (.bl b) H) : rIsi K [x, .ty T] H Q := ⟨x, .ty T, .type A, .type T, b, rfl, .ty T, t, kit_ty e, q⟩
theorem rd_isiT2 {A T1 T2 : String} {b1 b2 : Bool} (h : H p = some (.tup [.ty T1, .ty T2])) (t : TyX K H x (.type A)) (e1 : kitB A T1 = some b1) (e2 : kitB A T2 = some b2) (q : Q (.bl (b1 || b2)) H) : rIsiT K [x, .ref p] H Q := by
  refine ⟨x, p, _, .type A, [.type T1, .type T2], b1 || b2, rfl, h, .cons (.ty T1) (.cons (.ty T2) .nil), t, kitAny_cons (kit_ty e1) (fun h1 => ?_) (fun h1 => by rw [h1]; rfl), q⟩
  rw [h1, Bool.false_or]
  exact kitAny_cons (kit_ty e2) (fun h2 => by rw [h2]; rfl) (fun h2 => by rw [h2])
end
end Dc

set_option Elab.async false
set_option linter.all false
set_option maxRecDepth 100000
set_option maxHeartbeats 2000000
namespace Dc
open PySem PySem.Spec PyProof.Rows L2
/-! ### the text by places -/
def topS (i : Nat) : Stmt := PySem.Challenge.pw_drawchain_k09_written_and_read.main.body.getD i (.Pass ⟨0, 0, 0, 0⟩)
abbrev s_BadText___init__ : Stmt := inClass (topS 5) 0
abbrev s_check_chain : Stmt := topS 11
abbrev s_is_chain : Stmt := topS 12
abbrev s_is_pair : Stmt := topS 13
abbrev s_is_maker : Stmt := topS 14
abbrev s_is_row : Stmt := topS 15
abbrev s_is_stage : Stmt := topS 16
abbrev s_has_chain : Stmt := topS 17
abbrev s_is_within : Stmt := topS 18
abbrev s_is_number : Stmt := topS 19
abbrev s_written : Stmt := topS 24
abbrev s_words_of : Stmt := topS 25
abbrev s_words_of_maker : Stmt := topS 26
abbrev s_words_of_numbers : Stmt := topS 27
abbrev s_read_chain : Stmt := topS 28
abbrev s_chain_of : Stmt := topS 29
abbrev s_Begun___init__ : Stmt := inClass (topS 30) 0
abbrev s_Begun_chain : Stmt := inClass (topS 30) 1
abbrev s_Words___init__ : Stmt := inClass (topS 31) 0
abbrev s_Words_take : Stmt := inClass (topS 31) 1
abbrev s_Words_take_maker : Stmt := inClass (topS 31) 2
abbrev s_Words_take_row : Stmt := inClass (topS 31) 3
abbrev s_Words_take_numbers : Stmt := inClass (topS 31) 4
abbrev s_Words_number_of : Stmt := inClass (topS 31) 5
abbrev s_Words_check_end : Stmt := inClass (topS 31) 6
abbrev s_is_number_word : Stmt := topS 32
abbrev s__law_start : Stmt := topS 34
abbrev s__law_drawn : Stmt := topS 35
abbrev s__law_same : Stmt := topS 36
abbrev s__law_kind : Stmt := topS 37
abbrev s__law_number : Stmt := topS 38
abbrev s__law_maker : Stmt := topS 39
abbrev s__law_stage : Stmt := topS 40
abbrev s__law_chain : Stmt := topS 41
abbrev s__law_any : Stmt := topS 42
abbrev s__law_makers : Stmt := topS 43
abbrev s__law_words : Stmt := topS 44
abbrev s__law_place : Stmt := topS 45
abbrev s__law_parsed : Stmt := topS 46
abbrev s__law_stages : Stmt := topS 47
abbrev s__law_is_good : Stmt := topS 48
abbrev s__law_changed : Stmt := topS 49
abbrev s_law : Stmt := topS 50

structure Txt (K : PySem.W.Frag) (mg : Str → Option Value) : Prop where
  free_len : mg "len" = none
  free_range : mg "range" = none
  free_isinstance : mg "isinstance" = none
  free_tuple : mg "tuple" = none
  free_list : mg "list" = none
  free_int : mg "int" = none
  free_str : mg "str" = none
  free_bool : mg "bool" = none
  free_min : mg "min" = none
  free_all : mg "all" = none
  free_super : mg "super" = none
  c_FIRST_TOO_LARGE : ∃ t, mg "FIRST_TOO_LARGE" = some (.int 1000000000000000000000000000000 t)
  c_MAKERS_AT_MOST : ∃ t, mg "MAKERS_AT_MOST" = some (.int 4 t)
  c_STAGES_AT_MOST : ∃ t, mg "STAGES_AT_MOST" = some (.int 12 t)
  c_ROW_AT_MOST : ∃ t, mg "ROW_AT_MOST" = some (.int 100 t)
  c_FIGURES : ∃ t, mg "FIGURES" = some (.str "0123456789" t)
  c_FIGURES_AT_MOST : ∃ t, mg "FIGURES_AT_MOST" = some (.int 30 t)
  c_NUMBERS_OF : ∃ a es n, mg "NUMBERS_OF" = some (.ref a) ∧ K.lookup a = some ⟨.type "dict", none, .dict es n, #[]⟩

abbrev FnP (K : PySem.W.Frag) (x qual : Str) (st : Stmt) (f : Addr) (fd : FuncData) : Prop := FunD K x qual (defArgs st) (defBody st) (defScope st) [] [] f fd
end Dc

set_option Elab.async false
set_option linter.all false
set_option maxRecDepth 100000
set_option maxHeartbeats 4000000
namespace Dc
open PySem PySem.Spec PyProof.Rows L2
/-! ### an own exception class with an own __init__, looked at -/
def oexB (K : PySem.W.Frag) (C : Addr) : Bool := match K.lookup C with
  | some ⟨.type t, _, .cls cd, sl⟩ => decide (t = "type") && (match cd.mro, sl.toList with
    | .ref C' :: bm, [_, _, _, _, some (.builtin n), _] => decide (C' = C) && (decide (n = "ValueError.__new__") && (cd.hasDict && (!cd.hasDel && PySem.HandSPX.refsVE bm)))
    | _, _ => false)
  | _ => false
theorem oexB_ok {K : PySem.W.Frag} {C : Addr} (h : oexB K C = true) : ∃ nm q N bs bm sn sub ab col dd k0 k1 k2 k3 k5, K.lookup C = some (excClassObj nm q C N bs bm true sn sub ab col dd k0 k1 k2 k3 k5 "ValueError.__new__") ∧ PySem.HandSPX.refsVE bm = true := by
  unfold oexB at h
  split at h
  · rename_i t dd cd sl hK
    obtain ⟨h1, h2⟩ := He.ba h
    obtain ⟨nm, bs, mro, N, q, hd, sn, sub, ab, col, hdel⟩ := cd
    split at h2
    · rename_i C' bm s0 s1 s2 s3 n s5 hm hs
      obtain ⟨a1, h2⟩ := He.ba h2
      obtain ⟨a2, h2⟩ := He.ba h2
      obtain ⟨a3, h2⟩ := He.ba h2
      obtain ⟨a4, a5⟩ := He.ba h2
      have e1 := of_decide_eq_true a1
      have e2 := of_decide_eq_true a2
      have e0 := of_decide_eq_true h1
      have hm : mro = .ref C' :: bm := hm
      have b3 : hd = true := a3
      have b4 : hdel = false := by
        have a4 : (!hdel) = true := a4
        cases hdel with
        | false => rfl
        | true => cases a4
      have hs : sl = #[s0, s1, s2, s3, some (.builtin n), s5] := Array.toList_inj.mp hs
      clear a3 a4 a1 a2 h1
      subst e1 e2 e0 hm b3 b4 hs
      exact ⟨nm, q, N, bs, bm, sn, sub, ab, col, dd, s0, s1, s2, s3, s5, hK, a5⟩
    · cases h2
  · cases h
/-! ### the dict of how many numbers -/
def numK : List (Str × Int) := [("add", 1), ("times", 1), ("keep", 2), ("drop", 1), ("take", 1), ("each", 1), ("until", 1), ("unlike", 0)]
def numsB (K : PySem.W.Frag) (a : Addr) : Bool := numK.all fun q => match PySem.W.nsIn K a q.1 with
  | some (some (.int j _)) => decide (j = q.2)
  | _ => false
theorem numsB_ok {K : PySem.W.Frag} {a : Addr} (h : numsB K a = true) {q : Str × Int} (hq : q ∈ numK) : ∃ t, PySem.W.nsIn K a q.1 = some (some (.int q.2 t)) := by
  have h2 := List.all_eq_true.mp h q hq
  split at h2
  · rename_i j t e
    exact ⟨t, by rw [e, of_decide_eq_true h2]⟩
  · cases h2
end Dc

set_option Elab.async false
set_option linter.all false
set_option maxRecDepth 100000
set_option maxHeartbeats 0
namespace Dc
open PySem PySem.Spec PyProof.Rows L2
abbrev theP : Program := PySem.Challenge.pw_drawchain_k09_written_and_read
/-! ### what is looked at behind the top -/
def supW (K : PySem.W.Frag) (p : Str × Option Str) : He.FnW := match K.lookup (He.fAd K p) with
  | some ⟨_, _, .func fd, _⟩ => some (fd.name, fd.qualname, fd.params, fd.body, fd.scope, fd.globals, [], fd.builtins)
  | _ => none
def isNon : Value → Bool
  | .none => true
  | _ => false
def cellB (K : PySem.W.Frag) (D : Addr) : List (Str × Addr) → Bool
  | [(x, cc)] => decide (x = ("__class__" : Str)) && (match K.lookup cc with
    | some ⟨_, _, .cell (some (.ref d)), _⟩ => decide (d = D)
    | _ => false)
  | _ => false
def codeB (K : PySem.W.Frag) (qual : Str) (cd : Value) : Bool := match cd with
  | .ref cda => PySem.W.codeIn K (.ref cda) qual && (match K.lookup cda with
    | some ⟨_, _, .fields ws, _⟩ => (match (ws[2]? : Option Value) with
      | some (.str file _) => ((theP.main.file : Str) == file)
      | _ => false)
    | _ => false)
  | _ => false
def supXB (K : PySem.W.Frag) : Bool := match K.lookup (He.fAd K ("BadText", some "__init__")) with
  | some ⟨_, _, .func fd, _⟩ => isNon fd.defaults && (cellB K (He.ga K "BadText") fd.closure && codeB K "BadText.__init__" fd.code)
  | _ => false
def globs0 : List Str := ["check_chain", "is_chain", "is_pair", "is_maker", "is_row", "is_stage", "has_chain", "is_within", "is_number", "written", "words_of", "words_of_maker", "words_of_numbers", "read_chain", "chain_of", "is_number_word", "_law_start", "_law_drawn", "_law_same", "_law_kind", "_law_number", "_law_maker", "_law_stage", "_law_chain", "_law_any", "_law_makers", "_law_words", "_law_place", "_law_parsed", "_law_stages"]
def globs1 : List Str := ["_law_is_good", "_law_changed", "law", "DrawError", "BadChain", "BadMany", "NoWhole", "BadText", "Words", "Begun", "NUMBERS_OF"]
def globs : List Str := globs0 ++ globs1
def frees0 : List Str := ["len", "range", "isinstance", "tuple", "list", "int", "str", "bool", "min", "all", "super", "ValueError"]
def frees : List Str := frees0
def cons_0 : List (Str × Int) := [("FIRST_TOO_LARGE", 1000000000000000000000000000000), ("MAKERS_AT_MOST", 4), ("STAGES_AT_MOST", 12), ("ROW_AT_MOST", 100), ("FIGURES_AT_MOST", 30)]
def cons_ : List (Str × Int) := cons_0
def strs_0 : List (Str × Str) := [("FIGURES", "0123456789")]
def strs_ : List (Str × Str) := strs_0
def clss0 : List Str := ["Words", "Begun"]
def clss : List Str := clss0
def nas0 : List (Str × Str) := [("Words", "words"), ("Words", "place"), ("Begun", "word"), ("Begun", "maker"), ("Begun", "stages")]
def nas : List (Str × Str) := nas0
def mths0 : List (Str × Str) := [("Words", "take"), ("Words", "take_maker"), ("Words", "take_row"), ("Words", "take_numbers"), ("Words", "number_of"), ("Words", "check_end"), ("Begun", "chain")]
def mths : List (Str × Str) := mths0
def fns0 : List He.DefD := [⟨("check_chain", none), "check_chain", "check_chain", defArgs s_check_chain, defBody s_check_chain, defScope s_check_chain, [], []⟩, ⟨("is_chain", none), "is_chain", "is_chain", defArgs s_is_chain, defBody s_is_chain, defScope s_is_chain, [], []⟩, ⟨("is_pair", none), "is_pair", "is_pair", defArgs s_is_pair, defBody s_is_pair, defScope s_is_pair, [], []⟩, ⟨("is_maker", none), "is_maker", "is_maker", defArgs s_is_maker, defBody s_is_maker, defScope s_is_maker, [], []⟩, ⟨("is_row", none), "is_row", "is_row", defArgs s_is_row, defBody s_is_row, defScope s_is_row, [], []⟩, ⟨("is_stage", none), "is_stage", "is_stage", defArgs s_is_stage, defBody s_is_stage, defScope s_is_stage, [], []⟩, ⟨("has_chain", none), "has_chain", "has_chain", defArgs s_has_chain, defBody s_has_chain, defScope s_has_chain, [], []⟩, ⟨("is_within", none), "is_within", "is_within", defArgs s_is_within, defBody s_is_within, defScope s_is_within, [], []⟩, ⟨("is_number", none), "is_number", "is_number", defArgs s_is_number, defBody s_is_number, defScope s_is_number, [], []⟩, ⟨("written", none), "written", "written", defArgs s_written, defBody s_written, defScope s_written, [], []⟩, ⟨("words_of", none), "words_of", "words_of", defArgs s_words_of, defBody s_words_of, defScope s_words_of, [], []⟩, ⟨("words_of_maker", none), "words_of_maker", "words_of_maker", defArgs s_words_of_maker, defBody s_words_of_maker, defScope s_words_of_maker, [], []⟩, ⟨("words_of_numbers", none), "words_of_numbers", "words_of_numbers", defArgs s_words_of_numbers, defBody s_words_of_numbers, defScope s_words_of_numbers, [], []⟩, ⟨("read_chain", none), "read_chain", "read_chain", defArgs s_read_chain, defBody s_read_chain, defScope s_read_chain, [], []⟩, ⟨("chain_of", none), "chain_of", "chain_of", defArgs s_chain_of, defBody s_chain_of, defScope s_chain_of, [], []⟩, ⟨("is_number_word", none), "is_number_word", "is_number_word", defArgs s_is_number_word, defBody s_is_number_word, defScope s_is_number_word, [], []⟩, ⟨("_law_start", none), "_law_start", "_law_start", defArgs s__law_start, defBody s__law_start, defScope s__law_start, [], []⟩, ⟨("_law_drawn", none), "_law_drawn", "_law_drawn", defArgs s__law_drawn, defBody s__law_drawn, defScope s__law_drawn, [], []⟩, ⟨("_law_same", none), "_law_same", "_law_same", defArgs s__law_same, defBody s__law_same, defScope s__law_same, [], []⟩, ⟨("_law_kind", none), "_law_kind", "_law_kind", defArgs s__law_kind, defBody s__law_kind, defScope s__law_kind, [], []⟩, ⟨("_law_number", none), "_law_number", "_law_number", defArgs s__law_number, defBody s__law_number, defScope s__law_number, [], []⟩, ⟨("_law_maker", none), "_law_maker", "_law_maker", defArgs s__law_maker, defBody s__law_maker, defScope s__law_maker, [], []⟩, ⟨("_law_stage", none), "_law_stage", "_law_stage", defArgs s__law_stage, defBody s__law_stage, defScope s__law_stage, [], []⟩, ⟨("_law_chain", none), "_law_chain", "_law_chain", defArgs s__law_chain, defBody s__law_chain, defScope s__law_chain, [], []⟩, ⟨("_law_any", none), "_law_any", "_law_any", defArgs s__law_any, defBody s__law_any, defScope s__law_any, [], []⟩, ⟨("_law_makers", none), "_law_makers", "_law_makers", defArgs s__law_makers, defBody s__law_makers, defScope s__law_makers, [], []⟩, ⟨("_law_words", none), "_law_words", "_law_words", defArgs s__law_words, defBody s__law_words, defScope s__law_words, [], []⟩, ⟨("_law_place", none), "_law_place", "_law_place", defArgs s__law_place, defBody s__law_place, defScope s__law_place, [], []⟩, ⟨("_law_parsed", none), "_law_parsed", "_law_parsed", defArgs s__law_parsed, defBody s__law_parsed, defScope s__law_parsed, [], []⟩, ⟨("_law_stages", none), "_law_stages", "_law_stages", defArgs s__law_stages, defBody s__law_stages, defScope s__law_stages, [], []⟩]
def fns1 : List He.DefD := [⟨("_law_is_good", none), "_law_is_good", "_law_is_good", defArgs s__law_is_good, defBody s__law_is_good, defScope s__law_is_good, [], []⟩, ⟨("_law_changed", none), "_law_changed", "_law_changed", defArgs s__law_changed, defBody s__law_changed, defScope s__law_changed, [], []⟩, ⟨("law", none), "law", "law", defArgs s_law, defBody s_law, defScope s_law, [], []⟩, ⟨("Words", some "__init__"), "__init__", "Words.__init__", defArgs s_Words___init__, defBody s_Words___init__, defScope s_Words___init__, [], []⟩, ⟨("Begun", some "__init__"), "__init__", "Begun.__init__", defArgs s_Begun___init__, defBody s_Begun___init__, defScope s_Begun___init__, [], []⟩, ⟨("Words", some "take"), "take", "Words.take", defArgs s_Words_take, defBody s_Words_take, defScope s_Words_take, [], []⟩, ⟨("Words", some "take_maker"), "take_maker", "Words.take_maker", defArgs s_Words_take_maker, defBody s_Words_take_maker, defScope s_Words_take_maker, [], []⟩, ⟨("Words", some "take_row"), "take_row", "Words.take_row", defArgs s_Words_take_row, defBody s_Words_take_row, defScope s_Words_take_row, [], []⟩, ⟨("Words", some "take_numbers"), "take_numbers", "Words.take_numbers", defArgs s_Words_take_numbers, defBody s_Words_take_numbers, defScope s_Words_take_numbers, [], []⟩, ⟨("Words", some "number_of"), "number_of", "Words.number_of", defArgs s_Words_number_of, defBody s_Words_number_of, defScope s_Words_number_of, [], []⟩, ⟨("Words", some "check_end"), "check_end", "Words.check_end", defArgs s_Words_check_end, defBody s_Words_check_end, defScope s_Words_check_end, [], []⟩, ⟨("Begun", some "chain"), "chain", "Begun.chain", defArgs s_Begun_chain, defBody s_Begun_chain, defScope s_Begun_chain, [], []⟩]
def fns : List He.DefD := fns0 ++ fns1
def supD : List He.DefD := [⟨("BadText", some "__init__"), "__init__", "BadText.__init__", defArgs s_BadText___init__, defBody s_BadText___init__, defScope s_BadText___init__, [], []⟩]
def exc0B (K : PySem.W.Frag) : Bool := (He.eqO (PySem.W.findIn K (.ref (He.ga K "BadChain")) "__getattribute__") (some (some (.builtin "BaseException.__getattribute__"))) && (He.eqO (PySem.W.findIn K (.ref (He.ga K "BadChain")) "__getattr__") (some none) && (decide (PySem.W.subIn K (.ref (He.ga K "BadChain")) (.type "BaseException") = some true) && (PySem.W.hasDictIn K (He.ga K "BadChain") && (He.eqO (PySem.W.findIn K (.ref (He.ga K "BadChain")) "__class__") (some (some (.builtin "object.__class__"))) && (He.eqO (PySem.W.specialIn K (.builtin "object.__class__") "__get__") (some (some (.builtin "getset_descriptor.__get__"))) && (decide (PySem.W.takesIn K (.builtin "object.__class__") = some true) && (decide (PySem.W.mroIn K (He.ga K "BadChain") (.type "object") = some true) && (decide (PySem.W.exmOne K (.ref (He.ga K "BadChain")) (.ref (He.ga K "DrawError")) = some true) && (decide (PySem.W.kitOne K (.ref (He.ga K "BadChain")) (.ref (He.ga K "BadChain")) = some true) && (decide (PySem.W.kitOne K (.ref (He.ga K "BadChain")) (.ref (He.ga K "BadMany")) = some false) && (decide (PySem.W.kitOne K (.ref (He.ga K "BadChain")) (.ref (He.ga K "NoWhole")) = some false) && (decide (PySem.W.kitOne K (.ref (He.ga K "BadChain")) (.ref (He.ga K "BadText")) = some false) && (decide (PySem.W.kitOne K (.ref (He.ga K "BadChain")) (.type "ValueError") = some true) && (PySem.W.excIn K (He.ga K "BadChain") [Value.type "ValueError", Value.type "Exception", Value.type "BaseException", Value.type "object"] "ValueError.__new__" && (PySem.W.keepIn K (.ref (He.ga K "BadChain")) && decide (PySem.W.typeIn K (.ref (He.ga K "BadChain")) = some (.type "type"))))))))))))))))))
def exc3B (K : PySem.W.Frag) : Bool := (He.eqO (PySem.W.findIn K (.ref (He.ga K "BadText")) "__getattribute__") (some (some (.builtin "BaseException.__getattribute__"))) && (He.eqO (PySem.W.findIn K (.ref (He.ga K "BadText")) "__getattr__") (some none) && (decide (PySem.W.subIn K (.ref (He.ga K "BadText")) (.type "BaseException") = some true) && (PySem.W.hasDictIn K (He.ga K "BadText") && (He.eqO (PySem.W.findIn K (.ref (He.ga K "BadText")) "__class__") (some (some (.builtin "object.__class__"))) && (He.eqO (PySem.W.specialIn K (.builtin "object.__class__") "__get__") (some (some (.builtin "getset_descriptor.__get__"))) && (decide (PySem.W.takesIn K (.builtin "object.__class__") = some true) && (decide (PySem.W.mroIn K (He.ga K "BadText") (.type "object") = some true) && (decide (PySem.W.exmOne K (.ref (He.ga K "BadText")) (.ref (He.ga K "DrawError")) = some true) && (decide (PySem.W.kitOne K (.ref (He.ga K "BadText")) (.ref (He.ga K "BadChain")) = some false) && (decide (PySem.W.kitOne K (.ref (He.ga K "BadText")) (.ref (He.ga K "BadMany")) = some false) && (decide (PySem.W.kitOne K (.ref (He.ga K "BadText")) (.ref (He.ga K "NoWhole")) = some false) && (decide (PySem.W.kitOne K (.ref (He.ga K "BadText")) (.ref (He.ga K "BadText")) = some true) && (decide (PySem.W.kitOne K (.ref (He.ga K "BadText")) (.type "ValueError") = some true) && (oexB K (He.ga K "BadText") && (PySem.W.keepIn K (.ref (He.ga K "BadText")) && (decide (PySem.W.typeIn K (.ref (He.ga K "BadText")) = some (.type "type")) && (He.eqO (PySem.W.findIn K (.ref (He.ga K "BadText")) "__setattr__") (some (some (.builtin "object.__setattr__"))) && (He.eqO (PySem.W.findIn K (.ref (He.ga K "BadText")) "place") (some none) && (He.eqO (PySem.W.findIn K (.ref (He.ga K "BadText")) "__init__") (some (some (.ref (He.ma K (He.ga K "BadText") "__init__")))) && (decide (PySem.W.typeIn K (.ref (He.ma K (He.ga K "BadText") "__init__")) = some (.type "function")) && (decide (PySem.W.mroIn K (He.ga K "BadText") (.ref (He.ga K "BadText")) = some true) && (He.eqO (PySem.W.ks_superIn K (He.ga K "BadText") (He.ga K "BadText") "__init__") (some (some (.builtin "ValueError.__init__"))) && (decide (PySem.W.subIn K (.ref (He.ga K "BadText")) (.type "ValueError") = some true) && (He.eqO (PySem.W.nsIn K cStatics "thirdparty.any") (some none) && supXB K)))))))))))))))))))))))))
def exB (K : PySem.W.Frag) : Bool := (globs.all fun x => (He.Fa.glo x).ok K) && ((frees.all fun x => (He.Fa.free x).ok K) && ((cons_.all fun q => (He.Fa.int q.1 q.2).ok K) && ((strs_.all fun q => (He.Fa.str q.1 q.2).ok K) && ((clss.all fun x => (He.Fa.cls x).ok K) && ((nas.all fun q => (He.Fa.noat q.1 q.2).ok K) && ((mths.all fun q => (He.Fa.meth q.1 q.2).ok K) && ((clss.all fun x => (He.Fa.mkr x).ok K) && (exc0B K && (exc3B K && numsB K (He.ga K "NUMBERS_OF"))))))))))
abbrev AlZ : Type := Bool × Bool × List He.FnW × List He.FnW × Option (List (Option (Str × Int)))
def tf : List He.Defn := [("law", none)]
def obsZ (g : Addr → Option Obj) (K : PySem.W.Frag) : AlZ := (exB K && fns.all fun d => d.ok K, He.tabsB g tf K, fns.map fun d => He.fnW K d.at_, supD.map fun d => supW K d.at_, He.dicW K (He.ga K "NUMBERS_OF"))
def valZ (w : World) : AlZ := (true, true, fns.map He.DefD.val, supD.map He.DefD.val, some (He.keysIn w.params (numK.map (·.1))))
abbrev kz (g : Addr → Option Obj) : PySem.W.Frag := He.frT g (He.asD g 4 ++ [cStatics])
/-- the law's code object, its table: empty, not in K -/
structure TabF (K : PySem.W.Frag) (h : Heap) : Prop where
  hd : PySem.W.codeHdIn K (He.cT K ("law", none)).1 (He.cT K ("law", none)).2 = true
  out : K.lookup (He.cT K ("law", none)).2 = none
  empty : h.get? (He.cT K ("law", none)).2 = some { cls := .none, data := .fields #[] }
structure FactsZ (w : World) (K : PySem.W.Frag) : Prop where
  ex : (exB K && fns.all fun d => d.ok K) = true
  fnw : (fns.map fun d => He.fnW K d.at_) = fns.map He.DefD.val
  supw : (supD.map fun d => supW K d.at_) = supD.map He.DefD.val
  dic : He.dicW K (He.ga K "NUMBERS_OF") = some (He.keysIn w.params (numK.map (·.1)))
theorem saysZ {w : World} {h : Heap} (e : obsZ h.get? (kz h.get?) = valZ w) : FactsZ w (kz h.get?) ∧ TabF (kz h.get?) h := by
  have e1 : (exB (kz h.get?) && fns.all fun d => d.ok (kz h.get?)) = true := congrArg (fun z : AlZ => z.1) e
  have e2 : He.tabsB h.get? tf (kz h.get?) = true := congrArg (fun z : AlZ => z.2.1) e
  have e3 : (fns.map fun d => He.fnW (kz h.get?) d.at_) = fns.map He.DefD.val := congrArg (fun z : AlZ => z.2.2.1) e
  have e4 : (supD.map fun d => supW (kz h.get?) d.at_) = supD.map He.DefD.val := congrArg (fun z : AlZ => z.2.2.2.1) e
  have e5 : He.dicW (kz h.get?) (He.ga (kz h.get?) "NUMBERS_OF") = some (He.keysIn w.params (numK.map (·.1))) := congrArg (fun z : AlZ => z.2.2.2.2) e
  obtain ⟨h3, h4⟩ := He.ba (List.all_eq_true.mp e2 ("law", none) List.mem_cons_self)
  refine ⟨⟨e1, e3, e4, e5⟩, h3, ?_, ?_⟩
  · cases q : h.get? (He.cT (kz h.get?) ("law", none)).2 with
    | none =>
      rw [q] at h4
      cases h4
    | some o =>
      rw [q] at h4
      exact He.frT_none q h4
  · cases q : h.get? (He.cT (kz h.get?) ("law", none)).2 with
    | none =>
      rw [q] at h4
      cases h4
    | some o =>
      rw [q] at h4
      rw [He.emptyTab_eq h4]
def hkZ : PySem.W.Hook where
  α := AlZ
  obs := fun s => obsZ s.heap.get? (kz s.heap.get?)
  val := fun w => valZ w
  says := fun w h => ∃ K : PySem.W.Frag, K.In h ∧ FactsZ w K ∧ TabF K h
  of := fun _ _ e => ⟨_, He.frT_in, (saysZ e).1, (saysZ e).2⟩
  keeps := fun _ _ _ ⟨K, hK, c, t⟩ k => ⟨K, PySem.W.Frag.In.keeps hK k, c, t.hd, t.out, k _ _ t.empty⟩
def obZ (s : PySem.W.SharedT) : AlZ := obsZ (HandSHeadRun.getT s) (kz (HandSHeadRun.getT s))
theorem obZ_eq (s : PySem.W.SharedT) : obZ s = hkZ.obs s.abs := by
  have e : HandSHeadRun.getT s = s.abs.heap.get? := funext (HandSHeadRun.getT_eq s)
  show obsZ (HandSHeadRun.getT s) (kz (HandSHeadRun.getT s)) = obsZ s.abs.heap.get? (kz s.abs.heap.get?)
  rw [e]
abbrev theR : PySem.W.OpenRow := PySem.W.OpenLaw.row PySem.Challenge.rw_drawchain_k09_written_and_read
def loose0 : List PySem.Str := ["DrawError", "BadChain", "BadMany", "NoWhole", "BadText", "FIRST_TOO_LARGE", "MAKERS_AT_MOST", "STAGES_AT_MOST", "ROW_AT_MOST", "check_chain", "is_chain", "is_pair", "is_maker", "is_row", "is_stage", "has_chain", "is_within", "is_number", "FIGURES", "FIGURES_AT_MOST", "NUMBERS_OF", "written", "words_of", "words_of_maker", "words_of_numbers", "read_chain", "chain_of", "Begun", "Words", "is_number_word"]
def loose1 : List PySem.Str := ["_law_start", "_law_drawn", "_law_same", "_law_kind", "_law_number", "_law_maker", "_law_stage", "_law_chain", "_law_any", "_law_makers", "_law_words", "_law_place", "_law_parsed", "_law_stages", "_law_is_good", "_law_changed"]
def looses : List PySem.Str := loose0 ++ loose1
/-- the run asks whether a special's __get__ may raise (a text key's hash): told apart -/
def wB (w : World) (b : Bool) : World := { w with params := { w.params with followText := fun s => match s == "special-get-raises" with | true => b | false => w.params.followText s } }
theorem wB_eq (w : World) : wB w (w.params.followText "special-get-raises") = w := by
  have e : (fun s : String => match s == "special-get-raises" with | true => w.params.followText "special-get-raises" | false => w.params.followText s) = w.params.followText := by
    funext s
    cases h : s == "special-get-raises" with
    | true => rw [eq_of_beq h]
    | false => rfl
  unfold wB
  rw [e]
theorem runT (w : World) : HandSHeadRun.RunEq theR (PySem.W.view theR.prog [50]) hkZ obZ 100000 looses (wB w true) := by
  intro os
  kernel_rfl
theorem runF (w : World) : HandSHeadRun.RunEq theR (PySem.W.view theR.prog [50]) hkZ obZ 100000 looses (wB w false) := by
  intro os
  kernel_rfl
theorem run (w : World) : HandSHeadRun.RunEq theR (PySem.W.view theR.prog [50]) hkZ obZ 100000 looses w := by
  have e := wB_eq w
  cases h : w.params.followText "special-get-raises" with
  | true => rw [h] at e; rw [← e]; exact runT w
  | false => rw [h] at e; rw [← e]; exact runF w
end Dc

set_option Elab.async false
set_option linter.all false
set_option maxRecDepth 100000
set_option maxHeartbeats 2000000
namespace Dc
open PySem PySem.Spec PyProof.Rows L2
/-! ### methods by name -/
section
variable {X : Cx} {CX : CXT} {k : Nat} {x m : Str} {C : Addr} {ps : List Str} {sp : Sp} {E : XK} {e o : Expr} {es : List Expr} {t : TA} {ta : TE} {p pos apos : Pos}
theorem pe_cm {pl : Sem Bool} (he : PE X o ta) (G : CalM X.prog X.w X.K X.mg X.base CX k C m ps sp) (hr : Room k X.A) (hx : Passes CX X E) (ha : PA X (e :: es) t)
    (hst : starEach (e :: es) X.env = (false, eval e X.env) :: starEach es X.env := by rfl) (hpl : (backTo pos (starEach es X.env)).any (·.1) = false := by rfl)
    (ht : eval (.Call (.Attribute o m apos) (e :: es) [] pos) X.env = (do
      let ov ← eval o X.env
      standAt apos.atName
      let (f, first) ← holding [ov] (getMethod ov m pl)
      callWith pos f first (backTo pos (starEach (e :: es) X.env)) (backToKw pos (keywordEach [] X.env))) := by rfl) :
    PE X (.Call (.Attribute o m apos) (e :: es) [] pos) (tMeth C m sp [] E ta t) := by
  obtain ⟨f, fd, F, b, hm, c⟩ := G
  exact pe_meth he c hm F hr b .nil hx ha hst hpl ht
theorem pe_cm0 {pl : Sem Bool} (he : PE X o ta) (G : CalM X.prog X.w X.K X.mg X.base CX k C m ps sp) (hr : Room k X.A) (hx : Passes CX X E)
    (ht : eval (.Call (.Attribute o m apos) [] [] pos) X.env = (do
      let ov ← eval o X.env
      standAt apos.atName
      let (f, first) ← holding [ov] (getMethod ov m pl)
      callWith pos f first (backTo pos (starEach [] X.env)) (backToKw pos (keywordEach [] X.env))) := by rfl) :
    PE X (.Call (.Attribute o m apos) [] [] pos) (tMeth C m sp [] E ta tNil) := by
  obtain ⟨f, fd, F, b, hm, c⟩ := G
  exact pe_meth0 he c hm F hr b .nil hx ht
/-- o.m(), o an instance of one of the classes Cs, each of which keeps the same promise -/
def tDyn (Cs : Addr → Prop) (m : Str) (sp : Addr → Sp) (E : XK) (ta : TE) : TE := fun σ H Q => ta σ H fun x H1 => ∃ a C dx fs, x = .ref a ∧ Cs C ∧ H1 a = some (.ins C dx fs) ∧ fs.lookup m = none ∧ sp C [.ref a] H1 Q E
theorem pe_dyn0 {Cs : Addr → Prop} {sp : Addr → Sp} {pl : Sem Bool} (he : PE X o ta) (G : ∀ C, Cs C → CalM X.prog X.w X.K X.mg X.base CX k C m ps (sp C)) (hr : Room k X.A) (hx : Passes CX X E)
    (ht : eval (.Call (.Attribute o m apos) [] [] pos) X.env = (do
      let ov ← eval o X.env
      standAt apos.atName
      let (f, first) ← holding [ov] (getMethod ov m pl)
      callWith pos f first (backTo pos (starEach [] X.env)) (backToKw pos (keywordEach [] X.env))) := by rfl) :
    PE X (.Call (.Attribute o m apos) [] [] pos) (tDyn Cs m sp E ta) := by
  refine ⟨fun pins s σ H Q I h => ?_⟩
  refine PySem.W.methodCall_KW (pl := pl) (thn (he.run pins s σ H _ I h) fun u s1 ⟨x, H1, I1, rx, a, C, dx, fs, ex, hC, ea, l, q⟩ => ?_) ht
  subst ex
  obtain rfl : u = Value.ref a := rx
  obtain ⟨f, fd, F, b, hm, c⟩ := G C hC
  refine getmeth_ok I1 ea c hm l ?_
  exact PySem.W.callWith_K0 (first := [.ref a]) I1.kIn hm.kp (run_fn (us := [.ref a]) (vs := [.ref a]) (dvs := []) F hr b .nil hx I1 (.cons rfl .nil) q)
theorem pe_mk (G : CalI X.prog X.w X.K X.mg X.base CX k x C ps sp) (hr : Room (k + 1) X.A) (hx : Passes CX X E) (ha : PA X (e :: es) t) (hg : Gl X x := by rfl) (hdb : (x == ("__debug__" : Str)) = false := by decide)
    (he : starEach (e :: es) X.env = (false, eval e X.env) :: starEach es X.env := by rfl) (hpl : (backTo pos (starEach es X.env)).any (·.1) = false := by rfl) :
    PE X (.Call (.Name x p) (e :: es) [] pos) (tMake C sp [] E t) := by
  obtain ⟨f, fd, F, b, M, g⟩ := G
  exact pe_make M F hr hg g b .nil hx ha hdb he hpl
theorem pe_mk0 (G : CalI X.prog X.w X.K X.mg X.base CX k x C ps sp) (hr : Room (k + 1) X.A) (hx : Passes CX X E) (hg : Gl X x := by rfl) (hdb : (x == ("__debug__" : Str)) = false := by decide) :
    PE X (.Call (.Name x p) [] [] pos) (tMake C sp [] E tNil) := by
  obtain ⟨f, fd, F, b, M, g⟩ := G
  exact pe_make0 M F hr hg g b .nil hx hdb
end
section
variable {K : PySem.W.Frag} {σ : L2.St} {H : Hp} {i : Nat} {v x y : V} {ta tb te tv : TE} {Q : VK} {a C dx : Addr} {fs : List (Str × V)} {f m : Str} {sp : Sp} {E : XK} {t : TA} {D : Ends}
theorem rd_fld (h : ta σ H fun x H1 => ∃ a C dx fs v, x = .ref a ∧ H1 a = some (.ins C dx fs) ∧ Cls K C ∧ NoAttr K C f ∧ fs.lookup f = some v ∧ Q v H1) : tFld K ta f σ H Q := h
theorem rd_f (h : H a = some (.ins C dx fs)) (c : Cls K C) (n : NoAttr K C f) (l : fs.lookup f = some v) (q : Q v H) : ∃ a' C dx fs v, V.ref a = .ref a' ∧ H a' = some (.ins C dx fs) ∧ Cls K C ∧ NoAttr K C f ∧ fs.lookup f = some v ∧ Q v H := ⟨a, C, dx, fs, v, rfl, h, c, n, l, q⟩
/-- self.f -/
theorem rd_sf (hs : σ[i]? = some (some (.ref a))) (h : H a = some (.ins C dx fs)) (c : Cls K C) (n : NoAttr K C f) (l : fs.lookup f = some v) (q : Q v H) : tFld K (tVar i) f σ H Q := ⟨_, hs, a, C, dx, fs, v, rfl, h, c, n, l, q⟩
/-- o.f = e -/
theorem rd_fset (h : tv σ H fun y H1 => ta σ H1 fun x H2 => ∃ a C dx fs, x = .ref a ∧ H2 a = some (.ins C dx fs) ∧ Cls K C ∧ NoAttr K C f ∧ fs.length < 1000 ∧ D.nx σ (upd H2 a (.ins C dx (putF f y fs)))) : sFld K ta tv f D σ H := h
theorem rd_st (h : H a = some (.ins C dx fs)) (c : Cls K C) (n : NoAttr K C f) (l : fs.length < 1000) (q : D.nx σ (upd H a (.ins C dx (putF f y fs)))) :
    ∃ a' C dx fs, V.ref a = .ref a' ∧ H a' = some (.ins C dx fs) ∧ Cls K C ∧ NoAttr K C f ∧ fs.length < 1000 ∧ D.nx σ (upd H a' (.ins C dx (putF f y fs))) := ⟨a, C, dx, fs, rfl, h, c, n, l, q⟩
/-- o.f += e -/
theorem rd_faug {rd : V → V → Hp → VK → Prop} (hs : σ[i]? = some (some (.ref a))) (h : H a = some (.ins C dx fs)) (c : Cls K C) (n : NoAttr K C f) (l : fs.lookup f = some v)
    (q : tv σ H fun y H2 => rd v y H2 fun z H3 => ∃ dx2 fs2, H3 a = some (.ins C dx2 fs2) ∧ fs2.length < 1000 ∧ D.nx σ (upd H3 a (.ins C dx2 (putF f z fs2)))) : sFldAug K (tVar i) tv rd f D σ H := ⟨_, hs, a, C, dx, fs, v, rfl, h, c, n, l, q⟩
theorem rd_ri {g : Int → Int → Int} {i j : Int} (q : Q (.int (g i j)) H) : (fun (x y : V) (H : Hp) (Q : VK) => ∃ i j, x = .int i ∧ y = .int j ∧ Q (.int (g i j)) H) (.int i) (.int j) H Q := ⟨i, j, rfl, rfl, q⟩
theorem rd_meth (h : ta σ H fun x H1 => ∃ a dx fs, x = .ref a ∧ H1 a = some (.ins C dx fs) ∧ fs.lookup m = none ∧ t σ H1 fun vs H2 => sp (x :: (vs ++ [])) H2 Q E) : tMeth C m sp [] E ta t σ H Q := h
theorem rd_m (h : H a = some (.ins C dx fs)) (l : fs.lookup m = none) (q : t σ H fun vs H2 => sp (.ref a :: (vs ++ [])) H2 Q E) : ∃ a' dx fs, V.ref a = .ref a' ∧ H a' = some (.ins C dx fs) ∧ fs.lookup m = none ∧ t σ H fun vs H2 => sp (V.ref a :: (vs ++ [])) H2 Q E := ⟨a, dx, fs, rfl, h, l, q⟩
theorem rd_dyn {Cs : Addr → Prop} {sp : Addr → Sp} (h : ta σ H fun x H1 => ∃ a C dx fs, x = .ref a ∧ Cs C ∧ H1 a = some (.ins C dx fs) ∧ fs.lookup m = none ∧ sp C [.ref a] H1 Q E) : tDyn Cs m sp E ta σ H Q := h
theorem rd_d {Cs : Addr → Prop} {sp : Addr → Sp} (hC : Cs C) (h : H a = some (.ins C dx fs)) (l : fs.lookup m = none) (q : sp C [.ref a] H Q E) : ∃ a' C dx fs, V.ref a = .ref a' ∧ Cs C ∧ H a' = some (.ins C dx fs) ∧ fs.lookup m = none ∧ sp C [.ref a'] H Q E := ⟨a, C, dx, fs, rfl, hC, h, l, q⟩
theorem rd_make (h : t σ H fun vs H1 => ∀ x dx, H1 x = none → H1 dx = none → dx ≠ x → sp (.ref x :: (vs ++ [])) (upd (upd H1 dx (.own x)) x (.ins C dx [])) (fun v H2 => v = .non ∧ Q (.ref x) H2) E) : tMake C sp [] E t σ H Q := h
end
/-! ### l[i] += e -/
section
variable {X : Cx}
def gtL (K : PySem.W.Frag) : V → V → Hp → VK → Prop := fun o i H Q => ∃ (p : Addr) (xs : List V) (k : Nat) (v : V), o = .ref p ∧ i = .int (k : Int) ∧ SqL K H p xs ∧ xs[k]? = some v ∧ Q v H
theorem get_listK (K : PySem.W.Frag) (e : X.K = K := by rfl) : PGet X (gtL K) := by
  subst e
  intro pins s σ H o i u w Q I ro ri h
  obtain ⟨p, xs, k, v, rfl, rfl, hq, hv, q⟩ := h
  obtain rfl : u = Value.ref p := ro
  obtain ⟨t, rfl⟩ := ri
  obtain ⟨its, r, pl, hz⟩ := I.list hq
  obtain ⟨z, ez, rz⟩ := r.get hv
  have hl := r.length
  have hn := line63
  have hk : k < xs.length := (List.getElem?_eq_some_iff.mp hv).1
  exact wpAny_getItem_list pl.isList (by omega) (by omega) (by simpa using ez) ⟨v, H, I, rz, q⟩
end
/-! ### match -/
abbrev TP := V → Hp → (Option (List V) → Hp → Prop) → Prop
abbrev TPs := List V → Hp → (Option (List V) → Hp → Prop) → Prop
def PatEnd (X : Cx) (pins : List (Addr × Obj)) (σ : L2.St) (ns : List Str) (Q : Option (List V) → Hp → Prop) (r : Option (List (Str × Value))) (s' : Shared) : Prop :=
  match r with
  | none => ∃ H', Inv X pins σ H' s' ∧ Q none H'
  | some bs => ∃ vs H', Inv X pins σ H' s' ∧ bs.map (·.1) = ns ∧ Vals vs (bs.map (·.2)) ∧ Q (some vs) H'
/-- a pattern, the names that it binds -/
structure PPat (X : Cx) (p : Pattern) (ns : List Str) (t : TP) : Prop where
  run : ∀ (pins : List (Addr × Obj)) (s : Shared) (σ : L2.St) (H : Hp) (v : V) (u : Value) (Q : Option (List V) → Hp → Prop), Inv X pins σ H s → RelV v u → t v H Q → wpAny (model X.prog X.w) X.A (matchPattern p X.env u) (PatEnd X pins σ ns Q) X.xe s
structure PPats (X : Cx) (ps : List Pattern) (ns : List Str) (t : TPs) : Prop where
  run : ∀ (pins : List (Addr × Obj)) (s : Shared) (σ : L2.St) (H : Hp) (vs : List V) (us : List Value) (Q : Option (List V) → Hp → Prop), Inv X pins σ H s → Vals vs us → t vs H Q → wpAny (model X.prog X.w) X.A (matchEach ps X.env us) (PatEnd X pins σ ns Q) X.xe s
section
variable {X : Cx} {pos pos' : Pos}
/-- a written text -/
def tPStr (r : R2) (x : Str) : TP := fun v H Q => r v (.str x) H fun b H' => ∃ k, b = .bl k ∧ if k = true then Q (some []) H' else Q none H'
theorem pat_str {x : Str} {j : Nat} {r : R2} (ho : OpR X (compareOp .Eq) r) : PPat X (.MatchValue (.Constant (.str x) j pos) pos') [] (tPStr r x) := by
  refine ⟨fun pins s σ H v u Q I rv h => ?_⟩
  refine wpAny_matchPattern_Value ?_
  refine Calls.Constant_str ?_
  refine wpAny_mono (ho pins _ σ H v (.str x) u _ _ (I.tok _) rv ⟨_, rfl⟩ h) (fun c s1 hc => ?_) fun _ _ z => z
  obtain ⟨b, H1, I1, rb, k, rfl, q⟩ := hc
  cases rb
  refine wpAny_truthy_bool ?_
  cases k with
  | true => exact ⟨[], H1, I1, rfl, .nil, by simpa using q⟩
  | false => exact ⟨H1, I1, by simpa using q⟩
def tPCap : TP := fun v H Q => Q (some [v]) H
theorem pat_cap {n : Str} : PPat X (.MatchAs none (some n) pos) [n] tPCap :=
  ⟨fun pins s σ H v u Q I rv h => wpAny_matchPattern_Capture ⟨[v], H, I, rfl, .cons rv .nil, h⟩⟩
def tPWild : TP := fun v H Q => Q (some []) H
theorem pat_wild : PPat X (.MatchAs none none pos) [] tPWild :=
  ⟨fun pins s σ H v u Q I rv h => wpAny_matchPattern_Capture ⟨[], H, I, rfl, .nil, h⟩⟩
/-- one written text or another -/
def tPOr (t u : TP) : TP := fun v H Q => t v H fun r H1 => match r with | some vs => Q (some vs) H1 | none => u v H1 Q
structure PFst (X : Cx) (ps : List Pattern) (t : TP) : Prop where
  run : ∀ (pins : List (Addr × Obj)) (s : Shared) (σ : L2.St) (H : Hp) (v : V) (u : Value) (Q : Option (List V) → Hp → Prop), Inv X pins σ H s → RelV v u → t v H Q → wpAny (model X.prog X.w) X.A (matchFirst ps X.env u) (PatEnd X pins σ [] Q) X.xe s
def tPNo : TP := fun _ H Q => Q none H
theorem pf_nil : PFst X [] tPNo := ⟨fun pins s σ H v u Q I rv h => wpAny_matchFirst_nil ⟨H, I, h⟩⟩
theorem pf_cons {p : Pattern} {ps : List Pattern} {t u : TP} (h : PPat X p [] t) (hs : PFst X ps u) : PFst X (p :: ps) (tPOr t u) := by
  refine ⟨fun pins s σ H v w Q I rv q => ?_⟩
  refine wpAny_matchFirst_cons (wpAny_mono (h.run pins s σ H v w _ I rv q) (fun r s1 hr => ?_) fun _ _ z => z)
  cases r with
  | none =>
    obtain ⟨H1, I1, q1⟩ := hr
    exact hs.run pins s1 σ H1 v w Q I1 rv q1
  | some bs =>
    obtain ⟨vs, H1, I1, e, rr, q1⟩ := hr
    exact ⟨vs, H1, I1, e, rr, q1⟩
theorem pat_or {ps : List Pattern} {t : TP} (h : PFst X ps t) (hn : namesOfAll (ps.take 1) = [] := by rfl) : PPat X (.MatchOr ps pos) [] (fun v H Q => t v H fun r H1 => match r with | some _ => Q (some []) H1 | none => Q none H1) := by
  refine ⟨fun pins s σ H v w Q I rv q => ?_⟩
  refine wpAny_matchPattern_Or (wpAny_mono (h.run pins s σ H v w _ I rv q) (fun r s1 hr => ?_) fun _ _ z => z)
  cases r with
  | none => exact hr
  | some bs =>
    obtain ⟨vs, H1, I1, e, rr, q1⟩ := hr
    rw [hn]
    exact ⟨[], H1, I1, rfl, .nil, q1⟩
/-- the parts, one by one -/
def tPNil : TPs := fun _ H Q => Q (some []) H
def tPCons (t : TP) (u : TPs) : TPs := fun vs H Q => ∃ v r, vs = v :: r ∧ t v H fun b H1 => match b with | none => Q none H1 | some xs => u r H1 fun b2 H2 => match b2 with | none => Q none H2 | some ys => Q (some (xs ++ ys)) H2
theorem pp_nil : PPats X [] [] tPNil := ⟨fun pins s σ H vs us Q I rv h => wpAny_matchEach_nil ⟨[], H, I, rfl, .nil, h⟩⟩
theorem pp_cons {p : Pattern} {ps : List Pattern} {n1 n2 : List Str} {t : TP} {u : TPs} (h : PPat X p n1 t) (hs : PPats X ps n2 u) (hp : p.isStar = false := by rfl) : PPats X (p :: ps) (n1 ++ n2) (tPCons t u) := by
  refine ⟨fun pins s σ H vs us Q I rv q => ?_⟩
  obtain ⟨v, r, rfl, q⟩ := q
  cases rv with
  | cons r1 r2 =>
    refine wpAny_matchEach_cons (wpAny_mono (h.run pins s σ H v _ _ I r1 q) (fun b s1 hb => ?_) fun _ _ z => z) hp
    cases b with
    | none => exact hb
    | some bs =>
      obtain ⟨xs, H1, I1, e1, rr, q1⟩ := hb
      refine wpAny_mono (hs.run pins s1 σ H1 r _ _ I1 r2 q1) (fun b2 s2 hb2 => ?_) fun _ _ z => z
      cases b2 with
      | none => exact hb2
      | some bs2 =>
        obtain ⟨ys, H2, I2, e2, rr2, q2⟩ := hb2
        refine ⟨xs ++ ys, H2, I2, by rw [List.map_append, e1, e2], ?_, q2⟩
        rw [List.map_append]
        exact rr.append rr2
/-- a tuple of so many parts -/
def tPSeq (K : PySem.W.Frag) (n : Nat) (t : TPs) : TP := fun v H Q => ∃ a xs, v = .ref a ∧ SqT K H a xs ∧ (xs.length ≠ n → Q none H) ∧ (xs.length = n → t xs H Q)
theorem pat_seq {ps : List Pattern} {ns : List Str} {t : TPs} (hc : X.calm = true) (h : PPats X ps ns t) (hstar : ps.findIdx? (·.isStar) = none := by rfl) (hwild : (ps.all fun p => p.isWildcard || (p.isStar && p.names.isEmpty)) = false := by rfl) :
    PPat X (.MatchSequence ps pos) ns (tPSeq X.K ps.length t) := by
  refine ⟨fun pins s σ H v u Q I rv q => ?_⟩
  obtain ⟨a, xs, rfl, hq, q1, q2⟩ := q
  obtain rfl : u = Value.ref a := rv
  obtain ⟨its, rr, ht, hz⟩ := I.tuple hq
  have hfit : ((its.toArray).size : Int) < 2 ^ 63 := by
    have := rr.length
    have l := line63
    simp only [List.size_toArray]
    omega
  by_cases hl : xs.length = ps.length
  · refine PyProof.Rows.matchSeq_tuple_hit ht hfit (by simp [← hl, rr.length]) ?_ hstar hwild
    have e : ps.length = its.toArray.size := by simp [← hl, rr.length]
    rw [e]
    refine unpackItems_tuple (s := { s with toks := s.toks + 1 + 1 }) (I.ok.hd hc) ht fun h' hx => ?_
    have I1 : Inv X pins σ H { s with heap := h', toks := s.toks + 1 + 1 } := I.kept (t' := s.toks + 1 + 1) fun b o e => hx b o (Nat.ne_of_lt (Heap.lt_size e)) e
    exact h.run pins _ σ H xs _ Q I1 (by simpa using rr) (q2 hl)
  · refine PyProof.Rows.matchSeq_tuple_miss ht hfit (by simpa [← rr.length] using hl) ?_ hstar hwild
    exact ⟨H, I.tok _, q1 hl⟩
/-- what is bound goes to its slots -/
def setAll : L2.St → List Nat → List V → L2.St
  | σ, i :: is, v :: vs => setAll (σ.set i (some v)) is vs
  | σ, _, _ => σ
theorem assign_all {pins : List (Addr × Obj)} (hN : X.N.Nodup) : ∀ {ns : List Str} {is : List Nat} {bs : List (Str × Value)} {vs : List V} {σ : L2.St} {H : Hp} {s : Shared} {Q : Unit → Shared → Prop} {E : Value → Shared → Prop}, Inv X pins σ H s → bs.map (·.1) = ns → Vals vs (bs.map (·.2)) →
    (is.map fun i => X.N[i]?) = ns.map some → (∀ n ∈ ns, X.env.scope.names.lookup n = some .local) → (∀ s', Inv X pins (setAll σ is vs) H s' → Q () s') → wpAny (model X.prog X.w) X.A (assignInOrder (bs.map fun (n, _) => bindName X.env n) (bs.map (·.2))) Q E s
  | ns, is, [], vs, σ, H, s, Q, E, I, e, rv, hi, hl, q => by
    cases rv
    subst e
    cases is with
    | nil => exact wpAny_assignInOrder_none (q s I)
    | cons i is => cases hi
  | ns, is, (n, u) :: bs, vs, σ, H, s, Q, E, I, e, rv, hi, hl, q => by
    subst e
    cases is with
    | nil => cases hi
    | cons i is =>
      cases rv with
      | @cons v _ vs _ r1 r2 =>
        simp only [List.map_cons, List.cons.injEq] at hi
        refine wpAny_assignInOrder_more ?_
        show wpAny _ _ (bindName X.env n u) _ _ _
        unfold bindName
        refine wpAny_bind (wpAny_holding (wpAny_point ?_))
        refine wpAny_bind (store_ok (v := v) I hN hi.1 (.inl (hl n (by simp))) r1 (fun s1 I1 => wpAny_point ?_) (.inr (hl n (by simp))))
        exact assign_all hN I1 rfl r2 hi.2 (fun m hm => hl m (by simp at hm ⊢; exact .inr hm)) q
/-- the cases, in turn -/
structure PCs (X : Cx) (cs : List MatchCase) (t : V → TS) : Prop where
  run : ∀ (first : Bool) (pins : List (Addr × Obj)) (s : Shared) (σ : L2.St) (H : Hp) (v : V) (u : Value) (D : Ends), Inv X pins σ H s → RelV v u → t v D σ H → wpAny (model X.prog X.w) X.A (matchCases cs X.env u first) (SP X pins D) X.xe s
def tCNil : V → TS := fun _ D σ H => D.nx σ H
theorem pc_nil : PCs X [] tCNil := ⟨fun first pins s σ H v u D I rv h => wpAny_matchCases_nil ⟨σ, H, I, h⟩⟩
def tCase (pt : TP) (is : List Nat) (tb : TS) (rest : V → TS) : V → TS := fun v D σ H => pt v H fun r H1 => match r with | none => rest v D σ H1 | some vs => tb D (setAll σ is vs) H1
theorem pc_cons {p : Pattern} {body : List Stmt} {cs : List MatchCase} {ns : List Str} {is : List Nat} {pt : TP} {tb : TS} {rest : V → TS} (hN : X.N.Nodup) (hp : PPat X p ns pt) (hi : (is.map fun i => X.N[i]?) = ns.map some) (hl : ∀ n ∈ ns, X.env.scope.names.lookup n = some .local)
    (hb : PSs X body tb) (hr : PCs X cs rest) : PCs X (⟨p, none, body⟩ :: cs) (tCase pt is tb rest) := by
  refine ⟨fun first pins s σ H v u D I rv h => ?_⟩
  refine wpAny_matchCases_cons (wpAny_mono (hp.run pins s σ H v u _ I rv h) (fun r s1 hr1 => ?_) fun _ _ z => z)
  cases r with
  | none =>
    obtain ⟨H1, I1, q1⟩ := hr1
    exact hr.run false pins s1 σ H1 v u D I1 rv q1
  | some bs =>
    obtain ⟨vs, H1, I1, e, rr, q1⟩ := hr1
    exact assign_all hN I1 e rr hi hl fun s2 I2 => hb.run pins s2 _ H1 D I2 q1
theorem all_local {ns : List Str} (h : (ns.all fun n => decide (X.env.scope.names.lookup n = some .local)) = true) : ∀ n ∈ ns, X.env.scope.names.lookup n = some .local := fun n hn => of_decide_eq_true (List.all_eq_true.mp h n hn)
def tMatch (te : TE) (cs : V → TS) : TS := fun D σ H => te σ H fun v H1 => cs v D σ H1
theorem ps_match {e : Expr} {te : TE} {cs : List MatchCase} {t : V → TS} (he : PE X e te) (hc : PCs X cs t) : PS X (.Match e cs pos) (tMatch te t) := by
  refine ⟨fun pins s σ H D I h => ?_⟩
  refine wpAny_Match (wpAny_mono (he.run pins s σ H _ I h) (fun u s1 hu => ?_) fun _ _ z => z)
  obtain ⟨v, H1, I1, rv, q⟩ := hu
  exact hc.run true pins s1 σ H1 v u D I1 rv q
end
section
variable {K : PySem.W.Frag} {H : Hp} {a : Addr} {v : V} {xs : List V} {Q : Option (List V) → Hp → Prop} {t : TPs} {n : Nat} {σ : L2.St} {D : Ends} {te : TE} {cs : V → TS}
theorem rd_match (h : te σ H fun v H1 => cs v D σ H1) : tMatch te cs D σ H := h
theorem rd_case {pt : TP} {is : List Nat} {tb : TS} {rest : V → TS} (h : pt v H fun r H1 => match r with | none => rest v D σ H1 | some vs => tb D (setAll σ is vs) H1) : tCase pt is tb rest v D σ H := h
theorem rd_cnil (h : D.nx σ H) : tCNil v D σ H := h
theorem rd_pstr {x : Str} {r : R2} (h : r v (.str x) H fun b H' => ∃ k, b = .bl k ∧ if k = true then Q (some []) H' else Q none H') : tPStr r x v H Q := h
theorem rd_pcap (h : Q (some [v]) H) : tPCap v H Q := h
theorem rd_pwild (h : Q (some []) H) : tPWild v H Q := h
theorem rd_por {t u : TP} (h : t v H fun r H1 => match r with | some vs => Q (some vs) H1 | none => u v H1 Q) : tPOr t u v H Q := h
theorem rd_pno (h : Q none H) : tPNo v H Q := h
theorem rd_pnil (h : Q (some []) H) : tPNil xs H Q := h
theorem rd_pcons {t : TP} {u : TPs} (h : t v H fun b H1 => match b with | none => Q none H1 | some ys => u xs H1 fun b2 H2 => match b2 with | none => Q none H2 | some zs => Q (some (ys ++ zs)) H2) : tPCons t u (v :: xs) H Q := ⟨v, xs, rfl, h⟩
theorem rd_pmiss (h : SqT K H a xs) (e : xs.length ≠ n) (q : Q none H) : tPSeq K n t (.ref a) H Q := ⟨a, xs, rfl, h, fun _ => q, fun z => absurd z e⟩
theorem rd_phit (h : SqT K H a xs) (e : xs.length = n) (q : t xs H Q) : tPSeq K n t (.ref a) H Q := ⟨a, xs, rfl, h, fun z => absurd e z, fun _ => q⟩
end
/-! ### d.setdefault(k, x), k a tuple -/
def rSetdT : V → List V → Hp → VK → Prop := fun x xs H Q => ∃ (a : Addr) (kvs : List (List L2.Key × V)) (k : List L2.Key) (b : Addr) (d : V), x = .ref a ∧ xs = [.ref b, d] ∧ H a = some (.dT kvs) ∧ H b = some (.tup (k.map kV)) ∧ kvs.length < sizeLine ∧
  (∀ v, valV kvs k = some v → Q v H) ∧ (valV kvs k = none → Q d (upd H a (.dT (putK kvs k d))))
theorem mt_setdT {X : Cx} (hu : X.A.units + 1 < cLine) : MtR X "dict.setdefault" rSetdT := by
  intro pins s σ H x xs v us Q I rx rxs h
  obtain ⟨a, kvs, k, b, d, rfl, rfl, ha, hb, hlen, q1, q2⟩ := h
  cases rx
  obtain ⟨u1, u2, rfl, r1, r2⟩ := vals2 rxs
  cases r1
  obtain ⟨z, hd, xs', rel, dd⟩ := dt_of I.hok ha
  have hz : xs'.length ≤ sizeLine := by rw [← Paired.length rel]; exact z
  have hl : (putK kvs k d).length ≤ sizeLine := by have := length_putK kvs k d; omega
  refine call_setdefault_heap (knd := tupleKind (mixKind X.prog X.w)) (hsz := hz) (tupleKind_room_in1 hu) (key_of I.hok hb) hd dd (fun p hp => ?_) (fun hn h' dd' hs => ?_)
  · have r := rel.val k
    rw [hp] at r
    obtain ⟨v0, ev, rv⟩ : ∃ v0, valV kvs k = some v0 ∧ RelV v0 p.2 := by
      cases ev : valV kvs k with
      | none => rw [ev] at r; exact (show False from r).elim
      | some v0 => rw [ev] at r; exact ⟨v0, rfl, r⟩
    exact ⟨v0, H, I.tok _, rv, q1 v0 ev⟩
  · have r := rel.val k
    rw [hn] at r
    have e : valV kvs k = none := by
      cases ev : valV kvs k with
      | none => rfl
      | some v0 => rw [ev] at r; exact (show False from r).elim
    obtain ⟨q, es, ep, hq, h2, h3, h4, _, h5⟩ := dd'
    refine ⟨d, upd H a (.dT (putK kvs k d)), d_write I (by rw [ha]; exact True.intro) hs ⟨q, hq⟩ ⟨hl, hd, _, (rel.put k hb r2).keeps fun c ys ec => ?_, q, es, ep, hq, h2, h3, h4, h5⟩, r2, q2 e⟩
    rw [upd_ne (ne_of ec ha (fun z => nomatch z))]
    exact ec
theorem rd_setdT {a b : Addr} {kvs : List (List L2.Key × V)} {k : List L2.Key} {d : V} {H : Hp} {Q : VK} (ha : H a = some (.dT kvs)) (hb : H b = some (.tup (k.map kV))) (hl : kvs.length < sizeLine)
    (q1 : ∀ v, valV kvs k = some v → Q v H) (q2 : valV kvs k = none → Q d (upd H a (.dT (putK kvs k d)))) : rSetdT (.ref a) [.ref b, d] H Q := ⟨a, kvs, k, b, d, rfl, rfl, ha, hb, hl, q1, q2⟩
end Dc

set_option Elab.async false
set_option linter.all false
set_option maxRecDepth 100000
set_option maxHeartbeats 2000000
namespace Dc
open PySem PySem.Spec PyProof.Rows L2
/-! ### defs that may let an exception out -/
theorem okX {P : Program} {w : World} {K : PySem.W.Frag} {mg : Str → Option Value} {base : Heap} {x qual : Str} {params : Arguments} {body : List Stmt} {scope : Scope} {f : Addr} {fd : FuncData}
    {N ps : List Str} {k : Nat} {sp : Sp} (F : FunD K x qual params body scope [] [] f fd) (S : FnScope N ps scope) (len : ∀ vs H Q E, sp vs H Q E → vs.length = ps.length)
    (hbody : ∀ (cdv : Value) (A : Around) (outer : List Env) (s : Shared) (H : Hp) (vs : List V) (Q : VK) (E : XK), Room k (A.deeper (envOfC qual scope s.heap.objs.size f cdv)) → sp vs H Q E →
      Passes (L2.CX P w) (cxOf (L2.CX P w) P w K mg base N qual scope f cdv A outer s H E) E →
      Takes (cxOf (L2.CX P w) P w K mg base N qual scope f cdv A outer s H E) (fun cls d _ H => E cls d H) →
      PassesOwn (model P w) (A.deeper (envOfC qual scope s.heap.objs.size f cdv)) (envOfC qual scope s.heap.objs.size f cdv) (cxOf (L2.CX P w) P w K mg base N qual scope f cdv A outer s H E).xe →
      ∃ t, PSs (cxOf (L2.CX P w) P w K mg base N qual scope f cdv A outer s H E) body t ∧ t { nx := fun _ H' => Q .non H', rt := Q } (start N vs) H) : FnOk P w K mg base (L2.CX P w) (k + 1) f fd ps sp := by
  refine F.ok S len fun cdv A outer s H vs Q E hr h => ?_
  have tk : Takes (cxOf (L2.CX P w) P w K mg base N qual scope f cdv A outer s H E) (fun cls d _ H => E cls d H) := takes_of rfl rfl rfl rfl
  exact hbody cdv A outer s H vs Q E hr h (passes_call tk fun _ _ _ _ h => h) tk (passes_of rfl)
/-- behind a callee that lets nothing out -/
theorem passX0 {X : Cx} : Passes (L2.CX X.prog X.w) X E0 := fun _ _ _ _ _ _ _ ⟨_, _, _, _, _, _, _, _, _, _, _, _, h⟩ => h.elim
theorem rd_augS {to ti te : TE} {tget : V → V → Hp → VK → Prop} {tip : TIp} {tset : TSet} {D : Ends} {σ : L2.St} {H : Hp} (h : to σ H fun o H1 => ti σ H1 fun i H2 => tget o i H2 fun x H3 => te σ H3 fun y H4 => tip x y H4 fun z H5 => tset o i z H5 fun H6 => D.nx σ H6) : tAugS to ti te tget tip tset D σ H := h
end Dc

set_option Elab.async false
set_option linter.all false
set_option maxRecDepth 100000
set_option maxHeartbeats 4000000
/-! isinstance of a caught error of an own class, its instance with an own dict -/
namespace PySem.W
open PySem PySem.Spec PySem.Calls PyProof.Rows
section
variable {prog : Program} {w : World} {A : Around} {E : Value → Shared → Prop} {s : Shared} {K : Frag} {x D : Addr} {ox od : Obj}
theorem kin_classD {Q : Option Value → Shared → Prop} (hga : findIn K (.ref D) "__getattribute__" = some (some (.builtin "BaseException.__getattribute__"))) (hgt : findIn K (.ref D) "__getattr__" = some none) (hsub : subIn K (.ref D) (.type "BaseException") = some true)
    (hdct : hasDictIn K D = true) (ha : findIn K (.ref D) "__class__" = some (some (.builtin "object.__class__")))
    (hn : specialIn K (.builtin "object.__class__") "__get__" = some (some (.builtin "getset_descriptor.__get__"))) (htk : takesIn K (.builtin "object.__class__") = some true) (hm : mroIn K D (.type "object") = some true)
    (X : K.In s.heap) (I : InstAt s.heap x ox D (some od)) (h : Q (some (.ref D)) { s with toks := s.toks + 1 }) : wpAny (model prog w) A (getAttr? (.ref x) "__class__") Q E s := by
  have hf : findObj K D (some od) "__class__" = some (.bind (.builtin "getset_descriptor.__get__") (.builtin "object.__class__")) := by
    obtain ⟨cd, hc, _⟩ := any_some hdct
    unfold findObj
    rw [hc, Option.bind_some, ha, Option.bind_some]
    simp [hn, htk]
  obtain ⟨hp, g, d, t, os⟩ := s
  have L0 := I.type (M := model prog w)
  have L1 := looks_findIn (M := model prog w) X hga
  have L2 := looks_findIn (M := model prog w) X hgt
  have L3 := looks_find (M := model prog w) X I hf
  have sub : Looks (model prog w) hp (isInstance (.ref x) (.type "BaseException")) true := L0.andThen (looks_subIn X hsub)
  have hx0 : (false && onTheHeap (Value.builtin "BaseException.__getattribute__")) = false := rfl
  have hx2 : (Value.builtin "BaseException.__getattribute__" == Value.builtin "object.__getattribute__") = false := by decide +kernel
  have hx1 : (onTheHeap (Value.ref D) && Value.builtin "BaseException.__getattribute__" == Value.builtin "object.__getattribute__") = false := by rw [hx2]; rfl
  unfold getAttr? getAttrBy? getAttrBy
  refine wpAny_bind (wpAny_mkText (wpAny_bind (wpAny_attempt (wpAny_holding (wpAny_bind (L0.at (wpAny_bind (L1.at ?_))))))))
  show wpAny _ _ (if (onTheHeap (Value.ref D) && Value.builtin "BaseException.__getattribute__" == Value.builtin "object.__getattribute__") = true then _ else _) _ _ _
  rw [hx1, if_neg Bool.false_ne_true]
  unfold getAttrByItsOwn hookBefore
  refine wpAny_bind ?_
  rw [if_pos (show onTheHeap (Value.ref D) = true from rfl)]
  refine L2.at ?_
  refine wpAny_bind (wpAny_attempt (wpAny_holding ?_))
  unfold callGetattribute
  rw [hx0, if_neg Bool.false_ne_true]
  unfold boundAndCalled
  rw [PySem.F.excAttr_ValueError.ga.bind (.ref x)]
  refine wpAny_bind (wpAny_pure ?_)
  show wpAny _ _ (call (.builtin "BaseException.__getattribute__") [.ref x, .str "__class__" t]) _ _ _
  refine wpAny_call (codeAny_call_builtin PySem.F.excAttr_ValueError.ga.plain PySem.F.entry_bexc_ga ?_)
  refine @check_slot (model prog w) _ _ ⟨hp, g, d, t + 1, os⟩ "BaseException.__getattribute__" "BaseException" "__getattribute__" (.ref x) [.str "__class__" t] [] _ (by decide +kernel) (by decide +kernel) sub (PySem.F.args_bexc_ga (.ref x) (.str "__class__" t)) ?_
  unfold Builtin.«object.__getattribute__»
  refine wpAny_bind (wpAny_of_eq (a := ((Value.ref x : Value), [Value.str "__class__" t])) (by first | rfl | (simp only [slotArgs]; rfl)) ?_)
  refine wpAny_bind (wpAny_pure (wpAny_bind (L0.at (wpAny_bind (L3.at ?_)))))
  show wpAny _ _ (holding [Value.builtin "object.__class__"] (call (.builtin "getset_descriptor.__get__") [.builtin "object.__class__", .ref x, .ref D]) >>= ret) _ _ _
  refine wpAny_bind (wpAny_holding (wpAny_call (class_get (s := ⟨hp, g, d, t + 1, os⟩) (ox := ox) (od := some od) X I hm ?_)))
  refine wpAny_pure ?_
  show wpAny _ _ (handedOut (.ref D)) _ _ _
  rw [handedOut_of (v := .ref D) rfl]
  first
    | exact wpAny_pure (wpAny_pure h)
    | exact wpAny_pure h
    | exact wpAny_pure (wpAny_bind (wpAny_pure (wpAny_pure h)))
theorem kitx_excD (hga : findIn K (.ref D) "__getattribute__" = some (some (.builtin "BaseException.__getattribute__"))) (hgt : findIn K (.ref D) "__getattr__" = some none) (hsub : subIn K (.ref D) (.type "BaseException") = some true) (hdct : hasDictIn K D = true) (ha : findIn K (.ref D) "__class__" = some (some (.builtin "object.__class__")))
    (hn : specialIn K (.builtin "object.__class__") "__get__" = some (some (.builtin "getset_descriptor.__get__"))) (htk : takesIn K (.builtin "object.__class__") = some true) (hm : mroIn K D (.type "object") = some true) :
    KitX K (.ref x) (.ref D) (fun h => ∃ od, InstAt h x ox D (some od)) where
  ty := fun _ _ _ ⟨_, I⟩ => I.type
  it := fun _ _ X _ => by
    obtain ⟨cdD, hcD, _⟩ := any_some hdct
    unfold clsIn at hcD
    split at hcD
    · rename_i c' d' cd' sl' ho
      intro A' Q' E' s' k q
      unfold isType loadHead
      exact wpAny_bind (wpAny_loadPart (k _ _ (X _ _ ho)) (wpAny_pure q))
    · cases hcD
  ne := fun h tp dd its n sl X htp => by
    obtain ⟨cdD, hcD, _⟩ := any_some hdct
    refine Bool.eq_false_iff.mpr fun q => ?_
    have e : D = tp := Value.ref.inj (beq_iff_eq.mp q)
    subst e
    unfold clsIn at hcD
    split at hcD
    · rename_i c' d' cd' sl' ho
      have z := (X _ _ ho).symm.trans htp
      cases z
    · cases hcD
  ca := fun X ⟨_, I⟩ k => kin_classD hga hgt hsub hdct ha hn htk hm X I k
end
end PySem.W
namespace Dc
open PySem PySem.Spec PyProof.Rows L2
/-- isinstance(e, c), e the exception that the suite holds, with an own dict -/
def rIsD (K : PySem.W.Frag) (D a dx : Addr) : List V → Hp → VK → Prop := fun xs H Q => ∃ (c : V) (cv : Value) (b : Bool) (fs : List (Str × V)), xs = [.ref a, c] ∧ H dx = some (.xd fs) ∧ (∀ u, RelV c u → u = cv) ∧ PySem.W.kitOne K (.ref D) cv = some b ∧ Q (.bl b) H
theorem call_isD {X : Cx} {a D dx : Addr} {oe : Obj} {pn : List (Addr × Obj)} (C : ExcC X.K D) (hz : Zc (.ref D) (some dx) oe) (hf : ∃ vs, oe.data = .fields vs) : CallR (X.suite a ((a, oe) :: pn)) (.builtin "isinstance") (rIsD X.K D a dx) := by
  intro pins s σ H xs us Q I r h
  obtain ⟨c, cv, b, fs, rfl, ea, hcv, e, q⟩ := h
  cases r with
  | cons rx rr =>
    cases rr with
    | cons rt rr =>
      cases rr
      cases rx
      have ec := hcv _ rt
      subst ec
      obtain ⟨hget, _⟩ := I.pin (a, oe) (List.mem_append.mpr (.inl List.mem_cons_self))
      obtain ⟨vs, hv⟩ := hf
      have hx : ObjOk X.prog X.w H s.heap dx (.xd fs) := I.hok dx _ ea
      obtain ⟨mA, hns, hr⟩ := hx
      obtain ⟨od, ho, hl⟩ := lookIn_ns hns
      have J : PySem.W.InstAt s.heap a oe D (some od) := ⟨hget, hz.1, by unfold PySem.W.notCls; rw [hv] <;> rfl, by rw [hz.2]; exact ho⟩
      exact PySem.W.kia_one (PySem.W.kitx_excD (ox := oe) C.hg C.hk C.hs C.hd C.ha C.hn C.ht C.hm) I.kIn ⟨od, J⟩ e (fun z => nomatch z) fun tk => ⟨.bl b, H, I.kept (t' := tk) fun _ _ z => z, rfl, q⟩
end Dc

set_option Elab.async false
set_option linter.all false
set_option maxRecDepth 100000
set_option maxHeartbeats 2000000
namespace Dc
open PySem PySem.Spec PyProof.Rows L2 ClX
/-! ### a method that says super().__init__(..) first -/
/-- its names: all local but __class__, which is free -/
structure SupScope (N P : List Str) (sc : Scope) : Prop where
  kind : sc.kind = .function
  co : sc.isCoroutine = false
  gen : sc.isGenerator = false
  nd : N.Nodup
  pre : N.take P.length = P
  par : ∀ x ∈ P, sc.names.lookup x = some .local
  nocell : ∀ x ∈ sc.names, x.2 ≠ .cell
  free : ∀ x ∈ sc.names, x.2 = .free → x.1 = ("__class__" : Str)
  hk : sc.names.lookup ("__class__" : Str) = some .free
  hs : sc.names.lookup ("super" : Str) = some .globalImplicit
abbrev envS (qual : Str) (scope : Scope) (L f : Addr) (cd : Value) (cc : Addr) : Env := PySem.W.ksEnv qual scope L f cd cc
def cxS (P : Program) (w : World) (K : PySem.W.Frag) (mg : Str → Option Value) (base : Heap) (N : List Str) (qual : Str) (scope : Scope) (f : Addr) (cd : Value) (cc : Addr) (A : Around) (outer : List Env) (s : Shared) (H : Hp) : Cx where
  prog := P
  w := w
  K := K
  mg := mg
  base := base
  A := A.deeper (envS qual scope s.heap.objs.size f cd cc)
  N := N
  s_0 := s
  H_0 := H
  env := envS qual scope s.heap.objs.size f cd cc
  outer := outer
  stack := envS qual scope s.heap.objs.size f cd cc :: outer
  ex := []
  calm := true
  fn := fun _ => false
  pn := []
  xe := fun _ _ => False
theorem zip_rev {P : List Str} {us : List Value} (nd : P.Nodup) {i : Nat} {y : Str} {u : Value} (h1 : P[i]? = some y) (h2 : us[i]? = some u) : (P.zip us).reverse.lookup y = some u := by
  have key : ∀ (l : List (Str × Value)) (y : Str) (u : Value), (l.map (·.1)).Nodup → (y, u) ∈ l → l.lookup y = some u := by
    intro l
    induction l with
    | nil => intro y u _ h; cases h
    | cons p r ih =>
      intro y u hn h
      obtain ⟨a, b⟩ := p
      rw [List.lookup_cons]
      rw [List.map_cons, List.nodup_cons] at hn
      rcases List.mem_cons.mp h with e | h2
      · cases e; simp
      · have : (y == a) = false := by
          rw [beq_eq_false_iff_ne]
          intro e
          subst e
          exact hn.1 (List.mem_map_of_mem (f := (·.1)) h2)
        rw [this]
        exact ih y u hn.2 h2
  refine key _ _ _ ?_ ?_
  · rw [List.map_reverse]
    refine (List.pairwise_reverse.mpr (List.Pairwise.imp (fun h => Ne.symm h) ?_))
    have sub : ∀ (P : List Str) (us : List Value), ((P.zip us).map (·.1)).Sublist P := by
      intro P
      induction P with
      | nil => intro us; simp
      | cons p P ih =>
        intro us
        cases us with
        | nil => simp
        | cons u us =>
          simp only [List.zip_cons_cons, List.map_cons]
          exact (ih us).cons_cons p
    exact List.Nodup.sublist (sub P us) nd
  · rw [List.mem_reverse]
    have := List.getElem?_zip_eq_some (l₁ := P) (l₂ := us) (z := (y, u)) (i := i)
    exact List.mem_of_getElem? (this.mpr ⟨h1, h2⟩)
theorem inv_super {P : Program} {w : World} {K : PySem.W.Frag} {mg : Str → Option Value} {base : Heap} {N ps : List Str} {qual : Str} {scope : Scope} {f cc : Addr} {cd : Value} {A : Around} {outer : List Env} {s : Shared} {H : Hp} {us : List Value} {vs : List V} {h₀ : Heap} {tk : Nat} {oc : Obj} {cv : Option Value}
    (S : SupScope N ps scope) (hd : A.handled = none) (e0 : Env0 P w K mg base A outer s H) (hl : vs.length = ps.length) (r : Vals vs us) (hcc : K.lookup cc = some oc) (hcv : oc.data = .cell cv)
    (hns : h₀.Ns s.heap.objs.size (fun x => (ps.zip us).reverse.lookup x)) (hk : ∀ b o, s.heap.get? b = some o → h₀.get? b = some o) :
    Inv (cxS P w K mg base N qual scope f cd cc A outer s H) [] (L2.start N vs) H { s with heap := h₀, toks := tk } := by
  have hpl : ps.length ≤ N.length := by have := congrArg List.length S.pre; rw [List.length_take] at this; omega
  have noA : ∀ b : Addr, b ∉ (cxS P w K mg base N qual scope f cd cc A outer s H).ex := fun b z => absurd (show b ∈ ([] : List Addr) from z) (by simp)
  have cells : ∀ x c, (cxS P w K mg base N qual scope f cd cc A outer s H).env.cells.lookup x = some c → x = ("__class__" : Str) ∧ c = cc := fun x c h => by
    have h' : List.lookup x [(("__class__" : Str), cc)] = some c := h
    rw [List.lookup_cons] at h'
    cases e : x == ("__class__" : Str) with
    | true => rw [e] at h'; exact ⟨by simpa using e, (Option.some.inj h').symm⟩
    | false => rw [e] at h'; cases h'
  have hbase := e0.mod.kin _ _ hcc
  refine ⟨⟨e0.mod, S.kind, rfl, rfl, Nat.le_refl _, fun y z c h1 h2 => ?_, fun y hy => ?_, fun y c hf h => Bool.noConfusion (show false = true from hf), fun _ => hd, Around.frames_deeper e0.frames, .inr ⟨rfl, rfl⟩, fun b z => absurd z (noA b), e0.bs, e0.bsz, fun b _ _ => noA b, fun b z => absurd z (noA b), e0.funs, e0.frf⟩,
    rfl, e0.bare, Un.kept hk, ⟨_, hns, fun i y v h1 h2 h3 => ?_⟩, fun y c h => ?_, e0.hok.fresh (Nat.le_refl _), fun y c h => ?_, fun p hp => absurd (show p ∈ ([] : List (Addr × Obj)) from hp) (by simp), e0.hok.kept hk, ?_⟩
  · rw [(cells _ _ h1).1, (cells _ _ h2).1]
  · have hy : scope.names.lookup y = some .cell ∨ scope.names.lookup y = some .free := hy
    rcases hy with hy | hy
    · exact absurd rfl (S.nocell _ (PySem.mem_of_lookup hy))
    · have e := S.free _ (PySem.mem_of_lookup hy) rfl
      refine ⟨cc, ?_⟩
      show List.lookup y [(("__class__" : Str), cc)] = some cc
      rw [List.lookup_cons]
      have : (y == ("__class__" : Str)) = true := by simpa using e
      rw [this]
  · have hi : i < vs.length := by
      unfold L2.start at h2
      by_cases hi : i < vs.length
      · exact hi
      · rw [List.getElem?_append_right (by simpa using hi)] at h2
        rw [List.getElem?_replicate] at h2
        split at h2 <;> cases h2
    have ha : vs[i]? = some v := by
      unfold L2.start at h2
      rw [List.getElem?_append_left (by simpa using hi), List.getElem?_map] at h2
      cases e : vs[i]? with
      | none => rw [e] at h2; cases h2
      | some a => rw [e] at h2; cases h2; rfl
    obtain ⟨u, hu, rv⟩ := r.get ha
    have hp : ps[i]? = some y := by
      rw [← S.pre, List.getElem?_take_of_lt (by omega)]; exact h1
    have ndP : ps.Nodup := by rw [← S.pre]; exact S.nd.sublist (List.take_sublist _ _)
    exact ⟨u, rv, .inl ⟨S.par y (List.mem_of_getElem? hp), zip_rev ndP hp hu⟩⟩
  · rw [(cells _ _ h).2]
    exact ⟨cv, oc, hk _ _ (e0.bs _ _ hbase).1, hcv⟩
  · rw [(cells _ _ h).2]
    exact (e0.bs _ _ hbase).2
  · unfold L2.start
    show _ = N.length
    rw [List.length_append, List.length_map, List.length_replicate]
    omega
/-- what the written part holds of such a method f of the class D; f2: the base's __init__ -/
structure SupTxt (P : Program) (K : PySem.W.Frag) (mg : Str → Option Value) (name qual : Str) (params : Arguments) (body : List Stmt) (scope : Scope) (D f f2 : Addr) (fd : FuncData) : Prop where
  ex : ∃ (oc : Value) (od : Option Addr) (kV doc pm : Value) (an : Option Addr) (cda cc : Addr) (ct : Value) (osl : Array (Option Value)) (ccl : Value) (cdd : Option Addr) (ws : Array Value) (ccs : Array (Option Value)) (file : Str) (tf : Tok) (cl : Value) (cld : Option Addr) (csl : Array (Option Value)) (cdD : ClassData),
    fd = PySem.W.ksFn name qual params body scope .none kV doc pm an (.ref cda) ct cc ∧ K.lookup f = some ⟨oc, od, .func fd, osl⟩ ∧ PySem.W.codeIn K (.ref cda) qual = true ∧
    K.lookup cda = some ⟨ccl, cdd, .fields ws, ccs⟩ ∧ ws[2]? = some (.str file tf) ∧ ((P.main.file : Str) == file) = true ∧ K.lookup cc = some ⟨cl, cld, .cell (some (.ref D)), csl⟩ ∧ PySem.W.clsIn K D = some cdD
  sub : PySem.W.mroIn K D (.ref D) = some true
  sup : PySem.W.ks_superIn K D D "__init__" = some (some (.ref f2))
  ty2 : PySem.W.typeIn K (.ref f2) = some (.type "function")
  fn2 : PySem.W.fnIn K f2 = true
  cl : Cls K D
  third : PySem.W.nsIn K cStatics "thirdparty.any" = some none
  noS : mg "super" = none
  top : (P.main.scope.names.lookup ("super" : Str)).isSome = false
theorem fn_super {P : Program} {w : World} {K : PySem.W.Frag} {mg : Str → Option Value} {base : Heap} {name qual : Str} {params : Arguments} {scope : Scope} {D f f2 : Addr} {fd fd2 : FuncData} {p0 p1 p2 p3 p4 : Pos} {e : Expr} {es : List Expr} {rest : List Stmt}
    {N ps ps2 : List Str} {j k : Nat} {sp sp2 : Sp} {ar : Arg}
    (T : SupTxt P K mg name qual params (.Expr (.Call (.Attribute (.Call (.Name "super" p0) [] [] p1) "__init__" p2) (e :: es) [] p3) p4 :: rest) scope D f f2 fd) (S : SupScope N ps scope) (hp : (params.posonlyargs ++ params.args).head? = some ar) (har : ps[0]? = some ar.arg)
    (G2 : FnOk P w K mg base CX0 j f2 fd2 ps2 sp2) (b2 : Binds K fd2 ps2 []) (hjk : j ≤ k)
    (len : ∀ vs H Q E, sp vs H Q E → vs.length = ps.length)
    (hbody : ∀ (cda cc : Addr) (A : Around) (outer : List Env) (s : Shared) (H : Hp) (vs : List V) (Q : VK) (E : XK), Room k (A.deeper (envS qual scope s.heap.objs.size f (.ref cda) cc)) → sp vs H Q E →
      ∃ (x dx : Addr) (fs : List (Str × V)) (ta : TA) (t : TS), PA (cxS P w K mg base N qual scope f (.ref cda) cc A outer s H) (e :: es) ta ∧ PSs (cxS P w K mg base N qual scope f (.ref cda) cc A outer s H) rest t ∧ vs[0]? = some (.ref x) ∧ H x = some (.ins D dx fs) ∧
        ta (L2.start N vs) H fun ws H1 => sp2 (.ref x :: ws) H1 (fun _ H2 => t { nx := fun _ H' => Q .non H', rt := Q } (L2.start N vs) H2) E0)
    (hst : ∀ env : Env, starEach (e :: es) env = (false, eval e env) :: starEach es env) (hpl : ∀ env : Env, (backTo p3 (starEach es env)).any (·.1) = false)
    (hsw : ∀ env : Env, swapsWith (.Call (.Attribute (.Call (.Name "super" p0) [] [] p1) "__init__" p2) (e :: es) [] p3) none p4.line env = pure false)
    {pl : Env → Sem Bool}
    (hev : ∀ env : Env, eval (.Call (.Attribute (.Call (.Name "super" p0) [] [] p1) "__init__" p2) (e :: es) [] p3) env = (do
      let ov ← attributeBase (.Call (.Name "super" p0) [] [] p1) "__init__" env (eval (.Call (.Name "super" p0) [] [] p1) env)
      standAt p2.atName
      let (f, first) ← holding [ov] (getMethod ov "__init__" (pl env))
      callWith p3 f first (backTo p3 (starEach (e :: es) env)) [])) :
    FnOk P w K mg base CX0 (k + 1) f fd ps sp := by
  obtain ⟨oc, od, kV, doc, pm, an, cda, cc, ct, osl, ccl, cdd, ws, ccs, file, tf, cl, cld, csl, cdD, rfl, lk, hcd, hcode, hws, hfile, hcell, hD⟩ := T.ex
  refine ⟨len, fun A outer s H args us vs Q E hr e0 hb r hsp => ?_⟩
  have hl := len _ _ _ _ hsp
  have KX : K.In s.heap := e0.mod.kin.keeps fun b o e => (e0.bs b o e).1
  have lim : s.heap.NoLimit := e0.mod.nolimit.keeps fun b o e => (e0.bs b o e).1
  obtain ⟨x, dx, fs, ta, t, ha, ht, hx0, hxH, hq⟩ := hbody cda cc A outer s H vs Q E (hr.deeper _) hsp
  have hloc : ∀ y ∈ ps.zip us, scope.names.lookup y.1 = some .local := fun ⟨n, v⟩ hy => S.par n (List.of_mem_zip hy).1
  refine PySem.ks_codeAny_call_defAt hr.depth (KX _ _ lk) rfl lim (PySem.W.codeRec_of KX hcd) rfl hb S.nocell hloc (fun h₀ hns hk => ?_) S.co S.gen S.kind
  have I := inv_super (tk := s.toks + (ps.zip us).length) (cd := .ref cda) (P := P) (w := w) (mg := mg) (qual := qual) (f := f) S hr.hd e0 hl r hcell rfl hns hk
  show _root_.PySem.wpAt (model P w) (A.deeper (envS qual scope s.heap.objs.size f (.ref cda) cc)) (.func _ (envS qual scope s.heap.objs.size f (.ref cda) cc)) (execs _ (envS qual scope s.heap.objs.size f (.ref cda) cc)) _ _ _
  refine PySem.ks_wpAt_mono (Q := SP (cxS P w K mg base N qual scope f (.ref cda) cc A outer s H) [] { nx := fun _ H' => Q .non H', rt := Q }) (E := fun _ _ => False) ?_ (fun fl s' hs => ?_) (fun _ _ z => z.elim)
  · refine PySem.ks_wpAt_execs_cons (PySem.ks_wpAt_Expr_any (PySem.ks_wpAt_MethodCall (pl := pl _) ?_ (hev _)) I.quiet (hsw _))
    have K0 : K.In h₀ := KX.keeps hk
    obtain ⟨oD, hD1, hD2⟩ : ∃ oD, h₀.get? D = some oD ∧ oD.data = .cls cdD := by
      unfold PySem.W.clsIn at hD
      split at hD
      · rename_i c d cd' sl ho
        cases hD
        exact ⟨_, K0 _ _ ho, rfl⟩
      · cases hD
    obtain ⟨u0, hu0, ru0⟩ := r.get hx0
    obtain rfl : u0 = Value.ref x := ru0
    have ndP : ps.Nodup := by rw [← S.pre]; exact S.nd.sublist (List.take_sublist _ _)
    obtain ⟨mA, O, _, _, _, _⟩ := ins_get I.hok hxH
    obtain ⟨odx, J, _⟩ := O.look
    obtain ⟨mb, hmb, hbb⟩ := e0.mod.blt
    have up0 : ∀ b o, base.get? b = some o → h₀.get? b = some o := fun b o z => hk _ _ (e0.bs b o z).1
    refine PySem.ks_wpAt_super_base (env := envS qual scope s.heap.objs.size f (.ref cda) cc) S.hs S.hk (by decide +kernel) rfl (hk _ _ (KX _ _ lk)) rfl hp rfl (hk _ _ (KX _ _ hcode)) rfl hws hfile T.top ?_
    refine PySem.W.ks_loadName_global S.kind S.hs (PySem.Calls.loadGlobal_builtin (env := envS qual scope s.heap.objs.size f (.ref cda) cc) (e0.mod.glob.keeps up0) T.noS (hmb.keeps up0) ((hbb _ (by decide +kernel)).trans (by first | rfl | kernel_rfl)) ⟨rfl, ?_⟩)
    refine wpAny_loadName_free S.kind S.hk rfl ⟨_, K0 _ _ hcell, rfl⟩ ?_
    refine wpAny_loadName_local S.kind (S.par _ (List.mem_of_getElem? har)) hns (zip_rev ndP har hu0) ?_
    refine PySem.ks_wpAny_isType_cls hD1 hD2 ⟨rfl, ?_⟩
    refine PySem.ks_wpAny_call_super hD1 hD2 J.at_ J.cls (fun c z => ?_) (PySem.W.looks_mroIn K0 T.sub) (fun h1 e1 k1 => ?_)
    · have := J.no
      unfold PySem.W.notCls at this
      rw [z] at this
      exact Bool.noConfusion this
    have I1 : Inv (cxS P w K mg base N qual scope f (.ref cda) cc A outer s H) [] (L2.start N vs) H { s with heap := h1, toks := s.toks + (ps.zip us).length } := I.kept (t' := s.toks + (ps.zip us).length) k1
    have K1 : K.In h1 := K0.keeps k1
    obtain ⟨of, hof, hofc⟩ : ∃ of, h1.get? f2 = some of ∧ of.cls = .type "function" := by
      have ht' : (K.lookup f2).map (·.cls) = some (.type "function") := T.ty2
      cases z : K.lookup f2 with
      | none => rw [z] at ht'; cases ht'
      | some of => rw [z] at ht'; exact ⟨of, K1 _ _ z, Option.some.inj ht'⟩
    have hsup := T.sup
    unfold PySem.W.ks_superIn at hsup
    rw [hD] at hsup
    have xne : x ≠ D := PySem.W.ks_ne K0 J hD
    refine PySem.ks_wpAny_getMethod_super e1 (PySem.W.looks_opaque K1 T.third) (l₀ := cdD.mro) ?_ rfl K1 hsup hof hofc xne (by decide +kernel) ?_
    · exact fun A Q E s k q => wpAny_bind ((PySem.W.looks_clsIn K1 hD) A _ E s k (wpAny_pure q))
    have I2 := met_new (g := f2) (C := x) I1
    refine callwith_cm (X := cxS P w K mg base N qual scope f (.ref cda) cc A outer s H) I2 (base_none I1 (Nat.le_refl _)) T.fn2 (thn (ha.run p3 _ _ _ H _ I2 hq) fun us2 s3 ⟨vs2, H2, I3, rv, q2⟩ => ⟨⟨pin_at I3, I3.kIn⟩, ?_⟩) (hst _) (hpl _)
    have hl2 : (Value.ref x :: us2).length = ps2.length := by
      have := G2.len _ _ _ _ q2
      have l2 := rv.length
      simp only [List.length_cons] at this ⊢
      omega
    have b := b2 s3 (.ref x :: us2) I3.kIn (by rw [List.append_nil]; exact hl2)
    rw [List.append_nil] at b
    refine wpAny_call (PySem.W.method_call (pin_at I3) (codeAny_mono (G2.run _ _ s3 H2 ⟨.ref x :: us2, []⟩ (.ref x :: us2) (.ref x :: vs2) _ E0 ((hr.deeper _).mono hjk) I3.env0 b (.cons rfl rv) q2) fun r s' hq' => ?_))
    cases r with
    | error e => exact (show False from hq').elim
    | ok fl =>
      cases fl with
      | ret u =>
        obtain ⟨v, H', I4, rv4, q4⟩ := unpinE (I3.after hq')
        exact wpAt_of_wpAny (ht.run [] s' _ H' _ I4 q4)
      | next => exact False.elim hq'
      | brk => exact False.elim hq'
      | cont => exact False.elim hq'
  · have fin : ∀ {σ' : L2.St} {H' : Hp} {v : V} {u : Value}, Inv (cxS P w K mg base N qual scope f (.ref cda) cc A outer s H) [] σ' H' s' → RelV v u → Q v H' → CE outer P w H s Q u s' :=
      fun {σ' H' v u} J rv q => ⟨v, H', J.os, J.bare, J.base, J.hok, rv, q⟩
    cases fl with
    | ret u =>
      obtain ⟨v, σ', H', J, rv, q⟩ := hs
      exact fin J rv q
    | next =>
      obtain ⟨σ', H', J, q⟩ := hs
      exact fin (v := V.non) (u := Value.none) J rfl q
    | brk =>
      obtain ⟨_, _, _, q⟩ := hs
      exact False.elim q
    | cont =>
      obtain ⟨_, _, _, q⟩ := hs
      exact False.elim q
end Dc

set_option Elab.async false
set_option linter.all false
set_option maxRecDepth 100000
set_option maxHeartbeats 2000000
namespace Dc
open PySem PySem.Spec PyProof.Rows L2 ClX
/-! ### an exception's own __init__ that says super().__init__(..) first, ValueError above -/
abbrev mwO (a : Addr) : Obj := PySem.W.kxs_mw "ValueError.__init__" a
theorem pin_mw {X : Cx} {pins : List (Addr × Obj)} {σ : L2.St} {H : Hp} {s : Shared} {a : Addr} (I : Inv X pins σ H s) : Inv X ((s.heap.objs.size, mwO a) :: pins) σ H { s with heap := s.heap.push (mwO a), toks := s.toks + 1 } :=
  pin_new I (fun _ _ z => Heap.get?_push_of_some _ z) (Nat.le_refl _) (Heap.get?_push_size s.heap rfl) (fun v z => nomatch z)
/-- the wrapper is called: nothing of it is told -/
theorem mw_ok {X : Cx} {pins : List (Addr × Obj)} {σ : L2.St} {H : Hp} {s : Shared} {a u C : Addr} {us : List Value} {A : Around} {Q : Value → Shared → Prop} {E : Value → Shared → Prop} (T : OexC X.K C) (I : Inv X pins σ H s) (hu : s.heap.get? u = some (mwO a)) (e : H a = some (exo a C none)) (hl : us.length ≤ sizeLine)
    (h : ∀ s', Inv X pins σ H s' → Q .none s') : wpAny (model X.prog X.w) A (call (.ref u) us) Q E s := by
  obtain ⟨nm, q, N, bs, bm, sn, sub, ab, col, dd, k0, k1, k2, k3, k5, hC, hbm⟩ := T.cls
  obtain ⟨t1, ho⟩ := exo_at I.hok e
  obtain ⟨hp, g, d, t, os⟩ := s
  have fin : ∀ h', (∀ b o, b ≠ a → hp.get? b = some o → h'.get? b = some o) → (∃ t2 : Addr, h'.get? a = some (PySem.HandSPX.excO C t2)) → Q .none ⟨h', g, d, t, os⟩ := fun h' k ⟨t2, hx⟩ => by
    have J := I.write (t' := t) (x := a) (e := a) (o := exo a C none) (by rw [e]; exact True.intro) (.inl rfl) k ⟨_, hx⟩ (exo_ok hx)
    have eu : upd H a (exo a C none) = H := by
      funext b
      by_cases hb : b = a
      · rw [hb, upd_same, e]
      · rw [upd_ne hb]
    rw [eu] at J
    exact h _ J
  refine wpAny_call (codeAny_of_tree ?_)
  show wpAny _ A.in1 (callAny (.ref u) ⟨us, []⟩) _ _ _
  simp only [callAny]
  refine wpAny_bind (wpAny_load hu ?_)
  simp only [mwO, PySem.W.kxs_mw, show (Value.type "method-wrapper" == Value.type "method" || Value.type "method-wrapper" == Value.type "builtin_function_or_method" || Value.type "method-wrapper" == Value.type "method-wrapper") = true by decide, if_true]
  refine PySem.W.KFB.if_so (by decide) ?_
  refine wpAny_bind (PySem.W.check_bound_init F.excBase_ValueError.toExcCallFacts (I.kIn _ _ hC) ho rfl ?_)
  refine wpAny_bind (wpAny_pure (wpAny_pure ?_))
  refine ⟨Code.quiet_builtin _ (by decide +kernel), codeAny_builtin F.excBase_ValueError.initEntry ?_⟩
  refine PySem.W.exc_init_tree (cls := .ref C) (t0 := t1) (dv := none) (c2 := .none) (c3 := .none) (b4 := .bool false) ho hl fun h' k hx _ => ?_
  exact fin h' k ⟨_, hx⟩
structure SupTxtX (P : Program) (K : PySem.W.Frag) (mg : Str → Option Value) (name qual : Str) (params : Arguments) (body : List Stmt) (scope : Scope) (D f : Addr) (fd : FuncData) : Prop where
  ex : ∃ (oc : Value) (od : Option Addr) (kV doc pm : Value) (an : Option Addr) (cda cc : Addr) (ct : Value) (osl : Array (Option Value)) (ccl : Value) (cdd : Option Addr) (ws : Array Value) (ccs : Array (Option Value)) (file : Str) (tf : Tok) (cl : Value) (cld : Option Addr) (csl : Array (Option Value)) (cdD : ClassData),
    fd = PySem.W.ksFn name qual params body scope .none kV doc pm an (.ref cda) ct cc ∧ K.lookup f = some ⟨oc, od, .func fd, osl⟩ ∧ PySem.W.codeIn K (.ref cda) qual = true ∧
    K.lookup cda = some ⟨ccl, cdd, .fields ws, ccs⟩ ∧ ws[2]? = some (.str file tf) ∧ ((P.main.file : Str) == file) = true ∧ K.lookup cc = some ⟨cl, cld, .cell (some (.ref D)), csl⟩ ∧ PySem.W.clsIn K D = some cdD
  sub : PySem.W.mroIn K D (.ref D) = some true
  sup : PySem.W.ks_superIn K D D "__init__" = some (some (.builtin "ValueError.__init__"))
  isV : PySem.W.subIn K (.ref D) (.type "ValueError") = some true
  oex : OexC K D
  third : PySem.W.nsIn K cStatics "thirdparty.any" = some none
  noS : mg "super" = none
  top : (P.main.scope.names.lookup ("super" : Str)).isSome = false
theorem fn_superX {P : Program} {w : World} {K : PySem.W.Frag} {mg : Str → Option Value} {base : Heap} {name qual : Str} {params : Arguments} {scope : Scope} {D f : Addr} {fd : FuncData} {p0 p1 p2 p3 p4 : Pos} {e : Expr} {es : List Expr} {rest : List Stmt}
    {N ps : List Str} {k : Nat} {sp : Sp} {ar : Arg}
    (T : SupTxtX P K mg name qual params (.Expr (.Call (.Attribute (.Call (.Name "super" p0) [] [] p1) "__init__" p2) (e :: es) [] p3) p4 :: rest) scope D f fd) (S : SupScope N ps scope) (hp : (params.posonlyargs ++ params.args).head? = some ar) (har : ps[0]? = some ar.arg)
    (len : ∀ vs H Q E, sp vs H Q E → vs.length = ps.length)
    (hbody : ∀ (cda cc : Addr) (A : Around) (outer : List Env) (s : Shared) (H : Hp) (vs : List V) (Q : VK) (E : XK), Room k (A.deeper (envS qual scope s.heap.objs.size f (.ref cda) cc)) → sp vs H Q E →
      ∃ (x : Addr) (ta : TA) (t : TS), PA (cxS P w K mg base N qual scope f (.ref cda) cc A outer s H) (e :: es) ta ∧ PSs (cxS P w K mg base N qual scope f (.ref cda) cc A outer s H) rest t ∧ vs[0]? = some (.ref x) ∧ H x = some (exo x D none) ∧
        ta (L2.start N vs) H fun ws H1 => ws.length ≤ 1000 ∧ H1 x = some (exo x D none) ∧ t { nx := fun _ H' => Q .non H', rt := Q } (L2.start N vs) H1)
    (hst : ∀ env : Env, starEach (e :: es) env = (false, eval e env) :: starEach es env) (hpl : ∀ env : Env, (backTo p3 (starEach es env)).any (·.1) = false)
    (hsw : ∀ env : Env, swapsWith (.Call (.Attribute (.Call (.Name "super" p0) [] [] p1) "__init__" p2) (e :: es) [] p3) none p4.line env = pure false)
    {pl : Env → Sem Bool}
    (hev : ∀ env : Env, eval (.Call (.Attribute (.Call (.Name "super" p0) [] [] p1) "__init__" p2) (e :: es) [] p3) env = (do
      let ov ← attributeBase (.Call (.Name "super" p0) [] [] p1) "__init__" env (eval (.Call (.Name "super" p0) [] [] p1) env)
      standAt p2.atName
      let (f, first) ← holding [ov] (getMethod ov "__init__" (pl env))
      callWith p3 f first (backTo p3 (starEach (e :: es) env)) [])) :
    FnOk P w K mg base CX0 (k + 1) f fd ps sp := by
  obtain ⟨oc, od, kV, doc, pm, an, cda, cc, ct, osl, ccl, cdd, ws, ccs, file, tf, cl, cld, csl, cdD, rfl, lk, hcd, hcode, hws, hfile, hcell, hD⟩ := T.ex
  refine ⟨len, fun A outer s H args us vs Q E hr e0 hb r hsp => ?_⟩
  have hl := len _ _ _ _ hsp
  have KX : K.In s.heap := e0.mod.kin.keeps fun b o e => (e0.bs b o e).1
  have lim : s.heap.NoLimit := e0.mod.nolimit.keeps fun b o e => (e0.bs b o e).1
  obtain ⟨x, ta, t, ha, ht, hx0, hxH, hq⟩ := hbody cda cc A outer s H vs Q E (hr.deeper _) hsp
  have hloc : ∀ y ∈ ps.zip us, scope.names.lookup y.1 = some .local := fun ⟨n, v⟩ hy => S.par n (List.of_mem_zip hy).1
  refine PySem.ks_codeAny_call_defAt hr.depth (KX _ _ lk) rfl lim (PySem.W.codeRec_of KX hcd) rfl hb S.nocell hloc (fun h₀ hns hk => ?_) S.co S.gen S.kind
  have I := inv_super (tk := s.toks + (ps.zip us).length) (cd := .ref cda) (P := P) (w := w) (mg := mg) (qual := qual) (f := f) S hr.hd e0 hl r hcell rfl hns hk
  show _root_.PySem.wpAt (model P w) (A.deeper (envS qual scope s.heap.objs.size f (.ref cda) cc)) (.func _ (envS qual scope s.heap.objs.size f (.ref cda) cc)) (execs _ (envS qual scope s.heap.objs.size f (.ref cda) cc)) _ _ _
  refine PySem.ks_wpAt_mono (Q := SP (cxS P w K mg base N qual scope f (.ref cda) cc A outer s H) [] { nx := fun _ H' => Q .non H', rt := Q }) (E := fun _ _ => False) ?_ (fun fl s' hs => ?_) (fun _ _ z => z.elim)
  · refine PySem.ks_wpAt_execs_cons (PySem.ks_wpAt_Expr_any (PySem.ks_wpAt_MethodCall (pl := pl _) ?_ (hev _)) I.quiet (hsw _))
    have K0 : K.In h₀ := KX.keeps hk
    obtain ⟨oD, hD1, hD2⟩ : ∃ oD, h₀.get? D = some oD ∧ oD.data = .cls cdD := by
      unfold PySem.W.clsIn at hD
      split at hD
      · rename_i c d cd' sl ho
        cases hD
        exact ⟨_, K0 _ _ ho, rfl⟩
      · cases hD
    obtain ⟨u0, hu0, ru0⟩ := r.get hx0
    obtain rfl : u0 = Value.ref x := ru0
    have ndP : ps.Nodup := by rw [← S.pre]; exact S.nd.sublist (List.take_sublist _ _)
    obtain ⟨t1, hox⟩ := exo_at I.hok hxH
    have hox : h₀.get? x = some ({ cls := .ref D, dict := none, data := .fields #[.ref t1, .none, .none, .none, .bool false, .none] } : Obj) := hox
    obtain ⟨mb, hmb, hbb⟩ := e0.mod.blt
    have up0 : ∀ b o, base.get? b = some o → h₀.get? b = some o := fun b o z => hk _ _ (e0.bs b o z).1
    refine PySem.ks_wpAt_super_base (env := envS qual scope s.heap.objs.size f (.ref cda) cc) S.hs S.hk (by decide +kernel) rfl (hk _ _ (KX _ _ lk)) rfl hp rfl (hk _ _ (KX _ _ hcode)) rfl hws hfile T.top ?_
    refine PySem.W.ks_loadName_global S.kind S.hs (PySem.Calls.loadGlobal_builtin (env := envS qual scope s.heap.objs.size f (.ref cda) cc) (e0.mod.glob.keeps up0) T.noS (hmb.keeps up0) ((hbb _ (by decide +kernel)).trans (by first | rfl | kernel_rfl)) ⟨rfl, ?_⟩)
    refine wpAny_loadName_free S.kind S.hk rfl ⟨_, K0 _ _ hcell, rfl⟩ ?_
    refine wpAny_loadName_local S.kind (S.par _ (List.mem_of_getElem? har)) hns (zip_rev ndP har hu0) ?_
    refine PySem.ks_wpAny_isType_cls hD1 hD2 ⟨rfl, ?_⟩
    refine PySem.ks_wpAny_call_super hD1 hD2 hox rfl (fun c z => nomatch z) (PySem.W.looks_mroIn K0 T.sub) (fun h1 e1 k1 => ?_)
    have I1 : Inv (cxS P w K mg base N qual scope f (.ref cda) cc A outer s H) [] (L2.start N vs) H { s with heap := h1, toks := s.toks + (ps.zip us).length } := I.kept (t' := s.toks + (ps.zip us).length) k1
    have K1 : K.In h1 := K0.keeps k1
    have hsup := T.sup
    unfold PySem.W.ks_superIn at hsup
    rw [hD] at hsup
    have J : PySem.W.InstAt h1 x { cls := .ref D, dict := none, data := .fields #[.ref t1, .none, .none, .none, .bool false, .none] } D none := ⟨k1 _ _ hox, rfl, rfl, trivial⟩
    have xne : x ≠ D := PySem.W.ks_ne K1 J hD
    refine PySem.W.kxs_getMethod PySem.W.kxs_ValueError e1 (PySem.W.looks_opaque K1 T.third) (l₀ := cdD.mro) ?_ rfl K1 hsup (J.type.andThen (PySem.W.looks_subIn K1 T.isV)) xne (by decide +kernel) ?_
    · exact fun A Q E s k q => wpAny_bind ((PySem.W.looks_clsIn K1 hD) A _ E s k (wpAny_pure q))
    have I2 := pin_mw (a := x) I1
    rw [hst]
    refine PySem.W.kxs_callWith (i := "ValueError.__init__") (x := x) (by show (false || (backTo p3 (starEach es _)).any (·.1)) = false; rw [hpl]; rfl) ?_
    refine PySem.Calls.evalArgs_plain ?_
    have hrun := ha.run p3 _ _ _ H _ I2 hq
    rw [hst] at hrun
    refine thn hrun fun us2 s3 hs3 => ?_
    obtain ⟨vs2, H2, I3, rv, hl2, hx2, q2⟩ := hs3
    refine ⟨pin_at I3, ?_⟩
    have hu2 : us2.length ≤ sizeLine := by rw [← rv.length]; exact Nat.le_trans hl2 (by decide)
    exact mw_ok T.oex I3 (pin_at I3) hx2 hu2 fun s' J' => wpAt_of_wpAny (ht.run [] s' _ H2 _ (unpin J') q2)
  · have fin : ∀ {σ' : L2.St} {H' : Hp} {v : V} {u : Value}, Inv (cxS P w K mg base N qual scope f (.ref cda) cc A outer s H) [] σ' H' s' → RelV v u → Q v H' → CE outer P w H s Q u s' :=
      fun {σ' H' v u} J rv q => ⟨v, H', J.os, J.bare, J.base, J.hok, rv, q⟩
    cases fl with
    | ret u =>
      obtain ⟨v, σ', H', J, rv, q⟩ := hs
      exact fin J rv q
    | next =>
      obtain ⟨σ', H', J, q⟩ := hs
      exact fin (v := V.non) (u := Value.none) J rfl q
    | brk =>
      obtain ⟨_, _, _, q⟩ := hs
      exact False.elim q
    | cont =>
      obtain ⟨_, _, _, q⟩ := hs
      exact False.elim q
end Dc

set_option Elab.async false
set_option linter.all false
set_option maxRecDepth 100000
set_option maxHeartbeats 2000000
namespace Dc
open PySem PySem.Spec PyProof.Rows L2
/-! ### chains as data -/
inductive Mkr where
  | count (b s : Int)
  | row (ns : List Int)
inductive Kd where
  | add (n : Int) | times (n : Int) | keep (r w : Int) | drop (k : Int) | take (k : Int) | each (k : Int) | «until» (n : Int) | unlike
/-- a chain, its stages from the maker on -/
inductive Ch where
  | mkr (m : Mkr)
  | st (c : Ch) (k : Kd)
  | both (c o : Ch)
  | thn (c o : Ch)
def numOk (n : Int) : Prop := -(10 ^ 30) < n ∧ n < 10 ^ 30
def Mkr.ok : Mkr → Prop
  | .count b s => numOk b ∧ numOk s
  | .row ns => ns.length ≤ 100 ∧ ∀ n ∈ ns, numOk n
def Mkr.isRow : Mkr → Prop
  | .count _ _ => False
  | .row _ => True
def Kd.ok : Kd → Prop
  | .add n => numOk n
  | .times n => numOk n ∧ -(2 ^ 64) < n ∧ n < 2 ^ 64
  | .keep r w => 2 ≤ w ∧ w ≤ 1000 ∧ 0 ≤ r ∧ r < w
  | .drop k => 0 ≤ k ∧ k ≤ 100
  | .take k => 0 ≤ k ∧ k ≤ 100
  | .each k => 1 ≤ k ∧ k ≤ 10
  | .until n => numOk n
  | .unlike => True
def Ch.ok : Ch → Prop
  | .mkr m => m.ok
  | .st c k => c.ok ∧ k.ok
  | .both c o => c.ok ∧ o.ok
  | .thn c o => c.ok ∧ o.ok
def Ch.rows : Ch → Prop
  | .mkr m => m.isRow
  | .st c _ => c.rows
  | .both c o => c.rows ∧ o.rows
  | .thn c o => c.rows ∧ o.rows
/-- how many makers, how many stages in all, how many stages of its own -/
def Ch.nm : Ch → Nat
  | .mkr _ => 1
  | .st c _ => c.nm
  | .both c o => c.nm + o.nm
  | .thn c o => c.nm + o.nm
def Ch.ns : Ch → Nat
  | .mkr _ => 0
  | .st c _ => c.ns + 1
  | .both c o => c.ns + o.ns + 1
  | .thn c o => c.ns + o.ns + 1
def Ch.len : Ch → Nat
  | .mkr _ => 0
  | .st c _ => c.len + 1
  | .both c _ => c.len + 1
  | .thn c _ => c.len + 1
theorem Ch.nm_pos : ∀ c : Ch, 1 ≤ c.nm
  | .mkr _ => Nat.le_refl _
  | .st c _ => c.nm_pos
  | .both c o => by have := c.nm_pos; show 1 ≤ c.nm + o.nm; omega
  | .thn c o => by have := c.nm_pos; show 1 ≤ c.nm + o.nm; omega
theorem Ch.len_le : ∀ c : Ch, c.len ≤ c.ns
  | .mkr _ => Nat.le_refl _
  | .st c _ => by have := c.len_le; show c.len + 1 ≤ c.ns + 1; omega
  | .both c o => by have := c.len_le; show c.len + 1 ≤ c.ns + o.ns + 1; omega
  | .thn c o => by have := c.len_le; show c.len + 1 ≤ c.ns + o.ns + 1; omega
/-! ### chains in the heap -/
def Kd.vals : Kd → List V
  | .add n => [.str "add", .int n]
  | .times n => [.str "times", .int n]
  | .keep r w => [.str "keep", .int r, .int w]
  | .drop k => [.str "drop", .int k]
  | .take k => [.str "take", .int k]
  | .each k => [.str "each", .int k]
  | .until n => [.str "until", .int n]
  | .unlike => [.str "unlike"]
def Kd.name : Kd → Str
  | .add _ => "add"
  | .times _ => "times"
  | .keep _ _ => "keep"
  | .drop _ => "drop"
  | .take _ => "take"
  | .each _ => "each"
  | .until _ => "until"
  | .unlike => "unlike"
theorem Kd.at0 (k : Kd) : atI k.vals 0 = some (.str k.name) := by cases k <;> rfl
def MkAt (H : Hp) (a : Addr) : Mkr → Prop
  | .count b s => H a = some (.tup [.str "count", .int b, .int s])
  | .row ns => ∃ r, H a = some (.tup [.str "row", .ref r]) ∧ H r = some (.tup (ns.map V.int))
def StsAt (H : Hp) : Ch → Addr → List Addr → Prop
  | .mkr m, a, as => as = [] ∧ MkAt H a m
  | .st c k, a, as => ∃ as' x, as = as' ++ [x] ∧ StsAt H c a as' ∧ H x = some (.tup k.vals)
  | .both c o, a, as => ∃ as' x p, as = as' ++ [x] ∧ StsAt H c a as' ∧ H x = some (.tup [.str "both", .ref p]) ∧ ∃ m ss bs, H p = some (.tup [.ref m, .ref ss]) ∧ H ss = some (.tup (bs.map V.ref)) ∧ StsAt H o m bs
  | .thn c o, a, as => ∃ as' x p, as = as' ++ [x] ∧ StsAt H c a as' ∧ H x = some (.tup [.str "then", .ref p]) ∧ ∃ m ss bs, H p = some (.tup [.ref m, .ref ss]) ∧ H ss = some (.tup (bs.map V.ref)) ∧ StsAt H o m bs
def ChAt (H : Hp) (p : Addr) (c : Ch) : Prop := ∃ m ss bs, H p = some (.tup [.ref m, .ref ss]) ∧ H ss = some (.tup (bs.map V.ref)) ∧ StsAt H c m bs
/-- a stage, simple or with a chain -/
inductive Sg where
  | one (k : Kd)
  | both (o : Ch)
  | thn (o : Ch)
def SgAt (H : Hp) (x : Addr) : Sg → Prop
  | .one k => H x = some (.tup k.vals)
  | .both o => ∃ p, H x = some (.tup [.str "both", .ref p]) ∧ ChAt H p o
  | .thn o => ∃ p, H x = some (.tup [.str "then", .ref p]) ∧ ChAt H p o
def Ch.snoc (c : Ch) : Sg → Ch
  | .one k => .st c k
  | .both o => .both c o
  | .thn o => .thn c o
def Sg.ok : Sg → Prop
  | .one k => k.ok
  | .both o => o.ok
  | .thn o => o.ok
def Sg.rows : Sg → Prop
  | .one _ => True
  | .both o => o.rows
  | .thn o => o.rows
def Sg.nm : Sg → Nat
  | .one _ => 0
  | .both o => o.nm
  | .thn o => o.nm
def Sg.ns : Sg → Nat
  | .one _ => 0
  | .both o => o.ns
  | .thn o => o.ns
theorem StsAt.snoc {H : Hp} {c : Ch} {a x : Addr} {as : List Addr} {g : Sg} (h : StsAt H c a as) (hx : SgAt H x g) : StsAt H (c.snoc g) a (as ++ [x]) := by
  cases g with
  | one k => exact ⟨as, x, rfl, h, hx⟩
  | both o => obtain ⟨p, h1, h2⟩ := hx; exact ⟨as, x, p, rfl, h, h1, h2⟩
  | thn o => obtain ⟨p, h1, h2⟩ := hx; exact ⟨as, x, p, rfl, h, h1, h2⟩
theorem Ch.snoc_nm (c : Ch) (g : Sg) : (c.snoc g).nm = c.nm + g.nm := by cases g <;> rfl
theorem Ch.snoc_ns (c : Ch) (g : Sg) : (c.snoc g).ns = c.ns + g.ns + 1 := by cases g <;> rfl
theorem Ch.snoc_ok {c : Ch} {g : Sg} (h : c.ok) (h' : g.ok) : (c.snoc g).ok := by cases g <;> exact ⟨h, h'⟩
theorem Ch.snoc_rows {c : Ch} {g : Sg} (h : c.rows) (h' : g.rows) : (c.snoc g).rows := by cases g <;> first | exact h | exact ⟨h, h'⟩
theorem MkAt.fr {S : List Addr} {H H' : Hp} {a : Addr} {m : Mkr} (f : Fr S H H') (h : MkAt H a m) : MkAt H' a m := by
  cases m with
  | count b s => exact f.tp h
  | row ns => obtain ⟨r, h1, h2⟩ := h; exact ⟨r, f.tp h1, f.tp h2⟩
theorem StsAt.fr {S : List Addr} {H H' : Hp} (f : Fr S H H') : ∀ {c : Ch} {a : Addr} {as : List Addr}, StsAt H c a as → StsAt H' c a as
  | .mkr m, a, as, ⟨h1, h2⟩ => ⟨h1, h2.fr f⟩
  | .st c k, a, as, ⟨as', x, h1, h2, h3⟩ => ⟨as', x, h1, h2.fr f, f.tp h3⟩
  | .both c o, a, as, ⟨as', x, p, h1, h2, h3, m, ss, bs, h4, h5, h6⟩ => ⟨as', x, p, h1, h2.fr f, f.tp h3, m, ss, bs, f.tp h4, f.tp h5, h6.fr f⟩
  | .thn c o, a, as, ⟨as', x, p, h1, h2, h3, m, ss, bs, h4, h5, h6⟩ => ⟨as', x, p, h1, h2.fr f, f.tp h3, m, ss, bs, f.tp h4, f.tp h5, h6.fr f⟩
theorem ChAt.fr {S : List Addr} {H H' : Hp} {p : Addr} {c : Ch} (f : Fr S H H') (h : ChAt H p c) : ChAt H' p c := by
  obtain ⟨m, ss, bs, h1, h2, h3⟩ := h
  exact ⟨m, ss, bs, f.tp h1, f.tp h2, h3.fr f⟩
theorem SgAt.fr {S : List Addr} {H H' : Hp} {x : Addr} {g : Sg} (f : Fr S H H') (h : SgAt H x g) : SgAt H' x g := by
  cases g with
  | one k => exact f.tp h
  | both o => obtain ⟨p, h1, h2⟩ := h; exact ⟨p, f.tp h1, h2.fr f⟩
  | thn o => obtain ⟨p, h1, h2⟩ := h; exact ⟨p, f.tp h1, h2.fr f⟩
theorem StsAt.length {H : Hp} : ∀ {c : Ch} {a : Addr} {as : List Addr}, StsAt H c a as → as.length = c.len
  | .mkr m, a, as, ⟨h1, h2⟩ => by rw [h1]; rfl
  | .st c k, a, as, ⟨as', x, h1, h2, h3⟩ => by rw [h1, List.length_append, h2.length]; rfl
  | .both c o, a, as, ⟨as', x, p, h1, h2, _⟩ => by rw [h1, List.length_append, h2.length]; rfl
  | .thn c o, a, as, ⟨as', x, p, h1, h2, _⟩ => by rw [h1, List.length_append, h2.length]; rfl
end Dc

set_option Elab.async false
set_option linter.all false
set_option maxRecDepth 100000
set_option maxHeartbeats 2000000
namespace Dc
open PySem PySem.Spec PyProof.Rows L2
/-! ### a chain by its stages -/
def Ch.sgs : Ch → List Sg
  | .mkr _ => []
  | .st c k => c.sgs ++ [.one k]
  | .both c o => c.sgs ++ [.both o]
  | .thn c o => c.sgs ++ [.thn o]
def Ch.root : Ch → Mkr
  | .mkr m => m
  | .st c _ => c.root
  | .both c _ => c.root
  | .thn c _ => c.root
def Ch.of (m : Mkr) (l : List Sg) : Ch := l.foldl Ch.snoc (.mkr m)
theorem Ch.of_snoc (m : Mkr) (l : List Sg) (g : Sg) : Ch.of m (l ++ [g]) = (Ch.of m l).snoc g := by unfold Ch.of; rw [List.foldl_append]; rfl
theorem Ch.of_sgs : ∀ c : Ch, Ch.of c.root c.sgs = c
  | .mkr _ => rfl
  | .st c k => by show Ch.of c.root (c.sgs ++ [.one k]) = _; rw [Ch.of_snoc, Ch.of_sgs c]; rfl
  | .both c o => by show Ch.of c.root (c.sgs ++ [.both o]) = _; rw [Ch.of_snoc, Ch.of_sgs c]; rfl
  | .thn c o => by show Ch.of c.root (c.sgs ++ [.thn o]) = _; rw [Ch.of_snoc, Ch.of_sgs c]; rfl
theorem Ch.of_take (m : Mkr) {l : List Sg} {i : Nat} {g : Sg} (h : l[i]? = some g) : Ch.of m (l.take (i + 1)) = (Ch.of m (l.take i)).snoc g := by
  rw [List.take_succ, h]
  exact Ch.of_snoc m _ g
theorem StsAt.root {H : Hp} : ∀ {c : Ch} {a : Addr} {as : List Addr}, StsAt H c a as → MkAt H a c.root
  | .mkr m, a, as, ⟨_, h⟩ => h
  | .st c k, a, as, ⟨as', x, _, h, _⟩ => StsAt.root (c := c) h
  | .both c o, a, as, ⟨as', x, p, _, h, _⟩ => StsAt.root (c := c) h
  | .thn c o, a, as, ⟨as', x, p, _, h, _⟩ => StsAt.root (c := c) h
theorem get_snoc {α : Type} {l : List α} {x y : α} {i : Nat} (h : (l ++ [x])[i]? = some y) : l[i]? = some y ∨ (i = l.length ∧ y = x) := by
  rcases Nat.lt_trichotomy i l.length with q | q | q
  · rw [List.getElem?_append_left q] at h; exact .inl h
  · subst q
    rw [List.getElem?_append_right (Nat.le_refl _), Nat.sub_self] at h
    exact .inr ⟨rfl, (Option.some.inj h).symm⟩
  · rw [List.getElem?_eq_none (by simp; omega)] at h; cases h
theorem StsAt.get {H : Hp} : ∀ {c : Ch} {a : Addr} {as : List Addr}, StsAt H c a as → as.length = c.sgs.length ∧ ∀ (i : Nat) (x : Addr), as[i]? = some x → ∃ g, c.sgs[i]? = some g ∧ SgAt H x g
  | .mkr m, a, as, ⟨e, _⟩ => by subst e; exact ⟨rfl, fun i x h => by cases h⟩
  | .st c k, a, as, ⟨as', x, e, h, hx⟩ => by
    subst e
    obtain ⟨h1, h2⟩ := StsAt.get (c := c) h
    refine ⟨by show (as' ++ [x]).length = (c.sgs ++ [Sg.one k]).length; simp [h1], fun i y hy => ?_⟩
    show ∃ g, (c.sgs ++ [Sg.one k])[i]? = some g ∧ _
    rcases get_snoc hy with q | ⟨rfl, rfl⟩
    · obtain ⟨g, q1, q2⟩ := h2 i y q
      exact ⟨g, by rw [List.getElem?_append_left (List.getElem?_eq_some_iff.mp q1).1]; exact q1, q2⟩
    · exact ⟨.one k, by rw [h1]; simp, hx⟩
  | .both c o, a, as, ⟨as', x, p, e, h, hx, ho⟩ => by
    subst e
    obtain ⟨h1, h2⟩ := StsAt.get (c := c) h
    refine ⟨by show (as' ++ [x]).length = (c.sgs ++ [Sg.both o]).length; simp [h1], fun i y hy => ?_⟩
    show ∃ g, (c.sgs ++ [Sg.both o])[i]? = some g ∧ _
    rcases get_snoc hy with q | ⟨rfl, rfl⟩
    · obtain ⟨g, q1, q2⟩ := h2 i y q
      exact ⟨g, by rw [List.getElem?_append_left (List.getElem?_eq_some_iff.mp q1).1]; exact q1, q2⟩
    · exact ⟨.both o, by rw [h1]; simp, p, hx, ho⟩
  | .thn c o, a, as, ⟨as', x, p, e, h, hx, ho⟩ => by
    subst e
    obtain ⟨h1, h2⟩ := StsAt.get (c := c) h
    refine ⟨by show (as' ++ [x]).length = (c.sgs ++ [Sg.thn o]).length; simp [h1], fun i y hy => ?_⟩
    show ∃ g, (c.sgs ++ [Sg.thn o])[i]? = some g ∧ _
    rcases get_snoc hy with q | ⟨rfl, rfl⟩
    · obtain ⟨g, q1, q2⟩ := h2 i y q
      exact ⟨g, by rw [List.getElem?_append_left (List.getElem?_eq_some_iff.mp q1).1]; exact q1, q2⟩
    · exact ⟨.thn o, by rw [h1]; simp, p, hx, ho⟩
theorem Ch.ok_sgs : ∀ {c : Ch}, c.ok → c.root.ok ∧ ∀ g ∈ c.sgs, g.ok
  | .mkr m, h => ⟨h, fun g hg => by cases hg⟩
  | .st c k, h => ⟨(Ch.ok_sgs h.1).1, fun g hg => by
    rcases List.mem_append.mp (show g ∈ c.sgs ++ [.one k] from hg) with q | q
    · exact (Ch.ok_sgs h.1).2 g q
    · rw [List.mem_singleton.mp q]; exact h.2⟩
  | .both c k, h => ⟨(Ch.ok_sgs h.1).1, fun g hg => by
    rcases List.mem_append.mp (show g ∈ c.sgs ++ [.both k] from hg) with q | q
    · exact (Ch.ok_sgs h.1).2 g q
    · rw [List.mem_singleton.mp q]; exact h.2⟩
  | .thn c k, h => ⟨(Ch.ok_sgs h.1).1, fun g hg => by
    rcases List.mem_append.mp (show g ∈ c.sgs ++ [.thn k] from hg) with q | q
    · exact (Ch.ok_sgs h.1).2 g q
    · rw [List.mem_singleton.mp q]; exact h.2⟩
theorem Ch.of_append_nm (m : Mkr) (l : List Sg) : ∀ r : List Sg, (Ch.of m l).nm ≤ (Ch.of m (l ++ r)).nm := by
  intro r
  induction r generalizing l with
  | nil => rw [List.append_nil]; exact Nat.le_refl _
  | cons g r ih =>
    have := ih (l ++ [g])
    rw [List.append_assoc] at this
    refine Nat.le_trans ?_ this
    rw [Ch.of_snoc, Ch.snoc_nm]
    exact Nat.le_add_right _ _
theorem Ch.of_append_ns (m : Mkr) (l : List Sg) : ∀ r : List Sg, (Ch.of m l).ns ≤ (Ch.of m (l ++ r)).ns := by
  intro r
  induction r generalizing l with
  | nil => rw [List.append_nil]; exact Nat.le_refl _
  | cons g r ih =>
    have := ih (l ++ [g])
    rw [List.append_assoc] at this
    refine Nat.le_trans ?_ this
    rw [Ch.of_snoc, Ch.snoc_ns]
    omega
theorem Ch.of_take_nm (c : Ch) (i : Nat) : (Ch.of c.root (c.sgs.take i)).nm ≤ c.nm := by
  have := Ch.of_append_nm c.root (c.sgs.take i) (c.sgs.drop i)
  rw [List.take_append_drop, Ch.of_sgs] at this
  exact this
end Dc

set_option Elab.async false
set_option linter.all false
set_option maxRecDepth 100000
set_option maxHeartbeats 2000000
namespace Dc
open PySem PySem.Spec PyProof.Rows L2
local macro_rules | `(tactic| walk_at "ne") => `(tactic| first | assumption | (refine Ne.symm ?_; assumption) | exact ne_of (by assumption) (by assumption) (by intro q; cases q) | exact ne_of_none (by assumption) (by assumption) | exact Ne.symm (ne_of_none (by assumption) (by assumption)))
local macro_rules | `(tactic| walk_at "hp") => `(tactic| first | assumption | exact upd_same | (refine upd_keep ?_ (by assumption); walk_at "hp") | (refine upd_other ?_ ?_; · walk_at "ne"; · walk_at "hp"))
local macro_rules | `(tactic| walk_at "hl") => `(tactic| first | assumption | exact SqL.of (by walk_at "hp"))
local macro_rules | `(tactic| walk_at "ht") => `(tactic| first | assumption | exact SqT.of (by walk_at "hp"))
local macro_rules | `(tactic| walk_at "rd1") => `(tactic| first
  | ((with_reducible apply rd_var); exact rfl)
  | ((with_reducible apply rd_eq); exact rfl) | ((with_reducible apply rd_ne); exact rfl)
  | with_reducible first
  | refine iteT ?_ | refine iteF ?_ | refine rd_nF ?_ | refine rd_nT ?_ | refine rd_yes ?_ | refine rd_c ?_ | refine rd_op ?_ | refine rd_un ?_ | refine rd_test ?_ | refine rd_B ?_ | refine rd_bl ?_ | refine rd_seq ?_ | refine rd_next ?_ | refine rd_ifs ?_ | refine rd_asg ?_ | refine rd_name ?_ | refine rd_ret ?_ | refine rd_drop ?_
  | refine rd_call ?_ | refine rd_cons ?_ | refine rd_nil ?_ | refine rd_cb ?_ | refine rd_I0 ?_ | refine rd_U ?_ | refine rd_gsub ?_ | refine rd_lst ?_ | refine rd_tup ?_ | refine rd_if ?_ | refine rd_not ?_ | refine rd_rng1 ?_ | refine rd_itup ?_ | refine rd_ilst ?_ | refine rd_bm ?_ | refine rd_bm0 ?_ | refine rd_andV ?_ | refine rd_orV ?_ | refine rd_notV ?_)
local macro_rules | `(tactic| walk_at "rd") => `(tactic| repeat walk_at "rd1")
local macro_rules | `(tactic| walk_at "ci") => `(tactic| first | assumption | (show (0 : Int) < _; first | decide | omega) | exact ⟨by decide, by decide⟩ | exact Or.inr ⟨by decide, by decide⟩ | exact Or.inl ⟨by decide, by decide⟩ | exact ⟨by decide, by decide, by decide⟩ | exact Or.inl ⟨by omega, by omega⟩ | exact Or.inr ⟨by omega, by omega⟩)
local macro_rules | `(tactic| walk_at "ix") => `(tactic| first
  | ((with_reducible apply rd_ixL); (walk_at "hl"); exact rfl)
  | ((with_reducible apply rd_ixT); (walk_at "ht"); exact rfl)
  | ((with_reducible apply rd_lenL); (walk_at "hl"))
  | ((with_reducible apply rd_lenT); (walk_at "ht"))
  | ((with_reducible apply rd_tupOf); (walk_at "hl"))
  | ((with_reducible apply rd_listOf); (walk_at "hl"))
  | (with_reducible refine rd_min2 ?_)
  | ((with_reducible apply rd_I); (walk_at "ci"))
  | ((with_reducible apply rd_setL); (walk_at "hp"); exact rfl))
local macro_rules | `(tactic| walk_at "gs") => `(tactic| repeat first | walk_at "rd1" | walk_at "ix")
local macro_rules | `(tactic| walk_at "go") => `(tactic| repeat first | walk_at "rd1" | walk_at "ix" | with_reducible refine rd_and ?_ | with_reducible refine rd_or ?_)
local macro_rules | `(tactic| walk_at "fo") => `(tactic| (with_reducible refine rd_for ?_))
local macro_rules | `(tactic| walk_at "pm") => `(tactic| repeat first
  | with_reducible first | refine rd_pcons ?_ | refine rd_pstr ?_ | refine rd_pcap ?_ | refine rd_pwild ?_ | refine rd_pnil ?_ | refine rd_por ?_ | refine rd_pno ?_
  | ((with_reducible refine rd_eq rfl ?_); refine ⟨_, rfl, ?_⟩; first | refine rd_T rfl ?_ | refine rd_F (by decide) ?_)
  | dsimp only [List.nil_append, List.singleton_append, List.cons_append, setAll])
local macro_rules | `(tactic| walk_at "pc") => `(tactic| (refine rd_case ?_); (first | (refine rd_phit (SqT.of (by assumption)) rfl ?_) | (refine rd_pmiss (SqT.of (by assumption)) (by simp) ?_)); (walk_at "pm"))

/-! ### a good chain is let by -/
theorem rd_chain {r r' : R2} {ta tb tc : TE} {σ : L2.St} {H : Hp} {Q : VK} (h : ta σ H fun x H1 => tb σ H1 fun y H2 => r x y H2 fun z H3 => ∃ k, z = .bl k ∧ (if k = true then tc σ H3 fun w' H4 => r' y w' H4 Q else Q (.bl false) H3)) : tChain r r' ta tb tc σ H Q := h
theorem isi_int_bool : kitB "int" "bool" = some false := by decide +kernel
theorem isi_int_int : kitB "int" "int" = some true := by decide +kernel
theorem isi_tuple : kitB "tuple" "tuple" = some true := by decide +kernel
theorem tyx_tup {K : PySem.W.Frag} {H : Hp} {a : Addr} {xs : List V} (h : H a = some (.tup xs)) : TyX K H (.ref a) (.type "tuple") := .base (.tup h)
theorem tyx_int {K : PySem.W.Frag} {H : Hp} {n : Int} : TyX K H (.int n) (.type "int") := .base (.int n)
def spIsNumber : Sp := fun vs H Q _ => ∃ n : Int, vs = [.int n] ∧ numOk n ∧ Q (.bl true) H
def spIsWithin : Sp := fun vs H Q _ => ∃ n lo hi : Int, vs = [.int n, .int lo, .int hi] ∧ numOk n ∧ lo ≤ n ∧ n ≤ hi ∧ Q (.bl true) H
def spIsRow : Sp := fun vs H Q _ => ∃ (r : Addr) (ns : List Int), vs = [.ref r] ∧ H r = some (.tup (ns.map V.int)) ∧ ns.length ≤ 100 ∧ (∀ n ∈ ns, numOk n) ∧ ∀ H', Fr [] H H' → Q (.bl true) H'
def spIsMaker : Sp := fun vs H Q _ => ∃ (a : Addr) (k : Mkr), vs = [.ref a] ∧ MkAt H a k ∧ k.ok ∧ ∀ H', Fr [] H H' → Q (.bl true) H'
section
variable {P : Program} {w : World} {K : PySem.W.Frag} {mg : Str → Option Value} {base : Heap} {f f2 : Addr} {fd fd2 : FuncData}
theorem sc_is_number : FnScope ["number"] ["number"] (defScope s_is_number) := ⟨rfl, rfl, rfl, by decide +kernel, rfl, by decide +kernel, by decide +kernel⟩
theorem ok_is_number (T : Txt K mg) (F : FnP K "is_number" "is_number" s_is_number f fd) : FnOk P w K mg base CX0 1 f fd ["number"] spIsNumber := by
  refine ok0 F sc_is_number (fun vs H Q E h => ?_) (fun cdv A outer s H vs Q E hr h => ?_)
  · obtain ⟨n, rfl, _⟩ := h
    rfl
  · obtain ⟨n, rfl, hn, k⟩ := h
    refine ⟨_, (pss_cons (ps_if (PW.pt (pw_or (pt_val (pe_callB (call_isiK1 K) (by rfl) T.free_isinstance (by decide +kernel) (pa_cons (pv 0) (pa_cons (pe_bltn (v := .ty "bool") (u := .type "bool") (by rfl) T.free_bool (by decide +kernel) rfl) pa_nil)))) (pw_or1 (pt_not (pt_val (pe_callB (call_isiK1 K) (by rfl) T.free_isinstance (by decide +kernel) (pa_cons (pv 0) (pa_cons (pe_bltn (v := .ty "int") (u := .type "int") (by rfl) T.free_int (by decide +kernel) rfl) pa_nil))))))))
    (pss_one (ps_ret pe_bl)) pss_nil)
  (pss_one (ps_ret (pe_chain op_lt op_lt (pe_un un_neg (pe_cint T.c_FIRST_TOO_LARGE)) (pv 0) (pe_cint T.c_FIRST_TOO_LARGE))))), ?_⟩
    try dsimp only [cxOf, Cx.nox, Cx.wish]
    refine rd_at (σ' := [some (.int n)]) rfl ?_
    walk_at "go"
    refine rd_isi tyx_int isi_int_bool ?_
    walk_at "go"
    refine rd_isi tyx_int isi_int_int ?_
    walk_at "go"
    refine rd_chain ?_
    walk_at "go"
    refine rd_T hn.1 ?_
    walk_at "go"
    have h2 : n < 1000000000000000000000000000000 := by have := hn.2; omega
    rw [decide_eq_true h2]
    exact k
theorem sc_is_within : FnScope ["number", "low", "high"] ["number", "low", "high"] (defScope s_is_within) := ⟨rfl, rfl, rfl, by decide +kernel, rfl, by decide +kernel, by decide +kernel⟩
theorem ok_is_within (T : Txt K mg) (F : FnP K "is_within" "is_within" s_is_within f fd) (G_is_number : Cal P w K mg base CX0 1 "is_number" ["number"] spIsNumber) : FnOk P w K mg base CX0 2 f fd ["number", "low", "high"] spIsWithin := by
  refine ok0 F sc_is_within (fun vs H Q E h => ?_) (fun cdv A outer s H vs Q E hr h => ?_)
  · obtain ⟨n, lo, hi, rfl, _⟩ := h
    rfl
  · obtain ⟨n, lo, hi, rfl, hn, h1, h2, k⟩ := h
    refine ⟨_, (pss_one (ps_ret (pe_and (pe_cal G_is_number (hr.mono (by omega)) pass0 (pa_cons (pv 0) pa_nil)) (pe_one (pe_chain op_le op_le (pv 1) (pv 0) (pv 2)))))), ?_⟩
    try dsimp only [cxOf, Cx.nox, Cx.wish]
    refine rd_at (σ' := [some (.int n), some (.int lo), some (.int hi)]) rfl ?_
    walk_at "go"
    refine ⟨n, rfl, hn, ?_⟩
    walk_at "go"
    refine rd_chain ?_
    walk_at "go"
    refine rd_T h1 ?_
    walk_at "go"
    rw [decide_eq_true h2]
    exact k
theorem sc_is_row : FnScope ["numbers", "number"] ["numbers"] (defScope s_is_row) := ⟨rfl, rfl, rfl, by decide +kernel, rfl, by decide +kernel, by decide +kernel⟩
theorem ok_is_row (T : Txt K mg) (F : FnP K "is_row" "is_row" s_is_row f fd) (G_is_number : Cal P w K mg base CX0 1 "is_number" ["number"] spIsNumber) : FnOk P w K mg base CX0 2 f fd ["numbers"] spIsRow := by
  refine ok0 F sc_is_row (fun vs H Q E h => ?_) (fun cdv A outer s H vs Q E hr h => ?_)
  · obtain ⟨r, ns, rfl, _⟩ := h
    rfl
  · obtain ⟨r, ns, rfl, er, hl, hn, k⟩ := h
    refine ⟨_, (pss_cons (ps_if (PW.pt (pw_or (pt_not (pt_val (pe_callB (call_isiK1 K) (by rfl) T.free_isinstance (by decide +kernel) (pa_cons (pv 0) (pa_cons (pe_bltn (v := .ty "tuple") (u := .type "tuple") (by rfl) T.free_tuple (by decide +kernel) rfl) pa_nil))))) (pw_or1 (pt_cmpR op_gt (pe_callB (call_len1K K) (by rfl) T.free_len (by decide +kernel) (pa_cons (pv 0) pa_nil)) (pe_cint T.c_ROW_AT_MOST) (nomark _)))))
    (pss_one (ps_ret pe_bl)) pss_nil)
  (pss_one (ps_ret (pe_callB (cr_allK K rfl) (by rfl) T.free_all (by decide +kernel) (pa_cons (pe_lc (own := [("number", 1)]) (g := gName 1) rfl sc_is_row.nd (pi_tup (pv 0)) (blkOk_by (N := ["numbers", "number"]) (sc := defScope s_is_row) (by decide +kernel)) (fun _ _ _ _ _ => pg_name (i := 1) sc_is_row.nd rfl (Or.inl rfl)) (fun _ _ _ _ _ => pts_nil) (fun _ _ _ _ _ => (pe_cal G_is_number (hr.mono (by omega)) pass0 (pa_cons (pv 1) pa_nil)))) pa_nil))))), ?_⟩
    try dsimp only [cxOf, Cx.nox, Cx.wish]
    refine rd_at (σ' := [some (.ref r), none]) rfl ?_
    walk_at "go"
    refine rd_isi (tyx_tup er) isi_tuple ?_
    walk_at "go"
    refine rd_F (by rw [List.length_map]; omega) ?_
    walk_at "go"
    refine ⟨_, rfl, r, rfl, ⟨_, SqT.of er⟩, fun D hD => ?_⟩
    refine lc_tup (K := K) (a := r) (xs := ns.map V.int) (fun i H1 => H1 D = some (.lst ((List.replicate i true).map V.bl)) ∧ Fr [] H H1) ⟨upd_same, Fr.new hD⟩ (fun i H1 _ ⟨_, fr⟩ => SqT.of (fr.tp er)) ?_ ?_
    · rintro i y H1 hi ⟨e1, f1⟩
      obtain ⟨n, rfl, hn'⟩ : ∃ n, y = V.int n ∧ numOk n := by
        rw [List.getElem?_map] at hi
        cases e : ns[i]? with
        | none => rw [e] at hi; cases hi
        | some z => rw [e] at hi; exact ⟨z, (Option.some.inj hi).symm, hn z (List.mem_of_getElem? e)⟩
      have il : i < ns.length := by have := (List.getElem?_eq_some_iff.mp hi).1; rwa [List.length_map] at this
      walk_at "go"
      refine ⟨rfl, ?_⟩
      walk_at "go"
      refine ⟨n, rfl, hn', _, e1, by rw [List.length_map, List.length_replicate]; exact Nat.lt_of_lt_of_le il (Nat.le_trans hl (by decide)), ?_, f1.trans (Fr.put (S := [D]) (by simp) (nt e1)) fun b hb => ?_⟩
      · rw [upd_same, List.replicate_succ', List.map_append]
        rfl
      · rw [List.mem_singleton] at hb
        rw [hb]; exact .inr hD
    · rintro H1 ⟨e1, f1⟩
      walk_at "go"
      refine ⟨D, _, rfl, SqL.of e1, ?_⟩
      have z : (List.replicate (ns.map V.int).length true).all id = true := by simp
      rw [z]
      exact k _ f1
theorem sc_is_maker : FnScope ["maker", "begin", "step", "numbers"] ["maker"] (defScope s_is_maker) := ⟨rfl, rfl, rfl, by decide +kernel, rfl, by decide +kernel, by decide +kernel⟩
theorem ok_is_maker (T : Txt K mg) (F : FnP K "is_maker" "is_maker" s_is_maker f fd) (G_is_number : Cal P w K mg base CX0 1 "is_number" ["number"] spIsNumber) (G_is_row : Cal P w K mg base CX0 2 "is_row" ["numbers"] spIsRow) : FnOk P w K mg base CX0 3 f fd ["maker"] spIsMaker := by
  refine ok0 F sc_is_maker (fun vs H Q E h => ?_) (fun cdv A outer s H vs Q E hr h => ?_)
  · obtain ⟨a, kk, rfl, _⟩ := h
    rfl
  · obtain ⟨a, kk, rfl, ea, hk, k⟩ := h
    refine ⟨_, (pss_cons (ps_if (pt_not (pt_val (pe_callB (call_isiK1 K) (by rfl) T.free_isinstance (by decide +kernel) (pa_cons (pv 0) (pa_cons (pe_bltn (v := .ty "tuple") (u := .type "tuple") (by rfl) T.free_tuple (by decide +kernel) rfl) pa_nil)))))
    (pss_one (ps_ret pe_bl)) pss_nil)
  (pss_cons (ps_match (pv 0)
    (pc_cons (is := [1, 2]) sc_is_maker.nd (pat_seq rfl (pp_cons (pat_str op_eq) (pp_cons pat_cap (pp_cons pat_cap pp_nil)))) rfl (all_local (by rfl))
      (pss_one (ps_ret (pe_and (pe_cal G_is_number (hr.mono (by omega)) pass0 (pa_cons (pv 1) pa_nil)) (pe_one (pe_cal G_is_number (hr.mono (by omega)) pass0 (pa_cons (pv 2) pa_nil))))))
    (pc_cons (is := [3]) sc_is_maker.nd (pat_seq rfl (pp_cons (pat_str op_eq) (pp_cons pat_cap pp_nil))) rfl (all_local (by rfl))
      (pss_one (ps_ret (pe_cal G_is_row (hr.mono (by omega)) pass0 (pa_cons (pv 3) pa_nil))))
    pc_nil)))
  (pss_one (ps_ret pe_bl)))), ?_⟩
    try dsimp only [cxOf, Cx.nox, Cx.wish]
    refine rd_at (σ' := [some (.ref a)] ++ List.replicate (["maker", "begin", "step", "numbers"].length - 1) none) rfl ?_
    cases kk with
    | count b st =>
      simp only [MkAt] at ea
      walk_at "go"
      refine rd_isi (tyx_tup ea) isi_tuple ?_
      walk_at "go"
      refine rd_match ?_
      walk_at "go"
      repeat walk_at "pc"
      walk_at "go"
      refine ⟨b, rfl, hk.1, ?_⟩
      walk_at "go"
      refine ⟨st, rfl, hk.2, ?_⟩
      exact k _ (Fr.refl _ _)
    | row ns =>
      obtain ⟨r, ea, er⟩ := ea
      walk_at "go"
      refine rd_isi (tyx_tup ea) isi_tuple ?_
      walk_at "go"
      refine rd_match ?_
      walk_at "go"
      repeat walk_at "pc"
      walk_at "go"
      exact ⟨r, ns, rfl, er, hk.1, hk.2, k⟩
end
end Dc

set_option Elab.async false
set_option linter.all false
set_option maxRecDepth 100000
set_option maxHeartbeats 2000000
namespace Dc
open PySem PySem.Spec PyProof.Rows L2
local macro_rules | `(tactic| walk_at "ne") => `(tactic| first | assumption | (refine Ne.symm ?_; assumption) | exact ne_of (by assumption) (by assumption) (by intro q; cases q) | exact ne_of_none (by assumption) (by assumption) | exact Ne.symm (ne_of_none (by assumption) (by assumption)))
local macro_rules | `(tactic| walk_at "hp") => `(tactic| first | assumption | exact upd_same | (refine upd_keep ?_ (by assumption); walk_at "hp") | (refine upd_other ?_ ?_; · walk_at "ne"; · walk_at "hp"))
local macro_rules | `(tactic| walk_at "hl") => `(tactic| first | assumption | exact SqL.of (by walk_at "hp"))
local macro_rules | `(tactic| walk_at "ht") => `(tactic| first | assumption | exact SqT.of (by walk_at "hp"))
local macro_rules | `(tactic| walk_at "rd1") => `(tactic| first
  | ((with_reducible apply rd_var); exact rfl)
  | ((with_reducible apply rd_eq); exact rfl) | ((with_reducible apply rd_ne); exact rfl)
  | with_reducible first
  | refine iteT ?_ | refine iteF ?_ | refine rd_nF ?_ | refine rd_nT ?_ | refine rd_yes ?_ | refine rd_c ?_ | refine rd_op ?_ | refine rd_un ?_ | refine rd_test ?_ | refine rd_B ?_ | refine rd_bl ?_ | refine rd_seq ?_ | refine rd_next ?_ | refine rd_ifs ?_ | refine rd_asg ?_ | refine rd_name ?_ | refine rd_ret ?_ | refine rd_drop ?_
  | refine rd_call ?_ | refine rd_cons ?_ | refine rd_nil ?_ | refine rd_cb ?_ | refine rd_I0 ?_ | refine rd_U ?_ | refine rd_gsub ?_ | refine rd_lst ?_ | refine rd_tup ?_ | refine rd_if ?_ | refine rd_not ?_ | refine rd_rng1 ?_ | refine rd_itup ?_ | refine rd_ilst ?_ | refine rd_bm ?_ | refine rd_bm0 ?_ | refine rd_andV ?_ | refine rd_orV ?_ | refine rd_notV ?_)
local macro_rules | `(tactic| walk_at "rd") => `(tactic| repeat walk_at "rd1")
local macro_rules | `(tactic| walk_at "ci") => `(tactic| first | assumption | (show (0 : Int) < _; first | decide | omega) | exact ⟨by decide, by decide⟩ | exact Or.inr ⟨by decide, by decide⟩ | exact Or.inl ⟨by decide, by decide⟩ | exact ⟨by decide, by decide, by decide⟩ | exact Or.inl ⟨by omega, by omega⟩ | exact Or.inr ⟨by omega, by omega⟩)
local macro_rules | `(tactic| walk_at "ix") => `(tactic| first
  | ((with_reducible apply rd_ixL); (walk_at "hl"); exact rfl)
  | ((with_reducible apply rd_ixT); (walk_at "ht"); exact rfl)
  | ((with_reducible apply rd_lenL); (walk_at "hl"))
  | ((with_reducible apply rd_lenT); (walk_at "ht"))
  | ((with_reducible apply rd_tupOf); (walk_at "hl"))
  | ((with_reducible apply rd_listOf); (walk_at "hl"))
  | (with_reducible refine rd_min2 ?_)
  | ((with_reducible apply rd_I); (walk_at "ci"))
  | ((with_reducible apply rd_setL); (walk_at "hp"); exact rfl))
local macro_rules | `(tactic| walk_at "gs") => `(tactic| repeat first | walk_at "rd1" | walk_at "ix")
local macro_rules | `(tactic| walk_at "go") => `(tactic| repeat first | walk_at "rd1" | walk_at "ix" | with_reducible refine rd_and ?_ | with_reducible refine rd_or ?_)
local macro_rules | `(tactic| walk_at "fo") => `(tactic| (with_reducible refine rd_for ?_))
local macro_rules | `(tactic| walk_at "pm") => `(tactic| repeat first
  | with_reducible first | refine rd_pcons ?_ | refine rd_pstr ?_ | refine rd_pcap ?_ | refine rd_pwild ?_ | refine rd_pnil ?_ | refine rd_por ?_ | refine rd_pno ?_
  | ((with_reducible refine rd_eq rfl ?_); refine ⟨_, rfl, ?_⟩; first | refine rd_T rfl ?_ | refine rd_F (by decide) ?_)
  | dsimp only [List.nil_append, List.singleton_append, List.cons_append, setAll])
local macro_rules | `(tactic| walk_at "pc") => `(tactic| (refine rd_case ?_); (first | (refine rd_phit (SqT.of (by assumption)) rfl ?_) | (refine rd_pmiss (SqT.of (by assumption)) (by simp) ?_)); (walk_at "pm"))

/-- the script: locked, or in the written part -/
def ScAt (K : PySem.W.Frag) (ns : List Int) (H : Hp) (sc : Addr) : Prop := (∃ o, H sc = some (.frz o (.lst (ns.map V.int)))) ∨ ∀ H' : Hp, SqL K H' sc (ns.map V.int)
theorem ScAt.seq {K : PySem.W.Frag} {ns : List Int} {H : Hp} {sc : Addr} (h : ScAt K ns H sc) : SqL K H sc (ns.map V.int) := by
  rcases h with ⟨o, h⟩ | h
  · exact .inl (.inr ⟨o, h⟩)
  · exact h H
theorem ScAt.fr {K : PySem.W.Frag} {ns : List Int} {H H' : Hp} {sc : Addr} {S : List Addr} (h : ScAt K ns H sc) (f : Fr S H H') : ScAt K ns H' sc := by
  rcases h with ⟨o, h⟩ | h
  · exact .inl ⟨o, f.fz h⟩
  · exact .inr h
/-- where drawing stands: the list at a, the script at sc -/
structure StAt (K : PySem.W.Frag) (ns : List Int) (H : Hp) (a sc : Addr) : Prop where
  lst : ∃ (b m l : Int), H a = some (.lst [.ref sc, .int b, .int m, .int l]) ∧ 0 ≤ b
  scr : ScAt K ns H sc
theorem StAt.fr {K : PySem.W.Frag} {ns : List Int} {H H' : Hp} {a sc : Addr} {S : List Addr} (s : StAt K ns H a sc) (f : Fr S H H') (n : a ∉ S) : StAt K ns H' a sc := by
  obtain ⟨⟨b, m, l, h1, h2⟩, h3⟩ := s
  exact ⟨⟨b, m, l, f.at h1 n, h2⟩, h3.fr f⟩
theorem StAt.put {K : PySem.W.Frag} {ns : List Int} {H : Hp} {a sc : Addr} (s : StAt K ns H a sc) {b m l : Int} (hb : 0 ≤ b) : StAt K ns (upd H a (.lst [.ref sc, .int b, .int m, .int l])) a sc ∧ Fr [a] H (upd H a (.lst [.ref sc, .int b, .int m, .int l])) := by
  obtain ⟨⟨b0, m0, l0, h1, h2⟩, h3⟩ := s
  have f : Fr [a] H (upd H a (.lst [.ref sc, .int b, .int m, .int l])) := Fr.put List.mem_cons_self (nt h1)
  exact ⟨⟨⟨b, m, l, upd_same, hb⟩, h3.fr f⟩, f⟩
def spDrawn (K : PySem.W.Frag) (ns : List Int) : Sp := fun vs H Q _ => ∃ (a sc : Addr) (many : Int), vs = [.ref a, .int many] ∧ StAt K ns H a sc ∧ 0 < many ∧ many.natAbs < 2 ^ 200 ∧
  ∀ (r : Int) (H' : Hp), 0 ≤ r → r < many → StAt K ns H' a sc → Fr [a] H H' → Q (.int r) H'
def spStart (K : PySem.W.Frag) (ns : List Int) : Sp := fun vs H Q _ => ∃ (sc : Addr), vs = [.ref sc] ∧ ScAt K ns H sc ∧ ∀ (a : Addr) (H' : Hp), StAt K ns H' a sc → H a = none → Fr [] H H' → Q (.ref a) H'
theorem st_new {K : PySem.W.Frag} {ns : List Int} {H : Hp} {a sc p : Addr} {o : HO} (S : StAt K ns H a sc) (h : H p = none) : StAt K ns (upd H p o) a sc ∧ a ≠ p := by
  obtain ⟨⟨b, m, l, h1, h2⟩, h3⟩ := id S
  have n := ne_of_none h1 h
  exact ⟨⟨⟨b, m, l, by rw [upd_ne n]; exact h1, h2⟩, h3.fr (Fr.new (S := []) h)⟩, n⟩
section
variable {P : Program} {w : World} {K : PySem.W.Frag} {mg : Str → Option Value} {base : Heap}
theorem sc__law_drawn : FnScope ["_law_state", "_law_many", "_law_found", "_law_cell"] ["_law_state", "_law_many"] (defScope s__law_drawn) := ⟨rfl, rfl, rfl, by decide +kernel, rfl, by decide +kernel, by decide +kernel⟩
theorem ok_law_drawn {f : Addr} {fd : FuncData} {ns : List Int} (T : Txt K mg) (F : FnP K "_law_drawn" "_law_drawn" s__law_drawn f fd) (hl : ns.length ≤ 63) : FnOk P w K mg base CX0 1 f fd ["_law_state", "_law_many"] (spDrawn K ns) := by
  refine ok0 F sc__law_drawn (fun vs H Q E h => ?_) (fun cdv A outer s H vs Q E hr h => ?_)
  · obtain ⟨a, sc, many, rfl, _⟩ := h
    rfl
  · obtain ⟨a, sc, many, rfl, S, hp, hb, k⟩ := h
    refine ⟨_, (pss_cons (ps_if (pt_cmpR op_gt (pe_ix (ix_listK K) (pv 0) pe_int (fun _ _ => rfl)) pe_int (nomark _))
    (pss_cons (ps_set (i := 2) sc__law_drawn.nd rfl (Or.inl rfl) (pe_op op_mod (pe_ix (ix_listK K) (pv 0) pe_int (fun _ _ => rfl)) (pv 1)))
    (pss_cons (ps_asg (pe_op op_fdivW (pe_ix (ix_listK K) (pv 0) pe_int (fun _ _ => rfl)) (pv 1)) (pg_sub (pv 0) pe_int set_list))
    (pss_one (ps_ret (pv 2))))) pss_nil)
  (pss_cons (ps_asg (pe_op op_add (pe_ix (ix_listK K) (pv 0) pe_int (fun _ _ => rfl)) pe_int) (pg_sub (pv 0) pe_int set_list))
  (pss_cons (ps_if (pt_cmpR op_le (pe_ix (ix_listK K) (pv 0) pe_int (fun _ _ => rfl)) (pe_callB (call_len1K K) (by rfl) T.free_len (by decide +kernel) (pa_cons (pe_ix (ix_listK K) (pv 0) pe_int (fun _ _ => rfl)) pa_nil)) (nomark _))
    (pss_cons (ps_set (i := 3) sc__law_drawn.nd rfl (Or.inl rfl) (pe_ix (ix_listK K) (pe_ix (ix_listK K) (pv 0) pe_int (fun _ _ => rfl)) (pe_op op_sub (pe_ix (ix_listK K) (pv 0) pe_int (fun _ _ => rfl)) pe_int) (fun _ _ => rfl)))
    (pss_cons (ps_asg (pe_ifExp (pt_cmpR op_ge (pv 3) (pe_op op_pow pe_int pe_int) (nomark _)) (pe_op op_fdivW (pv 3) (pv 1)) pe_int) (pg_sub (pv 0) pe_int set_list))
    (pss_one (ps_ret (pe_op op_mod (pv 3) (pv 1)))))) pss_nil)
  (pss_cons (ps_asg (pe_op op_mod (pe_op op_add (pe_op op_mul (pe_ix (ix_listK K) (pv 0) pe_int (fun _ _ => rfl)) pe_int) pe_int) pe_int) (pg_sub (pv 0) pe_int set_list))
  (pss_one (ps_ret (pe_op op_mod (pe_op op_fdiv (pe_ix (ix_listK K) (pv 0) pe_int (fun _ _ => rfl)) pe_int) (pv 1)))))))), ?_⟩
    obtain ⟨⟨b, m, l, h1, h2⟩, h3⟩ := id S
    try dsimp only [cxOf, Cx.nox, Cx.wish]
    refine rd_at (σ' := [some (.ref a), some (.int many), none, none]) rfl ?_
    walk_at "go"
    refine rd_dec (fun c => ?_) (fun c => ?_)
    · walk_at "go"
      refine rd_I (wide_div hp hb (by decide) (by decide)) ?_
      walk_at "go"
      obtain ⟨S', f⟩ := S.put (m := m) (l := l / many) h2
      exact k _ _ (Int.emod_nonneg _ (by omega)) (Int.emod_lt_of_pos _ hp) S' f
    · walk_at "go"
      obtain ⟨S1, f1⟩ := S.put (b := b + 1) (m := m) (l := l) (by omega)
      refine rd_lenL S1.scr.seq ?_
      walk_at "go"
      rw [List.length_map]
      refine rd_dec (fun c1 => ?_) (fun c1 => ?_)
      · walk_at "go"
        obtain ⟨j, ej, hj⟩ : ∃ j : Nat, b + 1 - 1 = (j : Int) ∧ j < ns.length := ⟨b.toNat, by omega, by omega⟩
        refine rd_ixL S1.scr.seq (at_of (v := V.int ns[j]) ej (by rw [List.getElem?_map, List.getElem?_eq_getElem hj]; rfl)) ?_
        walk_at "go"
        have put2 : ∀ z : Int, StAt K ns (upd (upd H a (.lst [.ref sc, .int (b + 1), .int m, .int l])) a (.lst [.ref sc, .int (b + 1), .int m, .int z])) a sc ∧
            Fr [a] H (upd (upd H a (.lst [.ref sc, .int (b + 1), .int m, .int l])) a (.lst [.ref sc, .int (b + 1), .int m, .int z])) := fun z => by
          obtain ⟨S2, f2⟩ := S1.put (b := b + 1) (m := m) (l := z) (by omega)
          exact ⟨S2, f1.tr f2⟩
        refine rd_dec (fun c2 => ?_) (fun c2 => ?_)
        · walk_at "go"
          refine rd_I (wide_div hp hb (by decide) (by decide)) ?_
          walk_at "go"
          obtain ⟨S2, f2⟩ := put2 (ns[j] / many)
          exact k _ _ (Int.emod_nonneg _ (by omega)) (Int.emod_lt_of_pos _ hp) S2 f2
        · walk_at "go"
          obtain ⟨S2, f2⟩ := put2 0
          exact k _ _ (Int.emod_nonneg _ (by omega)) (Int.emod_lt_of_pos _ hp) S2 f2
      · walk_at "go"
        obtain ⟨S2, f2⟩ := S1.put (b := b + 1) (m := (m * 48271 + 11) % 2147483647) (l := l) (by omega)
        exact k _ _ (Int.emod_nonneg _ (by omega)) (Int.emod_lt_of_pos _ hp) S2 (f1.tr f2)
theorem sc__law_start : FnScope ["_law_script", "_law_mixed", "_law_cell"] ["_law_script"] (defScope s__law_start) := ⟨rfl, rfl, rfl, by decide +kernel, rfl, by decide +kernel, by decide +kernel⟩
theorem ok_law_start {f : Addr} {fd : FuncData} {ns : List Int} (T : Txt K mg) (F : FnP K "_law_start" "_law_start" s__law_start f fd) : FnOk P w K mg base CX0 1 f fd ["_law_script"] (spStart K ns) := by
  refine ok0 F sc__law_start (fun vs H Q E h => ?_) (fun cdv A outer s H vs Q E hr h => ?_)
  · obtain ⟨sc, rfl, _⟩ := h
    rfl
  · obtain ⟨sc, rfl, S, k⟩ := h
    refine ⟨_, (pss_cons (ps_set (i := 1) sc__law_start.nd rfl (Or.inl rfl) pe_int)
  (pss_cons (ps_for PassesOwn.never rfl (pi_list (pv 0)) (pg_name (i := 2) sc__law_start.nd rfl (Or.inl rfl))
    (pss_one (ps_set (i := 1) sc__law_start.nd rfl (Or.inl rfl) (pe_op op_mod (pe_op op_add (pe_op op_add (pe_op op_mul (pv 1) pe_int) (pv 2)) pe_int) pe_int))))
  (pss_one (ps_ret (pe_lst (pa_cons (pv 0) (pa_cons pe_int (pa_cons (pv 1) (pa_cons pe_int pa_nil))))))))), ?_⟩
    try dsimp only [cxOf, Cx.nox, Cx.wish]
    refine rd_at (σ' := [some (.ref sc), none, none]) rfl ?_
    walk_at "go"
    refine ⟨_, rfl, sc, rfl, ⟨_, S.seq⟩, for_list (K := K) (a := sc) (xs := ns.map V.int) (fun i σ H1 => ∃ (m : Int) (v : Option V), σ = [some (.ref sc), some (.int m), v] ∧ H1 = H) ⟨1, none, rfl, rfl⟩ (fun i σ H1 _ ⟨_, _, _, e⟩ => by rw [e]; exact S.seq) ?_ ?_⟩
    · rintro i y σ H1 hi ⟨m, v, rfl, rfl⟩
      obtain ⟨z, rfl⟩ : ∃ z, y = V.int z := by
        rw [List.getElem?_map] at hi
        cases e : ns[i]? with
        | none => rw [e] at hi; cases hi
        | some z => rw [e] at hi; exact ⟨z, (Option.some.inj hi).symm⟩
      walk_at "go"
      exact ⟨_, _, rfl, rfl⟩
    · rintro σ H1 ⟨m, v, rfl, rfl⟩
      walk_at "go"
      refine ⟨by show 4 ≤ sizeLine; decide, fun p hp => ?_⟩
      exact k p _ ⟨⟨0, m, 0, upd_same, Int.le_refl _⟩, S.fr (Fr.new (S := []) hp)⟩ hp (Fr.new hp)
end
end Dc

set_option Elab.async false
set_option linter.all false
set_option maxRecDepth 100000
set_option maxHeartbeats 2000000
namespace Dc
open PySem PySem.Spec PyProof.Rows L2
local macro_rules | `(tactic| walk_at "ne") => `(tactic| first | assumption | (refine Ne.symm ?_; assumption) | exact ne_of (by assumption) (by assumption) (by intro q; cases q) | exact ne_of_none (by assumption) (by assumption) | exact Ne.symm (ne_of_none (by assumption) (by assumption)))
local macro_rules | `(tactic| walk_at "hp") => `(tactic| first | assumption | exact upd_same | (refine upd_keep ?_ (by assumption); walk_at "hp") | (refine upd_other ?_ ?_; · walk_at "ne"; · walk_at "hp"))
local macro_rules | `(tactic| walk_at "hl") => `(tactic| first | assumption | exact SqL.of (by walk_at "hp"))
local macro_rules | `(tactic| walk_at "ht") => `(tactic| first | assumption | exact SqT.of (by walk_at "hp"))
local macro_rules | `(tactic| walk_at "rd1") => `(tactic| first
  | ((with_reducible apply rd_var); exact rfl)
  | ((with_reducible apply rd_eq); exact rfl) | ((with_reducible apply rd_ne); exact rfl)
  | with_reducible first
  | refine iteT ?_ | refine iteF ?_ | refine rd_nF ?_ | refine rd_nT ?_ | refine rd_yes ?_ | refine rd_c ?_ | refine rd_op ?_ | refine rd_un ?_ | refine rd_test ?_ | refine rd_B ?_ | refine rd_bl ?_ | refine rd_seq ?_ | refine rd_next ?_ | refine rd_ifs ?_ | refine rd_asg ?_ | refine rd_name ?_ | refine rd_ret ?_ | refine rd_drop ?_
  | refine rd_call ?_ | refine rd_cons ?_ | refine rd_nil ?_ | refine rd_cb ?_ | refine rd_I0 ?_ | refine rd_U ?_ | refine rd_gsub ?_ | refine rd_lst ?_ | refine rd_tup ?_ | refine rd_if ?_ | refine rd_not ?_ | refine rd_rng1 ?_ | refine rd_itup ?_ | refine rd_ilst ?_ | refine rd_bm ?_ | refine rd_bm0 ?_ | refine rd_andV ?_ | refine rd_orV ?_ | refine rd_notV ?_)
local macro_rules | `(tactic| walk_at "rd") => `(tactic| repeat walk_at "rd1")
local macro_rules | `(tactic| walk_at "ci") => `(tactic| first | assumption | (show (0 : Int) < _; first | decide | omega) | exact ⟨by decide, by decide⟩ | exact Or.inr ⟨by decide, by decide⟩ | exact Or.inl ⟨by decide, by decide⟩ | exact ⟨by decide, by decide, by decide⟩ | exact Or.inl ⟨by omega, by omega⟩ | exact Or.inr ⟨by omega, by omega⟩)
local macro_rules | `(tactic| walk_at "ix") => `(tactic| first
  | ((with_reducible apply rd_ixL); (walk_at "hl"); exact rfl)
  | ((with_reducible apply rd_ixT); (walk_at "ht"); exact rfl)
  | ((with_reducible apply rd_lenL); (walk_at "hl"))
  | ((with_reducible apply rd_lenT); (walk_at "ht"))
  | ((with_reducible apply rd_tupOf); (walk_at "hl"))
  | ((with_reducible apply rd_listOf); (walk_at "hl"))
  | (with_reducible refine rd_min2 ?_)
  | ((with_reducible apply rd_I); (walk_at "ci"))
  | ((with_reducible apply rd_setL); (walk_at "hp"); exact rfl))
local macro_rules | `(tactic| walk_at "gs") => `(tactic| repeat first | walk_at "rd1" | walk_at "ix")
local macro_rules | `(tactic| walk_at "go") => `(tactic| repeat first | walk_at "rd1" | walk_at "ix" | with_reducible refine rd_and ?_ | with_reducible refine rd_or ?_)
local macro_rules | `(tactic| walk_at "fo") => `(tactic| (with_reducible refine rd_for ?_))
local macro_rules | `(tactic| walk_at "pm") => `(tactic| repeat first
  | with_reducible first | refine rd_pcons ?_ | refine rd_pstr ?_ | refine rd_pcap ?_ | refine rd_pwild ?_ | refine rd_pnil ?_ | refine rd_por ?_ | refine rd_pno ?_
  | ((with_reducible refine rd_eq rfl ?_); refine ⟨_, rfl, ?_⟩; first | refine rd_T rfl ?_ | refine rd_F (by decide) ?_)
  | dsimp only [List.nil_append, List.singleton_append, List.cons_append, setAll])
local macro_rules | `(tactic| walk_at "pc") => `(tactic| (refine rd_case ?_); (first | (refine rd_phit (SqT.of (by assumption)) rfl ?_) | (refine rd_pmiss (SqT.of (by assumption)) (by simp) ?_)); (walk_at "pm"))

def Sg.nest : Sg → Bool
  | .one _ => false
  | _ => true
def spIsStage : Sp := fun vs H Q _ => ∃ (x : Addr) (g : Sg), vs = [.ref x] ∧ SgAt H x g ∧ g.ok ∧ Q (.bl true) H
def spHasChain : Sp := fun vs H Q _ => ∃ (x : Addr) (g : Sg), vs = [.ref x] ∧ SgAt H x g ∧ ∀ H', Fr [] H H' → Q (.bl g.nest) H'
def spIsPair : Sp := fun vs H Q _ => ∃ (p m ss : Addr) (bs : List Addr), vs = [.ref p] ∧ H p = some (.tup [.ref m, .ref ss]) ∧ H ss = some (.tup (bs.map V.ref)) ∧ Q (.bl true) H
section
variable {P : Program} {w : World} {K : PySem.W.Frag} {mg : Str → Option Value} {base : Heap} {f f2 : Addr} {fd fd2 : FuncData}
theorem sc_is_stage : FnScope ["stage", "n", "rest", "wheel", "many"] ["stage"] (defScope s_is_stage) := ⟨rfl, rfl, rfl, by decide +kernel, rfl, by decide +kernel, by decide +kernel⟩
theorem ok_is_stage (T : Txt K mg) (F : FnP K "is_stage" "is_stage" s_is_stage f fd) (G_is_number : Cal P w K mg base CX0 1 "is_number" ["number"] spIsNumber) (G_is_within : Cal P w K mg base CX0 2 "is_within" ["number", "low", "high"] spIsWithin) : FnOk P w K mg base CX0 3 f fd ["stage"] spIsStage := by
  refine ok0 F sc_is_stage (fun vs H Q E h => ?_) (fun cdv A outer s H vs Q E hr h => ?_)
  · obtain ⟨x, g, rfl, _⟩ := h
    rfl
  · obtain ⟨x, g, rfl, ea, hg, k⟩ := h
    refine ⟨_, (pss_cons (ps_if (pt_not (pt_val (pe_callB (call_isiK1 K) (by rfl) T.free_isinstance (by decide +kernel) (pa_cons (pv 0) (pa_cons (pe_bltn (v := .ty "tuple") (u := .type "tuple") (by rfl) T.free_tuple (by decide +kernel) rfl) pa_nil)))))
    (pss_one (ps_ret pe_bl)) pss_nil)
  (pss_cons (ps_match (pv 0)
    (pc_cons (is := [1]) sc_is_stage.nd (pat_seq rfl (pp_cons (pat_or (pf_cons (pat_str op_eq) (pf_cons (pat_str op_eq) (pf_cons (pat_str op_eq) pf_nil)))) (pp_cons pat_cap pp_nil))) rfl (all_local (by rfl))
      (pss_one (ps_ret (pe_cal G_is_number (hr.mono (by omega)) pass0 (pa_cons (pv 1) pa_nil))))
    (pc_cons (is := [2, 3]) sc_is_stage.nd (pat_seq rfl (pp_cons (pat_str op_eq) (pp_cons pat_cap (pp_cons pat_cap pp_nil)))) rfl (all_local (by rfl))
      (pss_one (ps_ret (pe_and (pe_cal G_is_within (hr.mono (by omega)) pass0 (pa_cons (pv 3) (pa_cons pe_int (pa_cons pe_int pa_nil)))) (pe_one (pe_cal G_is_within (hr.mono (by omega)) pass0 (pa_cons (pv 2) (pa_cons pe_int (pa_cons (pe_op op_sub (pv 3) pe_int) pa_nil))))))))
    (pc_cons (is := [4]) sc_is_stage.nd (pat_seq rfl (pp_cons (pat_or (pf_cons (pat_str op_eq) (pf_cons (pat_str op_eq) pf_nil))) (pp_cons pat_cap pp_nil))) rfl (all_local (by rfl))
      (pss_one (ps_ret (pe_cal G_is_within (hr.mono (by omega)) pass0 (pa_cons (pv 4) (pa_cons pe_int (pa_cons pe_int pa_nil))))))
    (pc_cons (is := [4]) sc_is_stage.nd (pat_seq rfl (pp_cons (pat_str op_eq) (pp_cons pat_cap pp_nil))) rfl (all_local (by rfl))
      (pss_one (ps_ret (pe_cal G_is_within (hr.mono (by omega)) pass0 (pa_cons (pv 4) (pa_cons pe_int (pa_cons pe_int pa_nil))))))
    (pc_cons (is := []) sc_is_stage.nd (pat_seq rfl (pp_cons (pat_str op_eq) pp_nil)) rfl (all_local (by rfl))
      (pss_one (ps_ret pe_bl))
    (pc_cons (is := []) sc_is_stage.nd (pat_seq rfl (pp_cons (pat_or (pf_cons (pat_str op_eq) (pf_cons (pat_str op_eq) pf_nil))) (pp_cons pat_wild pp_nil))) rfl (all_local (by rfl))
      (pss_one (ps_ret pe_bl))
    pc_nil)))))))
  (pss_one (ps_ret pe_bl)))), ?_⟩
    try dsimp only [cxOf, Cx.nox, Cx.wish]
    refine rd_at (σ' := [some (.ref x)] ++ List.replicate (["stage", "n", "rest", "wheel", "many"].length - 1) none) rfl ?_
    obtain ⟨vs, ev⟩ : ∃ vs, H x = some (.tup vs) := by
      cases g with
      | one kd => exact ⟨_, ea⟩
      | both o => obtain ⟨p, h, _⟩ := ea; exact ⟨_, h⟩
      | thn o => obtain ⟨p, h, _⟩ := ea; exact ⟨_, h⟩
    walk_at "go"
    refine rd_isi (tyx_tup ev) isi_tuple ?_
    walk_at "go"
    clear ev vs
    refine rd_match ?_
    walk_at "go"
    cases g with
    | one kd =>
      cases kd with
      | add n =>
        simp only [SgAt, Kd.vals] at ea
        repeat walk_at "pc"
        walk_at "go"
        exact ⟨n, rfl, hg, k⟩
      | times n =>
        simp only [SgAt, Kd.vals] at ea
        repeat walk_at "pc"
        walk_at "go"
        exact ⟨n, rfl, hg.1, k⟩
      | keep r wh =>
        simp only [SgAt, Kd.vals] at ea
        repeat walk_at "pc"
        walk_at "go"
        refine ⟨wh, 2, 1000, rfl, by have := hg.1; have := hg.2.1; unfold numOk; omega, hg.1, hg.2.1, ?_⟩
        walk_at "go"
        exact ⟨r, 0, wh - 1, rfl, by have := hg.1; have := hg.2; unfold numOk; omega, hg.2.2.1, by have := hg.2.2.2; omega, k⟩
      | drop n =>
        simp only [SgAt, Kd.vals] at ea
        repeat walk_at "pc"
        walk_at "go"
        exact ⟨n, 0, 100, rfl, by have := hg.1; have := hg.2; unfold numOk; omega, hg.1, hg.2, k⟩
      | take n =>
        simp only [SgAt, Kd.vals] at ea
        repeat walk_at "pc"
        walk_at "go"
        exact ⟨n, 0, 100, rfl, by have := hg.1; have := hg.2; unfold numOk; omega, hg.1, hg.2, k⟩
      | each n =>
        simp only [SgAt, Kd.vals] at ea
        repeat walk_at "pc"
        walk_at "go"
        exact ⟨n, 1, 10, rfl, by have := hg.1; have := hg.2; unfold numOk; omega, hg.1, hg.2, k⟩
      | «until» n =>
        simp only [SgAt, Kd.vals] at ea
        repeat walk_at "pc"
        walk_at "go"
        exact ⟨n, rfl, hg, k⟩
      | unlike =>
        simp only [SgAt, Kd.vals] at ea
        repeat walk_at "pc"
        walk_at "go"
        exact k
    | both o =>
      obtain ⟨p, ea, _⟩ := ea
      repeat walk_at "pc"
      walk_at "go"
      exact k
    | thn o =>
      obtain ⟨p, ea, _⟩ := ea
      repeat walk_at "pc"
      walk_at "go"
      exact k
theorem sc_has_chain : FnScope ["stage"] ["stage"] (defScope s_has_chain) := ⟨rfl, rfl, rfl, by decide +kernel, rfl, by decide +kernel, by decide +kernel⟩
theorem ok_has_chain (T : Txt K mg) (F : FnP K "has_chain" "has_chain" s_has_chain f fd) : FnOk P w K mg base CX0 1 f fd ["stage"] spHasChain := by
  refine ok0 F sc_has_chain (fun vs H Q E h => ?_) (fun cdv A outer s H vs Q E hr h => ?_)
  · obtain ⟨x, g, rfl, _⟩ := h
    rfl
  · obtain ⟨x, g, rfl, ea, k⟩ := h
    refine ⟨_, (pss_one (ps_ret (pe_cmpR (op_in_seqK K) (pe_ix (ix_tupK K) (pv 0) pe_int (fun _ _ => rfl)) (pe_tup (pa_cons pe_str (pa_cons pe_str pa_nil))) (by rfl)))), ?_⟩
    try dsimp only [cxOf, Cx.nox, Cx.wish]
    refine rd_at (σ' := [some (.ref x)]) rfl ?_
    walk_at "go"
    obtain ⟨vs, nm, ev, e0, hb⟩ : ∃ vs nm, H x = some (.tup vs) ∧ atI vs 0 = some (.str nm) ∧ inV (.str nm) [.str "both", .str "then"] = g.nest := by
      cases g with
      | one kd => exact ⟨_, kd.name, ea, kd.at0, by cases kd <;> (simp only [Kd.name, Sg.nest]; decide +kernel)⟩
      | both o => obtain ⟨p, h, _⟩ := ea; exact ⟨_, "both", h, rfl, by show inV _ _ = true; decide +kernel⟩
      | thn o => obtain ⟨p, h, _⟩ := ea; exact ⟨_, "then", h, rfl, by show inV _ _ = true; decide +kernel⟩
    refine rd_ixT (SqT.of ev) e0 ?_
    walk_at "go"
    refine ⟨by show 2 ≤ sizeLine; decide, fun p hp => ?_⟩
    refine ⟨p, _, rfl, .inr (SqT.of upd_same), rfl, rfl, ?_⟩
    rw [if_neg (by decide), hb]
    exact k _ (Fr.new hp)
theorem sc_is_pair : FnScope ["part"] ["part"] (defScope s_is_pair) := ⟨rfl, rfl, rfl, by decide +kernel, rfl, by decide +kernel, by decide +kernel⟩
theorem ok_is_pair (T : Txt K mg) (F : FnP K "is_pair" "is_pair" s_is_pair f fd) : FnOk P w K mg base CX0 1 f fd ["part"] spIsPair := by
  refine ok0 F sc_is_pair (fun vs H Q E h => ?_) (fun cdv A outer s H vs Q E hr h => ?_)
  · obtain ⟨p, m, ss, bs, rfl, _⟩ := h
    rfl
  · obtain ⟨p, m, ss, bs, rfl, ep, es, k⟩ := h
    refine ⟨_, (pss_one (ps_ret (pe_and (pe_callB (call_isiK1 K) (by rfl) T.free_isinstance (by decide +kernel) (pa_cons (pv 0) (pa_cons (pe_bltn (v := .ty "tuple") (u := .type "tuple") (by rfl) T.free_tuple (by decide +kernel) rfl) pa_nil))) (pe_and (pe_cmpR op_eq (pe_callB (call_len1K K) (by rfl) T.free_len (by decide +kernel) (pa_cons (pv 0) pa_nil)) pe_int (nomark _)) (pe_one (pe_callB (call_isiK1 K) (by rfl) T.free_isinstance (by decide +kernel) (pa_cons (pe_ix (ix_tupK K) (pv 0) pe_int (fun _ _ => rfl)) (pa_cons (pe_bltn (v := .ty "tuple") (u := .type "tuple") (by rfl) T.free_tuple (by decide +kernel) rfl) pa_nil)))))))), ?_⟩
    try dsimp only [cxOf, Cx.nox, Cx.wish]
    refine rd_at (σ' := [some (.ref p)]) rfl ?_
    walk_at "go"
    refine rd_isi (tyx_tup ep) isi_tuple ?_
    walk_at "go"
    refine rd_T rfl ?_
    walk_at "go"
    exact rd_isi (tyx_tup es) isi_tuple k
end
end Dc

set_option Elab.async false
set_option linter.all false
set_option maxRecDepth 100000
set_option maxHeartbeats 2000000
namespace Dc
open PySem PySem.Spec PyProof.Rows L2
local macro_rules | `(tactic| walk_at "ne") => `(tactic| first | assumption | (refine Ne.symm ?_; assumption) | exact ne_of (by assumption) (by assumption) (by intro q; cases q) | exact ne_of_none (by assumption) (by assumption) | exact Ne.symm (ne_of_none (by assumption) (by assumption)))
local macro_rules | `(tactic| walk_at "hp") => `(tactic| first | assumption | exact upd_same | (refine upd_keep ?_ (by assumption); walk_at "hp") | (refine upd_other ?_ ?_; · walk_at "ne"; · walk_at "hp"))
local macro_rules | `(tactic| walk_at "hl") => `(tactic| first | assumption | exact SqL.of (by walk_at "hp"))
local macro_rules | `(tactic| walk_at "ht") => `(tactic| first | assumption | exact SqT.of (by walk_at "hp"))
local macro_rules | `(tactic| walk_at "rd1") => `(tactic| first
  | ((with_reducible apply rd_var); exact rfl)
  | ((with_reducible apply rd_eq); exact rfl) | ((with_reducible apply rd_ne); exact rfl)
  | with_reducible first
  | refine iteT ?_ | refine iteF ?_ | refine rd_nF ?_ | refine rd_nT ?_ | refine rd_yes ?_ | refine rd_c ?_ | refine rd_op ?_ | refine rd_un ?_ | refine rd_test ?_ | refine rd_B ?_ | refine rd_bl ?_ | refine rd_seq ?_ | refine rd_next ?_ | refine rd_ifs ?_ | refine rd_asg ?_ | refine rd_name ?_ | refine rd_ret ?_ | refine rd_drop ?_
  | refine rd_call ?_ | refine rd_cons ?_ | refine rd_nil ?_ | refine rd_cb ?_ | refine rd_I0 ?_ | refine rd_U ?_ | refine rd_gsub ?_ | refine rd_lst ?_ | refine rd_tup ?_ | refine rd_if ?_ | refine rd_not ?_ | refine rd_rng1 ?_ | refine rd_itup ?_ | refine rd_ilst ?_ | refine rd_bm ?_ | refine rd_bm0 ?_ | refine rd_andV ?_ | refine rd_orV ?_ | refine rd_notV ?_)
local macro_rules | `(tactic| walk_at "rd") => `(tactic| repeat walk_at "rd1")
local macro_rules | `(tactic| walk_at "ci") => `(tactic| first | assumption | (show (0 : Int) < _; first | decide | omega) | exact ⟨by decide, by decide⟩ | exact Or.inr ⟨by decide, by decide⟩ | exact Or.inl ⟨by decide, by decide⟩ | exact ⟨by decide, by decide, by decide⟩ | exact Or.inl ⟨by omega, by omega⟩ | exact Or.inr ⟨by omega, by omega⟩)
local macro_rules | `(tactic| walk_at "ix") => `(tactic| first
  | ((with_reducible apply rd_ixL); (walk_at "hl"); exact rfl)
  | ((with_reducible apply rd_ixT); (walk_at "ht"); exact rfl)
  | ((with_reducible apply rd_lenL); (walk_at "hl"))
  | ((with_reducible apply rd_lenT); (walk_at "ht"))
  | ((with_reducible apply rd_tupOf); (walk_at "hl"))
  | ((with_reducible apply rd_listOf); (walk_at "hl"))
  | (with_reducible refine rd_min2 ?_)
  | ((with_reducible apply rd_I); (walk_at "ci"))
  | ((with_reducible apply rd_setL); (walk_at "hp"); exact rfl))
local macro_rules | `(tactic| walk_at "gs") => `(tactic| repeat first | walk_at "rd1" | walk_at "ix")
local macro_rules | `(tactic| walk_at "go") => `(tactic| repeat first | walk_at "rd1" | walk_at "ix" | with_reducible refine rd_and ?_ | with_reducible refine rd_or ?_)
local macro_rules | `(tactic| walk_at "fo") => `(tactic| (with_reducible refine rd_for ?_))
local macro_rules | `(tactic| walk_at "pm") => `(tactic| repeat first
  | with_reducible first | refine rd_pcons ?_ | refine rd_pstr ?_ | refine rd_pcap ?_ | refine rd_pwild ?_ | refine rd_pnil ?_ | refine rd_por ?_ | refine rd_pno ?_
  | ((with_reducible refine rd_eq rfl ?_); refine ⟨_, rfl, ?_⟩; first | refine rd_T rfl ?_ | refine rd_F (by decide) ?_)
  | dsimp only [List.nil_append, List.singleton_append, List.cons_append, setAll])
local macro_rules | `(tactic| walk_at "pc") => `(tactic| (refine rd_case ?_); (first | (refine rd_phit (SqT.of (by assumption)) rfl ?_) | (refine rd_pmiss (SqT.of (by assumption)) (by simp) ?_)); (walk_at "pm"))

def spNumber (K : PySem.W.Frag) (ns : List Int) : Sp := fun vs H Q _ => ∃ (a sc : Addr), vs = [.ref a] ∧ StAt K ns H a sc ∧
  ∀ (n : Int) (H' : Hp), -(10 ^ 20) ≤ n → n ≤ 10 ^ 20 → StAt K ns H' a sc → Fr [a] H H' → Q (.int n) H'
section
variable {P : Program} {w : World} {K : PySem.W.Frag} {mg : Str → Option Value} {base : Heap}
theorem sc__law_number : FnScope ["_law_state", "_law_far"] ["_law_state"] (defScope s__law_number) := ⟨rfl, rfl, rfl, by decide +kernel, rfl, by decide +kernel, by decide +kernel⟩
theorem ok_law_number {f : Addr} {fd : FuncData} {ns : List Int} (T : Txt K mg) (F : FnP K "_law_number" "_law_number" s__law_number f fd)
    (G__law_drawn : Cal P w K mg base CX0 1 "_law_drawn" ["_law_state", "_law_many"] (spDrawn K ns)) : FnOk P w K mg base CX0 2 f fd ["_law_state"] (spNumber K ns) := by
  refine ok0 F sc__law_number (fun vs H Q E h => ?_) (fun cdv A outer s H vs Q E hr h => ?_)
  · obtain ⟨a, sc, rfl, _⟩ := h
    rfl
  · obtain ⟨a, sc, rfl, S, k⟩ := h
    refine ⟨_, (pss_cons (ps_set (i := 1) sc__law_number.nd rfl (Or.inl rfl) (pe_ix (ix_listK K) (pe_lst (pa_cons pe_int (pa_cons pe_int (pa_cons (pe_op op_pow pe_int pe_int) pa_nil)))) (pe_op op_fdiv (pe_cal G__law_drawn (hr.mono (by omega)) pass0 (pa_cons (pv 0) (pa_cons pe_int pa_nil))) pe_int) (fun _ _ => rfl)))
  (pss_one (ps_ret (pe_op op_sub (pe_cal G__law_drawn (hr.mono (by omega)) pass0 (pa_cons (pv 0) (pa_cons (pv 1) pa_nil))) (pe_op op_mul (pe_cal G__law_drawn (hr.mono (by omega)) pass0 (pa_cons (pv 0) (pa_cons pe_int pa_nil))) (pv 1)))))), ?_⟩
    try dsimp only [cxOf, Cx.nox, Cx.wish]
    refine rd_at (σ' := [some (.ref a), none]) rfl ?_
    walk_at "go"
    refine ⟨by show 3 ≤ sizeLine; decide, fun p hp => ?_⟩
    obtain ⟨S1, np⟩ := st_new (o := .lst [.int 4, .int 30, .int (10 ^ 20)]) S hp
    walk_at "go"
    refine ⟨a, sc, 12, rfl, S1, by decide, by decide, fun r H2 r0 r1 S2 f2 => ?_⟩
    walk_at "go"
    have hp2 : H2 p = some (.lst [.int 4, .int 30, .int (10 ^ 20)]) := f2.at upd_same (by simpa using np.symm)
    obtain ⟨v, hv, ev⟩ := at_in (xs := [V.int 4, .int 30, .int (10 ^ 20)]) (i := r / 5) (by omega) (by show r / 5 < 3; omega)
    refine rd_ixL (SqL.of hp2) ev ?_
    obtain ⟨far, rfl, hf⟩ : ∃ far : Int, v = .int far ∧ (far = 4 ∨ far = 30 ∨ far = 10 ^ 20) := by
      simp only [List.mem_cons, List.not_mem_nil, or_false] at hv
      rcases hv with rfl | rfl | rfl
      · exact ⟨_, rfl, .inl rfl⟩
      · exact ⟨_, rfl, .inr (.inl rfl)⟩
      · exact ⟨_, rfl, .inr (.inr rfl)⟩
    have h0 : 0 < far := by omega
    have h1 : far ≤ 10 ^ 20 := by omega
    walk_at "go"
    refine ⟨a, sc, far, rfl, S2, h0, by rcases hf with rfl | rfl | rfl <;> decide, fun r2 H3 a0 a1 S3 f3 => ?_⟩
    walk_at "go"
    refine ⟨a, sc, 2, rfl, S3, by decide, by decide, fun r3 H4 b0 b1 S4 f4 => ?_⟩
    walk_at "go"
    have e : r3 = 0 ∨ r3 = 1 := by omega
    refine k _ _ ?_ ?_ S4 (((Fr.new hp).tr f2).tr (f3.tr f4))
    · rcases e with rfl | rfl <;> omega
    · rcases e with rfl | rfl <;> omega
end
end Dc

set_option Elab.async false
set_option linter.all false
set_option maxRecDepth 100000
set_option maxHeartbeats 2000000
namespace Dc
open PySem PySem.Spec PyProof.Rows L2
local macro_rules | `(tactic| walk_at "ne") => `(tactic| first | assumption | (refine Ne.symm ?_; assumption) | exact ne_of (by assumption) (by assumption) (by intro q; cases q) | exact ne_of_none (by assumption) (by assumption) | exact Ne.symm (ne_of_none (by assumption) (by assumption)))
local macro_rules | `(tactic| walk_at "hp") => `(tactic| first | assumption | exact upd_same | (refine upd_keep ?_ (by assumption); walk_at "hp") | (refine upd_other ?_ ?_; · walk_at "ne"; · walk_at "hp"))
local macro_rules | `(tactic| walk_at "hl") => `(tactic| first | assumption | exact SqL.of (by walk_at "hp"))
local macro_rules | `(tactic| walk_at "ht") => `(tactic| first | assumption | exact SqT.of (by walk_at "hp"))
local macro_rules | `(tactic| walk_at "rd1") => `(tactic| first
  | ((with_reducible apply rd_var); exact rfl)
  | ((with_reducible apply rd_eq); exact rfl) | ((with_reducible apply rd_ne); exact rfl)
  | with_reducible first
  | refine iteT ?_ | refine iteF ?_ | refine rd_nF ?_ | refine rd_nT ?_ | refine rd_yes ?_ | refine rd_c ?_ | refine rd_op ?_ | refine rd_un ?_ | refine rd_test ?_ | refine rd_B ?_ | refine rd_bl ?_ | refine rd_seq ?_ | refine rd_next ?_ | refine rd_ifs ?_ | refine rd_asg ?_ | refine rd_name ?_ | refine rd_ret ?_ | refine rd_drop ?_
  | refine rd_call ?_ | refine rd_cons ?_ | refine rd_nil ?_ | refine rd_cb ?_ | refine rd_I0 ?_ | refine rd_U ?_ | refine rd_gsub ?_ | refine rd_lst ?_ | refine rd_tup ?_ | refine rd_if ?_ | refine rd_not ?_ | refine rd_rng1 ?_ | refine rd_itup ?_ | refine rd_ilst ?_ | refine rd_bm ?_ | refine rd_bm0 ?_ | refine rd_andV ?_ | refine rd_orV ?_ | refine rd_notV ?_)
local macro_rules | `(tactic| walk_at "rd") => `(tactic| repeat walk_at "rd1")
local macro_rules | `(tactic| walk_at "ci") => `(tactic| first | assumption | (show (0 : Int) < _; first | decide | omega) | exact ⟨by decide, by decide⟩ | exact Or.inr ⟨by decide, by decide⟩ | exact Or.inl ⟨by decide, by decide⟩ | exact ⟨by decide, by decide, by decide⟩ | exact Or.inl ⟨by omega, by omega⟩ | exact Or.inr ⟨by omega, by omega⟩)
local macro_rules | `(tactic| walk_at "ix") => `(tactic| first
  | ((with_reducible apply rd_ixL); (walk_at "hl"); exact rfl)
  | ((with_reducible apply rd_ixT); (walk_at "ht"); exact rfl)
  | ((with_reducible apply rd_lenL); (walk_at "hl"))
  | ((with_reducible apply rd_lenT); (walk_at "ht"))
  | ((with_reducible apply rd_tupOf); (walk_at "hl"))
  | ((with_reducible apply rd_listOf); (walk_at "hl"))
  | (with_reducible refine rd_min2 ?_)
  | ((with_reducible apply rd_I); (walk_at "ci"))
  | ((with_reducible apply rd_setL); (walk_at "hp"); exact rfl))
local macro_rules | `(tactic| walk_at "gs") => `(tactic| repeat first | walk_at "rd1" | walk_at "ix")
local macro_rules | `(tactic| walk_at "go") => `(tactic| repeat first | walk_at "rd1" | walk_at "ix" | with_reducible refine rd_and ?_ | with_reducible refine rd_or ?_)
local macro_rules | `(tactic| walk_at "fo") => `(tactic| (with_reducible refine rd_for ?_))
local macro_rules | `(tactic| walk_at "pm") => `(tactic| repeat first
  | with_reducible first | refine rd_pcons ?_ | refine rd_pstr ?_ | refine rd_pcap ?_ | refine rd_pwild ?_ | refine rd_pnil ?_ | refine rd_por ?_ | refine rd_pno ?_
  | ((with_reducible refine rd_eq rfl ?_); refine ⟨_, rfl, ?_⟩; first | refine rd_T rfl ?_ | refine rd_F (by decide) ?_)
  | dsimp only [List.nil_append, List.singleton_append, List.cons_append, setAll])
local macro_rules | `(tactic| walk_at "pc") => `(tactic| (refine rd_case ?_); (first | (refine rd_phit (SqT.of (by assumption)) rfl ?_) | (refine rd_pmiss (SqT.of (by assumption)) (by simp) ?_)); (walk_at "pm"))

def spMaker (K : PySem.W.Frag) (ns : List Int) : Sp := fun vs H Q _ => ∃ (a sc : Addr) (rows : Bool), vs = [.ref a, .bl rows] ∧ StAt K ns H a sc ∧
  ∀ (p : Addr) (m : Mkr) (H' : Hp), m.ok → (rows = true → m.isRow) → MkAt H' p m → StAt K ns H' a sc → Fr [a] H H' → Q (.ref p) H'
section
variable {P : Program} {w : World} {K : PySem.W.Frag} {mg : Str → Option Value} {base : Heap}
theorem sc__law_maker : FnScope ["_law_state", "_law_rows", "_law_many", "_law_few", "_law_k"] ["_law_state", "_law_rows"] (defScope s__law_maker) := ⟨rfl, rfl, rfl, by decide +kernel, rfl, by decide +kernel, by decide +kernel⟩
theorem ok_law_maker {f : Addr} {fd : FuncData} {ns : List Int} (T : Txt K mg) (F : FnP K "_law_maker" "_law_maker" s__law_maker f fd)
    (G__law_drawn : Cal P w K mg base CX0 1 "_law_drawn" ["_law_state", "_law_many"] (spDrawn K ns)) (G__law_number : Cal P w K mg base CX0 2 "_law_number" ["_law_state"] (spNumber K ns)) :
    FnOk P w K mg base CX0 3 f fd ["_law_state", "_law_rows"] (spMaker K ns) := by
  refine ok0 F sc__law_maker (fun vs H Q E h => ?_) (fun cdv A outer s H vs Q E hr h => ?_)
  · obtain ⟨a, sc, rows, rfl, _⟩ := h
    rfl
  · obtain ⟨a, sc, rows, rfl, S, k⟩ := h
    refine ⟨_, (pss_cons (ps_if (PW.pt (pw_and (pt_not (pt_val (pv 1))) (pw_and1 (pt_cmpR op_eq (pe_cal G__law_drawn (hr.mono (by omega)) pass0 (pa_cons (pv 0) (pa_cons pe_int pa_nil))) pe_int (nomark _)))))
    (pss_one (ps_ret (pe_tup (pa_cons pe_str (pa_cons (pe_cal G__law_number (hr.mono (by omega)) pass0 (pa_cons (pv 0) pa_nil)) (pa_cons (pe_ix (ix_listK K) (pe_lst (pa_cons pe_int (pa_cons pe_int (pa_cons pe_int (pa_cons pe_int (pa_cons (pe_op op_sub pe_int pe_int) (pa_cons (pe_cal G__law_number (hr.mono (by omega)) pass0 (pa_cons (pv 0) pa_nil)) pa_nil))))))) (pe_cal G__law_drawn (hr.mono (by omega)) pass0 (pa_cons (pv 0) (pa_cons pe_int pa_nil))) (fun _ _ => rfl)) pa_nil)))))) pss_nil)
  (pss_cons (ps_set (i := 2) sc__law_maker.nd rfl (Or.inl rfl) (pe_cal G__law_drawn (hr.mono (by omega)) pass0 (pa_cons (pv 0) (pa_cons (pe_ix (ix_listK K) (pe_lst (pa_cons pe_int (pa_cons pe_int (pa_cons pe_int pa_nil)))) (pe_cal G__law_drawn (hr.mono (by omega)) pass0 (pa_cons (pv 0) (pa_cons pe_int pa_nil))) (fun _ _ => rfl)) pa_nil))))
  (pss_cons (ps_set (i := 3) sc__law_maker.nd rfl (Or.inr rfl) (pe_cal G__law_drawn (hr.mono (by omega)) pass0 (pa_cons (pv 0) (pa_cons pe_int pa_nil))))
  (pss_one (ps_ret (pe_tup (pa_cons pe_str (pa_cons (pe_callTy (call_tupOfK K) (by rfl) T.free_tuple (by decide +kernel) (pa_cons (pe_lc (own := [("_law_k", 4)]) (g := gName 4) rfl sc__law_maker.nd (pi_range1 (by rfl) T.free_range (pa_cons (pv 2) pa_nil)) (blkOk_by (N := ["_law_state", "_law_rows", "_law_many", "_law_few", "_law_k"]) (sc := defScope s__law_maker) (by decide +kernel)) (fun _ _ _ _ _ => pg_name (i := 4) sc__law_maker.nd rfl (Or.inl rfl)) (fun _ _ _ _ _ => pts_nil) (fun _ _ _ _ _ => (pe_ix (ix_listK K) (pe_lst (pa_cons (pe_cal G__law_drawn (hr.mono (by omega)) pass0 (pa_cons (pv 0) (pa_cons pe_int pa_nil))) (pa_cons (pe_cal G__law_number (hr.mono (by omega)) pass0 (pa_cons (pv 0) pa_nil)) (pa_cons (pv 4) pa_nil)))) (pv 3) (fun _ _ => rfl)))) pa_nil)) pa_nil)))))))), ?_⟩
    try dsimp only [cxOf, Cx.nox, Cx.wish]
    refine rd_at (σ' := [some (.ref a), some (.bl rows), none, none, none]) rfl ?_
    walk_at "go"
    cases rows with
    | false =>
      walk_at "go"
      refine ⟨a, sc, 2, rfl, S, by decide, by decide, fun r H1 r0 r1 S1 f1 => ?_⟩
      walk_at "go"
      refine rd_dec (fun c => ?_) (fun c => ?_)
      · -- a count
        walk_at "go"
        refine ⟨a, sc, rfl, S1, fun n1 H2 n10 n11 S2 f2 => ?_⟩
        walk_at "go"
        refine ⟨a, sc, rfl, S2, fun n2 H3 n20 n21 S3 f3 => ?_⟩
        walk_at "go"
        refine ⟨by show 6 ≤ sizeLine; decide, fun p hp => ?_⟩
        obtain ⟨S4, np⟩ := st_new (o := .lst [.int 0, .int 1, .int 1, .int 2, .int (0 - 1), .int n2]) S3 hp
        walk_at "go"
        refine ⟨a, sc, 6, rfl, S4, by decide, by decide, fun r2 H5 a0 a1 S5 f5 => ?_⟩
        walk_at "go"
        have hp5 := f5.at upd_same (by simpa using np.symm)
        obtain ⟨v, hv, ev⟩ := at_in (xs := [V.int 0, .int 1, .int 1, .int 2, .int (0 - 1), .int n2]) (i := r2) a0 a1
        refine rd_ixL (SqL.of hp5) ev ?_
        obtain ⟨st, rfl, hst⟩ : ∃ st : Int, v = .int st ∧ numOk st := by
          simp only [List.mem_cons, List.not_mem_nil, or_false] at hv
          unfold numOk
          rcases hv with rfl | rfl | rfl | rfl | rfl | rfl
          all_goals exact ⟨_, rfl, by omega, by omega⟩
        walk_at "go"
        refine ⟨by show 3 ≤ sizeLine; decide, fun q hq => ?_⟩
        have fr : Fr [a] H (upd H5 q (.tup [.str "count", .int n1, .int st])) := ((f1.tr f2).tr (f3.tr ((Fr.new hp).tr f5))).newN hq
        exact k q (.count n1 st) _ ⟨by unfold numOk; omega, hst⟩ (fun z => by cases z) upd_same (st_new S5 hq).1 fr
      · walk_at "go"
        refine ⟨by show 3 ≤ sizeLine; decide, fun p hp => ?_⟩
        obtain ⟨S2, np⟩ := st_new (o := .lst [.int 4, .int 12, .int 101]) S1 hp
        walk_at "go"
        refine ⟨a, sc, 3, rfl, S2, by decide, by decide, fun r2 H3 a0 a1 S3 f3 => ?_⟩
        walk_at "go"
        have hp3 := f3.at upd_same (by simpa using np.symm)
        obtain ⟨v, hv, ev⟩ := at_in (xs := [V.int 4, .int 12, .int 101]) (i := r2) a0 a1
        refine rd_ixL (SqL.of hp3) ev ?_
        obtain ⟨mx, rfl, m0, m1⟩ : ∃ mx : Int, v = .int mx ∧ 0 < mx ∧ mx ≤ 101 := by
          simp only [List.mem_cons, List.not_mem_nil, or_false] at hv
          rcases hv with rfl | rfl | rfl
          all_goals exact ⟨_, rfl, by omega, by omega⟩
        walk_at "go"
        refine ⟨a, sc, mx, rfl, S3, m0, Nat.lt_of_le_of_lt (show mx.natAbs ≤ 101 by omega) (by decide), fun many H4 b0 b1 S4 f4 => ?_⟩
        walk_at "go"
        refine ⟨a, sc, 3, rfl, S4, by decide, by decide, fun few H5 c0 c1 S5 f5 => ?_⟩
        walk_at "go"
        refine ⟨_, rfl, many, rfl, by omega, by omega, fun D hD => ?_⟩
        have f05 : Fr [a] H H5 := (f1.tr ((Fr.new hp).tr f3)).tr (f4.tr f5)
        refine lc_range (lo := 0) (n := many.toNat) (fun i H6 => ∃ acc : List Int, H6 D = some (.lst (acc.map V.int)) ∧ acc.length = i ∧ (∀ n ∈ acc, numOk n) ∧ StAt K ns H6 a sc ∧ Fr [a] H5 H6) ⟨[], upd_same, rfl, (fun _ z => by cases z), (st_new S5 hD).1, Fr.new hD⟩ ?_ ?_
        · rintro i H6 hi ⟨acc, g1, g2, g3, S6, f6⟩
          walk_at "go"
          refine ⟨rfl, ?_⟩
          have nD : D ∉ [a] := by
            obtain ⟨⟨_, _, _, z, _⟩, _⟩ := S5
            have := ne_of_none z hD
            simpa using this.symm
          walk_at "go"
          refine ⟨a, sc, 3, rfl, S6, by decide, by decide, fun x1 H7 x10 x11 S7 f7 => ?_⟩
          walk_at "go"
          refine ⟨a, sc, rfl, S7, fun x2 H8 x20 x21 S8 f8 => ?_⟩
          walk_at "go"
          refine ⟨by show 3 ≤ sizeLine; decide, fun q hq => ?_⟩
          walk_at "go"
          obtain ⟨v, hv, ev⟩ := at_in (xs := [V.int x1, .int x2, .int (0 + (i : Int))]) (i := few) c0 c1
          refine rd_ixL (SqL.of upd_same) ev ?_
          obtain ⟨z, rfl, hz⟩ : ∃ z : Int, v = .int z ∧ numOk z := by
            simp only [List.mem_cons, List.not_mem_nil, or_false] at hv
            unfold numOk
            rcases hv with rfl | rfl | rfl
            all_goals exact ⟨_, rfl, by omega, by omega⟩
          have gD : H8 D = some (.lst (acc.map V.int)) := f8.at (f7.at g1 nD) nD
          refine ⟨_, upd_keep gD hq, by rw [List.length_map]; exact small1000 (by omega), acc ++ [z], ?_, ?_, ?_, ?_, ?_⟩
          · rw [upd_same]; simp
          · simp [g2]
          · intro n hn
            rcases List.mem_append.mp hn with h | h
            · exact g3 n h
            · simp at h; rw [h]; exact hz
          · exact ((st_new S8 hq).1).fr (Fr.put (S := [D]) List.mem_cons_self (nt (upd_keep gD hq))) (by simp at nD; simpa using fun e => nD e.symm)
          · exact (((f6.tr f7).tr f8).newN hq).putN (.inr hD) (nt (upd_keep gD hq))
        · rintro H6 ⟨acc, g1, g2, g3, S6, f6⟩
          walk_at "go"
          intro r hr
          walk_at "go"
          refine ⟨by show 2 ≤ sizeLine; decide, fun q hq => ?_⟩
          refine k q (.row acc) _ ⟨by omega, g3⟩ (fun _ => trivial) ⟨r, upd_same, upd_keep upd_same hq⟩ (st_new (st_new S6 hr).1 hq).1 (((f05.tr f6).newN hr).newN hq)
    | true =>
      have S1 := S
      have f1 := Fr.refl [a] H
      walk_at "go"
      refine ⟨by show 3 ≤ sizeLine; decide, fun p hp => ?_⟩
      obtain ⟨S2, np⟩ := st_new (o := .lst [.int 4, .int 12, .int 101]) S1 hp
      walk_at "go"
      refine ⟨a, sc, 3, rfl, S2, by decide, by decide, fun r2 H3 a0 a1 S3 f3 => ?_⟩
      walk_at "go"
      have hp3 := f3.at upd_same (by simpa using np.symm)
      obtain ⟨v, hv, ev⟩ := at_in (xs := [V.int 4, .int 12, .int 101]) (i := r2) a0 a1
      refine rd_ixL (SqL.of hp3) ev ?_
      obtain ⟨mx, rfl, m0, m1⟩ : ∃ mx : Int, v = .int mx ∧ 0 < mx ∧ mx ≤ 101 := by
        simp only [List.mem_cons, List.not_mem_nil, or_false] at hv
        rcases hv with rfl | rfl | rfl
        all_goals exact ⟨_, rfl, by omega, by omega⟩
      walk_at "go"
      refine ⟨a, sc, mx, rfl, S3, m0, Nat.lt_of_le_of_lt (show mx.natAbs ≤ 101 by omega) (by decide), fun many H4 b0 b1 S4 f4 => ?_⟩
      walk_at "go"
      refine ⟨a, sc, 3, rfl, S4, by decide, by decide, fun few H5 c0 c1 S5 f5 => ?_⟩
      walk_at "go"
      refine ⟨_, rfl, many, rfl, by omega, by omega, fun D hD => ?_⟩
      have f05 : Fr [a] H H5 := (f1.tr ((Fr.new hp).tr f3)).tr (f4.tr f5)
      refine lc_range (lo := 0) (n := many.toNat) (fun i H6 => ∃ acc : List Int, H6 D = some (.lst (acc.map V.int)) ∧ acc.length = i ∧ (∀ n ∈ acc, numOk n) ∧ StAt K ns H6 a sc ∧ Fr [a] H5 H6) ⟨[], upd_same, rfl, (fun _ z => by cases z), (st_new S5 hD).1, Fr.new hD⟩ ?_ ?_
      · rintro i H6 hi ⟨acc, g1, g2, g3, S6, f6⟩
        walk_at "go"
        refine ⟨rfl, ?_⟩
        have nD : D ∉ [a] := by
          obtain ⟨⟨_, _, _, z, _⟩, _⟩ := S5
          have := ne_of_none z hD
          simpa using this.symm
        walk_at "go"
        refine ⟨a, sc, 3, rfl, S6, by decide, by decide, fun x1 H7 x10 x11 S7 f7 => ?_⟩
        walk_at "go"
        refine ⟨a, sc, rfl, S7, fun x2 H8 x20 x21 S8 f8 => ?_⟩
        walk_at "go"
        refine ⟨by show 3 ≤ sizeLine; decide, fun q hq => ?_⟩
        walk_at "go"
        obtain ⟨v, hv, ev⟩ := at_in (xs := [V.int x1, .int x2, .int (0 + (i : Int))]) (i := few) c0 c1
        refine rd_ixL (SqL.of upd_same) ev ?_
        obtain ⟨z, rfl, hz⟩ : ∃ z : Int, v = .int z ∧ numOk z := by
          simp only [List.mem_cons, List.not_mem_nil, or_false] at hv
          unfold numOk
          rcases hv with rfl | rfl | rfl
          all_goals exact ⟨_, rfl, by omega, by omega⟩
        have gD : H8 D = some (.lst (acc.map V.int)) := f8.at (f7.at g1 nD) nD
        refine ⟨_, upd_keep gD hq, by rw [List.length_map]; exact small1000 (by omega), acc ++ [z], ?_, ?_, ?_, ?_, ?_⟩
        · rw [upd_same]; simp
        · simp [g2]
        · intro n hn
          rcases List.mem_append.mp hn with h | h
          · exact g3 n h
          · simp at h; rw [h]; exact hz
        · exact ((st_new S8 hq).1).fr (Fr.put (S := [D]) List.mem_cons_self (nt (upd_keep gD hq))) (by simp at nD; simpa using fun e => nD e.symm)
        · exact (((f6.tr f7).tr f8).newN hq).putN (.inr hD) (nt (upd_keep gD hq))
      · rintro H6 ⟨acc, g1, g2, g3, S6, f6⟩
        walk_at "go"
        intro r hr
        walk_at "go"
        refine ⟨by show 2 ≤ sizeLine; decide, fun q hq => ?_⟩
        refine k q (.row acc) _ ⟨by omega, g3⟩ (fun _ => trivial) ⟨r, upd_same, upd_keep upd_same hq⟩ (st_new (st_new S6 hr).1 hq).1 (((f05.tr f6).newN hr).newN hq)
end
end Dc

set_option Elab.async false
set_option linter.all false
set_option maxRecDepth 100000
set_option maxHeartbeats 4000000
namespace Dc
open PySem PySem.Spec PyProof.Rows L2
local macro_rules | `(tactic| walk_at "ne") => `(tactic| first | assumption | (refine Ne.symm ?_; assumption) | exact ne_of (by assumption) (by assumption) (by intro q; cases q) | exact ne_of_none (by assumption) (by assumption) | exact Ne.symm (ne_of_none (by assumption) (by assumption)))
local macro_rules | `(tactic| walk_at "hp") => `(tactic| first | assumption | exact upd_same | (refine upd_keep ?_ (by assumption); walk_at "hp") | (refine upd_other ?_ ?_; · walk_at "ne"; · walk_at "hp"))
local macro_rules | `(tactic| walk_at "hl") => `(tactic| first | assumption | exact SqL.of (by walk_at "hp"))
local macro_rules | `(tactic| walk_at "ht") => `(tactic| first | assumption | exact SqT.of (by walk_at "hp"))
local macro_rules | `(tactic| walk_at "rd1") => `(tactic| first
  | ((with_reducible apply rd_var); exact rfl)
  | ((with_reducible apply rd_eq); exact rfl) | ((with_reducible apply rd_ne); exact rfl)
  | with_reducible first
  | refine iteT ?_ | refine iteF ?_ | refine rd_nF ?_ | refine rd_nT ?_ | refine rd_yes ?_ | refine rd_c ?_ | refine rd_op ?_ | refine rd_un ?_ | refine rd_test ?_ | refine rd_B ?_ | refine rd_bl ?_ | refine rd_seq ?_ | refine rd_next ?_ | refine rd_ifs ?_ | refine rd_asg ?_ | refine rd_name ?_ | refine rd_ret ?_ | refine rd_drop ?_
  | refine rd_call ?_ | refine rd_cons ?_ | refine rd_nil ?_ | refine rd_cb ?_ | refine rd_I0 ?_ | refine rd_U ?_ | refine rd_gsub ?_ | refine rd_lst ?_ | refine rd_tup ?_ | refine rd_if ?_ | refine rd_not ?_ | refine rd_rng1 ?_ | refine rd_itup ?_ | refine rd_ilst ?_ | refine rd_bm ?_ | refine rd_bm0 ?_ | refine rd_andV ?_ | refine rd_orV ?_ | refine rd_notV ?_)
local macro_rules | `(tactic| walk_at "rd") => `(tactic| repeat walk_at "rd1")
local macro_rules | `(tactic| walk_at "ci") => `(tactic| first | assumption | (show (0 : Int) < _; first | decide | omega) | exact ⟨by decide, by decide⟩ | exact Or.inr ⟨by decide, by decide⟩ | exact Or.inl ⟨by decide, by decide⟩ | exact ⟨by decide, by decide, by decide⟩ | exact Or.inl ⟨by omega, by omega⟩ | exact Or.inr ⟨by omega, by omega⟩)
local macro_rules | `(tactic| walk_at "ix") => `(tactic| first
  | ((with_reducible apply rd_ixL); (walk_at "hl"); exact rfl)
  | ((with_reducible apply rd_ixT); (walk_at "ht"); exact rfl)
  | ((with_reducible apply rd_lenL); (walk_at "hl"))
  | ((with_reducible apply rd_lenT); (walk_at "ht"))
  | ((with_reducible apply rd_tupOf); (walk_at "hl"))
  | ((with_reducible apply rd_listOf); (walk_at "hl"))
  | (with_reducible refine rd_min2 ?_)
  | ((with_reducible apply rd_I); (walk_at "ci"))
  | ((with_reducible apply rd_setL); (walk_at "hp"); exact rfl))
local macro_rules | `(tactic| walk_at "gs") => `(tactic| repeat first | walk_at "rd1" | walk_at "ix")
local macro_rules | `(tactic| walk_at "go") => `(tactic| repeat first | walk_at "rd1" | walk_at "ix" | with_reducible refine rd_and ?_ | with_reducible refine rd_or ?_)
local macro_rules | `(tactic| walk_at "fo") => `(tactic| (with_reducible refine rd_for ?_))
local macro_rules | `(tactic| walk_at "pm") => `(tactic| repeat first
  | with_reducible first | refine rd_pcons ?_ | refine rd_pstr ?_ | refine rd_pcap ?_ | refine rd_pwild ?_ | refine rd_pnil ?_ | refine rd_por ?_ | refine rd_pno ?_
  | ((with_reducible refine rd_eq rfl ?_); refine ⟨_, rfl, ?_⟩; first | refine rd_T rfl ?_ | refine rd_F (by decide) ?_)
  | dsimp only [List.nil_append, List.singleton_append, List.cons_append, setAll])
local macro_rules | `(tactic| walk_at "pc") => `(tactic| (refine rd_case ?_); (first | (refine rd_phit (SqT.of (by assumption)) rfl ?_) | (refine rd_pmiss (SqT.of (by assumption)) (by simp) ?_)); (walk_at "pm"))

def RoomAt (H : Hp) (r : Addr) (m s t : Int) : Prop := H r = some (.lst [.int m, .int s, .int t]) ∧ 1 ≤ t ∧ t ≤ 60
theorem room_ne {K : PySem.W.Frag} {ns : List Int} {H : Hp} {a sc r : Addr} {m s t : Int} (S : StAt K ns H a sc) (h : RoomAt H r m s t) : r ≠ a := by
  obtain ⟨⟨b, x, l, h1, _⟩, _⟩ := S
  exact ne_of h.1 h1 (by intro q; cases q)
theorem RoomAt.fr {H H' : Hp} {r : Addr} {m s t : Int} {S : List Addr} (h : RoomAt H r m s t) (f : Fr S H H') (n : r ∉ S) : RoomAt H' r m s t := ⟨f.at h.1 n, h.2⟩
def spChain (K : PySem.W.Frag) (ns : List Int) (n : Nat) : Sp := fun vs H Q _ => ∃ (a sc r : Addr) (rows : Bool) (m s t : Int), vs = [.ref a, .ref r, .bl rows] ∧ StAt K ns H a sc ∧ RoomAt H r m s t ∧ 1 ≤ m ∧ m ≤ n ∧ 0 ≤ s ∧
  ∀ (p : Addr) (c : Ch) (t' : Int) (H' : Hp), ChAt H' p c → c.ok → (rows = true → c.rows) → (c.nm : Int) ≤ m → (c.ns : Int) ≤ s → RoomAt H' r (m - c.nm) (s - c.ns) t' → StAt K ns H' a sc → Fr [a, r] H H' → Q (.ref p) H'
def spStage (K : PySem.W.Frag) (ns : List Int) (n : Nat) : Sp := fun vs H Q _ => ∃ (a sc r : Addr) (rows : Bool) (m s t : Int), vs = [.ref a, .ref r, .bl rows] ∧ StAt K ns H a sc ∧ RoomAt H r m s t ∧ 0 ≤ m ∧ m ≤ n ∧ 0 ≤ s ∧
  ∀ (x : Addr) (g : Sg) (t' : Int) (H' : Hp), SgAt H' x g → g.ok → (rows = true → g.rows) → (g.nm : Int) ≤ m → (g.ns : Int) ≤ s → RoomAt H' r (m - g.nm) (s - g.ns) t' → StAt K ns H' a sc → Fr [a, r] H H' → Q (.ref x) H'
section
variable {P : Program} {w : World} {K : PySem.W.Frag} {mg : Str → Option Value} {base : Heap}
theorem sc__law_stage : FnScope ["_law_state", "_law_room", "_law_rows", "_law_way", "_law_many", "_law_wheel", "_law_some", "_law_stage_here"] ["_law_state", "_law_room", "_law_rows"] (defScope s__law_stage) := ⟨rfl, rfl, rfl, by decide +kernel, rfl, by decide +kernel, by decide +kernel⟩
theorem ok_law_stage {f : Addr} {fd : FuncData} {ns : List Int} {n k : Nat} (T : Txt K mg) (F : FnP K "_law_stage" "_law_stage" s__law_stage f fd)
    (G__law_drawn : Cal P w K mg base CX0 1 "_law_drawn" ["_law_state", "_law_many"] (spDrawn K ns)) (G__law_number : Cal P w K mg base CX0 2 "_law_number" ["_law_state"] (spNumber K ns))
    (G__law_chain : Cal P w K mg base CX0 (k + 2) "_law_chain" ["_law_state", "_law_room", "_law_rows"] (spChain K ns n)) :
    FnOk P w K mg base CX0 (k + 3) f fd ["_law_state", "_law_room", "_law_rows"] (spStage K ns n) := by
  refine ok0 F sc__law_stage (fun vs H Q E h => ?_) (fun cdv A outer s H vs Q E hr h => ?_)
  · obtain ⟨a, sc, r, rows, m, s, t, rfl, _⟩ := h
    rfl
  · obtain ⟨a, sc, r, rows, m, s, t, rfl, S, R, m0, m1, s0, k⟩ := h
    refine ⟨_, (pss_cons (ps_set (i := 3) sc__law_stage.nd rfl (Or.inl rfl) (pe_cal G__law_drawn (hr.mono (by omega)) pass0 (pa_cons (pv 0) (pa_cons pe_int pa_nil))))
  (pss_cons (ps_if (PW.pt (pw_and (pt_cmpR op_gt (pv 3) pe_int (nomark _)) (pw_and1 (pt_cmpR op_gt (pe_ix (ix_listK K) (pv 1) pe_int (fun _ _ => rfl)) pe_int (nomark _)))))
    (pss_one (ps_ret (pe_tup (pa_cons (pe_ix (ix_listK K) (pe_lst (pa_cons pe_str (pa_cons pe_str pa_nil))) (pe_op op_mod (pv 3) pe_int) (fun _ _ => rfl)) (pa_cons (pe_cal G__law_chain (hr.mono (by omega)) pass0 (pa_cons (pv 0) (pa_cons (pv 1) (pa_cons (pv 2) pa_nil)))) pa_nil))))) pss_nil)
  (pss_cons (ps_set (i := 4) sc__law_stage.nd rfl (Or.inl rfl) (pe_ix (ix_listK K) (pe_lst (pa_cons (pe_cal G__law_drawn (hr.mono (by omega)) pass0 (pa_cons (pv 0) (pa_cons pe_int pa_nil))) (pa_cons (pe_cal G__law_drawn (hr.mono (by omega)) pass0 (pa_cons (pv 0) (pa_cons pe_int pa_nil))) (pa_cons (pe_cal G__law_drawn (hr.mono (by omega)) pass0 (pa_cons (pv 0) (pa_cons pe_int pa_nil))) pa_nil)))) (pe_cal G__law_drawn (hr.mono (by omega)) pass0 (pa_cons (pv 0) (pa_cons pe_int pa_nil))) (fun _ _ => rfl)))
  (pss_cons (ps_set (i := 5) sc__law_stage.nd rfl (Or.inl rfl) (pe_op op_add pe_int (pe_cal G__law_drawn (hr.mono (by omega)) pass0 (pa_cons (pv 0) (pa_cons (pe_ix (ix_listK K) (pe_lst (pa_cons pe_int (pa_cons pe_int pa_nil))) (pe_op op_fdiv (pe_cal G__law_drawn (hr.mono (by omega)) pass0 (pa_cons (pv 0) (pa_cons pe_int pa_nil))) pe_int) (fun _ _ => rfl)) pa_nil)))))
  (pss_cons (ps_set (i := 6) sc__law_stage.nd rfl (Or.inl rfl) (pe_lst (pa_cons (pe_tup (pa_cons pe_str (pa_cons (pe_cal G__law_number (hr.mono (by omega)) pass0 (pa_cons (pv 0) pa_nil)) pa_nil))) (pa_cons (pe_tup (pa_cons pe_str (pa_cons (pe_op op_sub (pe_cal G__law_drawn (hr.mono (by omega)) pass0 (pa_cons (pv 0) (pa_cons pe_int pa_nil))) pe_int) pa_nil))) (pa_cons (pe_tup (pa_cons pe_str (pa_cons (pe_cal G__law_drawn (hr.mono (by omega)) pass0 (pa_cons (pv 0) (pa_cons (pv 5) pa_nil))) (pa_cons (pv 5) pa_nil)))) pa_nil)))))
  (pss_cons (ps_set (i := 6) sc__law_stage.nd rfl (Or.inl rfl) (pe_op op_cat (pv 6) (pe_lst (pa_cons (pe_tup (pa_cons pe_str (pa_cons (pv 4) pa_nil))) (pa_cons (pe_tup (pa_cons pe_str (pa_cons (pv 4) pa_nil))) (pa_cons (pe_tup (pa_cons pe_str (pa_cons (pe_op op_add pe_int (pe_cal G__law_drawn (hr.mono (by omega)) pass0 (pa_cons (pv 0) (pa_cons (pe_ix (ix_listK K) (pe_lst (pa_cons pe_int (pa_cons pe_int pa_nil))) (pe_cal G__law_drawn (hr.mono (by omega)) pass0 (pa_cons (pv 0) (pa_cons pe_int pa_nil))) (fun _ _ => rfl)) pa_nil)))) pa_nil))) pa_nil))))))
  (pss_cons (ps_set (i := 7) sc__law_stage.nd rfl (Or.inl rfl) (pe_ix (ix_listK K) (pe_op op_cat (pv 6) (pe_lst (pa_cons (pe_tup (pa_cons pe_str (pa_cons (pe_cal G__law_number (hr.mono (by omega)) pass0 (pa_cons (pv 0) pa_nil)) pa_nil))) (pa_cons (pe_tup (pa_cons pe_str pa_nil)) (pa_cons (pe_tup (pa_cons pe_str (pa_cons pe_int pa_nil))) pa_nil))))) (pe_op op_mod (pv 3) pe_int) (fun _ _ => rfl)))
  (pss_cons (ps_if (pt_cmpR op_eq (pe_ix (ix_tupK K) (pv 7) pe_int (fun _ _ => rfl)) pe_str (nomark _))
    (pss_cons (ps_set (i := 7) sc__law_stage.nd rfl (Or.inl rfl) (pe_tup (pa_cons pe_str (pa_cons (pe_ifExp (pt_cmpR op_lt (pe_op op_mul (pe_ix (ix_listK K) (pv 1) pe_int (fun _ _ => rfl)) (pe_ix (ix_tupK K) (pv 7) pe_int (fun _ _ => rfl))) pe_int (nomark _)) (pe_ix (ix_tupK K) (pv 7) pe_int (fun _ _ => rfl)) pe_int) pa_nil))))
    (pss_one (ps_asg (pe_op op_mul (pe_ix (ix_listK K) (pv 1) pe_int (fun _ _ => rfl)) (pe_ix (ix_tupK K) (pv 7) pe_int (fun _ _ => rfl))) (pg_sub (pv 1) pe_int set_list)))) pss_nil)
  (pss_one (ps_ret (pv 7))))))))))), ?_⟩
    try dsimp only [cxOf, Cx.nox, Cx.wish]
    refine rd_at (σ' := [some (.ref a), some (.ref r), some (.bl rows), none, none, none, none, none]) rfl ?_
    have nra := room_ne S R
    walk_at "go"
    refine ⟨a, sc, 12, rfl, S, by decide, by decide, fun way H1 w0 w1 S1 f1 => ?_⟩
    have R1 := R.fr f1 (by simpa using nra)
    have r1 := R1.1
    walk_at "gs"
    refine rd_and_pure (b1 := decide (8 < way)) (b2 := decide (0 < m)) (fun Q q => ?_) (fun Q q => ?_) ?_
    · walk_at "go"; exact q
    · walk_at "go"; exact q
    refine rd_b2 (fun c1 c2 => ?_) (fun c => ?_)
    · have c2 : 0 < m := of_decide_eq_true c2
      walk_at "go"
      refine ⟨by show 2 ≤ sizeLine; decide, fun p hp => ?_⟩
      obtain ⟨S2, np⟩ := st_new (o := .lst [.str "both", .str "then"]) S1 hp
      have R2 : RoomAt (upd H1 p (.lst [.str "both", .str "then"])) r m s t := ⟨upd_keep r1 hp, R1.2⟩
      walk_at "go"
      obtain ⟨v, hv, ev⟩ := at_in (xs := [V.str "both", .str "then"]) (i := way % 2) (by omega) (by show way % 2 < 2; omega)
      refine rd_ixL (SqL.of upd_same) ev ?_
      walk_at "go"
      refine ⟨a, sc, r, rows, m, s, t, rfl, S2, R2, by omega, m1, s0, fun p2 c t' H3 hc cok crow cm cs R3 S3 f3 => ?_⟩
      walk_at "go"
      refine ⟨by show 2 ≤ sizeLine; decide, fun q hq => ?_⟩
      have fr : Fr [a, r] H (upd H3 q (.tup [v, .ref p2])) := (((f1.mono (by simp)).newN hp).tr f3).newN hq
      have hc' := hc.fr (Fr.new (S := []) (o := .tup [v, .ref p2]) hq)
      simp only [List.mem_cons, List.not_mem_nil, or_false] at hv
      rcases hv with rfl | rfl
      · exact k q (.both c) t' _ ⟨p2, upd_same, hc'⟩ cok crow cm cs ⟨upd_keep R3.1 hq, R3.2⟩ (st_new S3 hq).1 fr
      · exact k q (.thn c) t' _ ⟨p2, upd_same, hc'⟩ cok crow cm cs ⟨upd_keep R3.1 hq, R3.2⟩ (st_new S3 hq).1 fr
    · walk_at "go"
      refine ⟨a, sc, 4, rfl, S1, by decide, by decide, fun k1 H2 k10 k11 S2 f2 => ?_⟩
      walk_at "go"
      refine ⟨a, sc, 20, rfl, S2, by decide, by decide, fun k2 H3 k20 k21 S3 f3 => ?_⟩
      walk_at "go"
      refine ⟨a, sc, 101, rfl, S3, by decide, by decide, fun k3 H4 k30 k31 S4 f4 => ?_⟩
      walk_at "go"
      refine ⟨by show 3 ≤ sizeLine; decide, fun p hp => ?_⟩
      obtain ⟨S5, np⟩ := st_new (o := .lst [.int k1, .int k2, .int k3]) S4 hp
      have f15 : Fr [a] H (upd H4 p (.lst [.int k1, .int k2, .int k3])) := (((f1.tr f2).tr f3).tr f4).newN hp
      walk_at "go"
      refine ⟨a, sc, 3, rfl, S5, by decide, by decide, fun k4 H6 k40 k41 S6 f6 => ?_⟩
      walk_at "go"
      obtain ⟨v, hv, ev⟩ := at_in (xs := [V.int k1, .int k2, .int k3]) (i := k4) k40 k41
      refine rd_ixL (SqL.of (f6.at upd_same (by simpa using np.symm))) ev ?_
      obtain ⟨many, rfl, my0, my1⟩ : ∃ z : Int, v = .int z ∧ 0 ≤ z ∧ z ≤ 100 := by
        simp only [List.mem_cons, List.not_mem_nil, or_false] at hv
        rcases hv with rfl | rfl | rfl
        all_goals exact ⟨_, rfl, by omega, by omega⟩
      have f16 := f15.tr f6
      clear f15 f6 S5 ev hv np hp f2 f3 f4 S2 S3 S4
      walk_at "go"
      refine ⟨by show 2 ≤ sizeLine; decide, fun p hp => ?_⟩
      obtain ⟨S7, np⟩ := st_new (o := .lst [.int 3, .int 999]) S6 hp
      have f17 := f16.newN (o := .lst [.int 3, .int 999]) hp
      walk_at "go"
      refine ⟨a, sc, 6, rfl, S7, by decide, by decide, fun k5 H8 k50 k51 S8 f8 => ?_⟩
      walk_at "go"
      obtain ⟨v, hv, ev⟩ := at_in (xs := [V.int 3, .int 999]) (i := k5 / 5) (by omega) (by show k5 / 5 < 2; omega)
      refine rd_ixL (SqL.of (f8.at upd_same (by simpa using np.symm))) ev ?_
      obtain ⟨wm, rfl, wm0, wm1⟩ : ∃ z : Int, v = .int z ∧ 0 < z ∧ z ≤ 999 := by
        simp only [List.mem_cons, List.not_mem_nil, or_false] at hv
        rcases hv with rfl | rfl
        all_goals exact ⟨_, rfl, by omega, by omega⟩
      have f18 := f17.tr f8
      clear f17 f8 S7 ev hv np hp
      walk_at "go"
      refine ⟨a, sc, wm, rfl, S8, wm0, Nat.lt_of_le_of_lt (show wm.natAbs ≤ 999 by omega) (by decide), fun k6 H9 k60 k61 S9 f9 => ?_⟩
      have f19 := f18.tr f9
      obtain ⟨wheel, ew, wh0, wh1⟩ : ∃ wheel : Int, wheel = 2 + k6 ∧ 2 ≤ wheel ∧ wheel ≤ 1000 := ⟨2 + k6, rfl, by omega, by omega⟩
      walk_at "go"
      -- ('add', number), ('times', ..), ('keep', ..)
      refine ⟨a, sc, rfl, S9, fun n1 H10 n10 n11 S10 f10 => ?_⟩
      walk_at "go"
      refine ⟨by show 2 ≤ sizeLine; decide, fun x1 hx1 => ?_⟩
      have S11 := (st_new (o := .tup [.str "add", .int n1]) S10 hx1).1
      have f111 := (f19.tr f10).newN (o := .tup [.str "add", .int n1]) hx1
      have g1 : upd H10 x1 (.tup [.str "add", .int n1]) x1 = some (.tup [.str "add", .int n1]) := upd_same
      clear f10 f19 f9 f18 S10 S9 S8
      generalize upd H10 x1 (.tup [.str "add", .int n1]) = H11 at *
      walk_at "go"
      refine ⟨a, sc, 5, rfl, S11, by decide, by decide, fun k7 H12 k70 k71 S12 f12 => ?_⟩
      walk_at "go"
      refine ⟨by show 2 ≤ sizeLine; decide, fun x2 hx2 => ?_⟩
      have S13 := (st_new (o := .tup [.str "times", .int (k7 - 1)]) S12 hx2).1
      have f112 := f12.newN (o := .tup [.str "times", .int (k7 - 1)]) hx2
      have f113 := f111.tr f112
      have g2 : upd H12 x2 (.tup [.str "times", .int (k7 - 1)]) x2 = some (.tup [.str "times", .int (k7 - 1)]) := upd_same
      replace g1 := f112.tp g1
      clear f12 f111 f112 S11 S12
      generalize upd H12 x2 (.tup [.str "times", .int (k7 - 1)]) = H13 at *
      walk_at "go"
      rw [← ew]
      refine ⟨a, sc, wheel, rfl, S13, by omega, Nat.lt_of_le_of_lt (show wheel.natAbs ≤ 1000 by omega) (by decide), fun k8 H14 k80 k81 S14 f14 => ?_⟩
      walk_at "go"
      refine ⟨by show 3 ≤ sizeLine; decide, fun x3 hx3 => ?_⟩
      try rw [← ew]
      have S15 := (st_new (o := .tup [.str "keep", .int k8, .int wheel]) S14 hx3).1
      have f114 := f14.newN (o := .tup [.str "keep", .int k8, .int wheel]) hx3
      have f115 := f113.tr f114
      have g3 : upd H14 x3 (.tup [.str "keep", .int k8, .int wheel]) x3 = some (.tup [.str "keep", .int k8, .int wheel]) := upd_same
      replace g1 := f114.tp g1
      replace g2 := f114.tp g2
      clear f14 f113 f114 S13 S14
      generalize upd H14 x3 (.tup [.str "keep", .int k8, .int wheel]) = H15 at *
      walk_at "go"
      refine ⟨by show 3 ≤ sizeLine; decide, fun p hp => ?_⟩
      have S16 := (st_new (o := .lst [.ref x1, .ref x2, .ref x3]) S15 hp).1
      have f15 := Fr.new (S := [a]) (o := .lst [.ref x1, .ref x2, .ref x3]) hp
      have f116 := f115.tr f15
      have gp : upd H15 p (.lst [.ref x1, .ref x2, .ref x3]) p = some (.lst [.ref x1, .ref x2, .ref x3]) := upd_same
      replace g1 := f15.tp g1
      replace g2 := f15.tp g2
      replace g3 := f15.tp g3
      clear f15 f115 S15
      generalize upd H15 p (.lst [.ref x1, .ref x2, .ref x3]) = H16 at *
      walk_at "go"
      -- ('drop', many), ('take', many), ('each', ..)
      refine ⟨by show 2 ≤ sizeLine; decide, fun x4 hx4 => ?_⟩
      walk_at "go"
      refine ⟨by show 2 ≤ sizeLine; decide, fun x5 hx5 => ?_⟩
      have g4 : upd (upd H16 x4 (.tup [.str "drop", .int many])) x5 (.tup [.str "take", .int many]) x4 = some (.tup [.str "drop", .int many]) := upd_keep upd_same hx5
      have g5 : upd (upd H16 x4 (.tup [.str "drop", .int many])) x5 (.tup [.str "take", .int many]) x5 = some (.tup [.str "take", .int many]) := upd_same
      have S17 := (st_new (o := .tup [.str "take", .int many]) (st_new (o := .tup [.str "drop", .int many]) S16 hx4).1 hx5).1
      have f16 := (Fr.new (S := [a]) (o := .tup [.str "drop", .int many]) hx4).newN (o := .tup [.str "take", .int many]) hx5
      have f117 := f116.tr f16
      have np16 : p ∉ [a] := by
        obtain ⟨⟨_, _, _, z, _⟩, _⟩ := S16
        have := ne_of gp z (by intro q; cases q)
        simpa using this
      replace g1 := f16.tp g1
      replace g2 := f16.tp g2
      replace g3 := f16.tp g3
      replace gp := f16.at gp np16
      clear f16 f116 S16
      generalize upd (upd H16 x4 (.tup [.str "drop", .int many])) x5 (.tup [.str "take", .int many]) = H17 at *
      walk_at "go"
      refine ⟨by show 2 ≤ sizeLine; decide, fun p2 hp2 => ?_⟩
      obtain ⟨S18, np2⟩ := st_new (o := .lst [.int 3, .int 10]) S17 hp2
      walk_at "go"
      refine ⟨a, sc, 2, rfl, S18, by decide, by decide, fun k9 H19 k90 k91 S19 f19 => ?_⟩
      walk_at "go"
      obtain ⟨v, hv, ev⟩ := at_in (xs := [V.int 3, .int 10]) (i := k9) k90 k91
      refine rd_ixL (SqL.of (f19.at upd_same (by simpa using np2.symm))) ev ?_
      obtain ⟨em, rfl, em0, em1⟩ : ∃ z : Int, v = .int z ∧ 0 < z ∧ z ≤ 10 := by
        simp only [List.mem_cons, List.not_mem_nil, or_false] at hv
        rcases hv with rfl | rfl
        all_goals exact ⟨_, rfl, by omega, by omega⟩
      walk_at "go"
      refine ⟨a, sc, em, rfl, S19, em0, Nat.lt_of_le_of_lt (show em.natAbs ≤ 10 by omega) (by decide), fun k10 H20 k100 k101 S20 f20 => ?_⟩
      walk_at "go"
      refine ⟨by show 2 ≤ sizeLine; decide, fun x6 hx6 => ?_⟩
      have S21 := (st_new (o := .tup [.str "each", .int (1 + k10)]) S20 hx6).1
      have f1721 := (((Fr.new (S := [a]) (o := .lst [.int 3, .int 10]) hp2).tr f19).tr f20).newN (o := .tup [.str "each", .int (1 + k10)]) hx6
      have g6 : upd H20 x6 (.tup [.str "each", .int (1 + k10)]) x6 = some (.tup [.str "each", .int (1 + k10)]) := upd_same
      have f121 := f117.tr f1721
      replace g1 := f1721.tp g1
      replace g2 := f1721.tp g2
      replace g3 := f1721.tp g3
      replace g4 := f1721.tp g4
      replace g5 := f1721.tp g5
      replace gp := f1721.at gp np16
      clear f1721 f20 f19 f117 S17 S18 S19 S20 ev hv
      generalize upd H20 x6 (.tup [.str "each", .int (1 + k10)]) = H21 at *
      walk_at "go"
      refine ⟨by show 3 ≤ sizeLine; decide, fun p3 hp3 => ?_⟩
      have S22 := (st_new (o := .lst [.ref x4, .ref x5, .ref x6]) S21 hp3).1
      refine rd_cat (upd_keep gp hp3) upd_same (by show 6 ≤ sizeLine; decide) fun p4 hp4 => ?_
      have S23 := (st_new (o := .lst [.ref x1, .ref x2, .ref x3, .ref x4, .ref x5, .ref x6]) S22 hp4).1
      have f2123 := (Fr.new (S := [a]) (o := .lst [.ref x4, .ref x5, .ref x6]) hp3).newN (o := .lst [.ref x1, .ref x2, .ref x3, .ref x4, .ref x5, .ref x6]) hp4
      have f123 := f121.tr f2123
      replace g1 := f2123.tp g1
      replace g2 := f2123.tp g2
      replace g3 := f2123.tp g3
      replace g4 := f2123.tp g4
      replace g5 := f2123.tp g5
      replace g6 := f2123.tp g6
      clear gp
      have gp : upd (upd H21 p3 (.lst [.ref x4, .ref x5, .ref x6])) p4 (.lst [.ref x1, .ref x2, .ref x3, .ref x4, .ref x5, .ref x6]) p4 = some (.lst [.ref x1, .ref x2, .ref x3, .ref x4, .ref x5, .ref x6]) := upd_same
      show gName 6 (.ref p4) _ (upd (upd H21 p3 (.lst [.ref x4, .ref x5, .ref x6])) p4 (.lst [.ref x1, .ref x2, .ref x3, .ref x4, .ref x5, .ref x6])) _
      clear f2123 f121 S21 S22
      generalize upd (upd H21 p3 (.lst [.ref x4, .ref x5, .ref x6])) p4 (.lst [.ref x1, .ref x2, .ref x3, .ref x4, .ref x5, .ref x6]) = H23 at *
      walk_at "go"
      -- ('until', number), ('unlike',), ('until', 25)
      refine ⟨a, sc, rfl, S23, fun n2 H24 n20 n21 S24 f24 => ?_⟩
      have np23 : p4 ∉ [a] := by
        obtain ⟨⟨_, _, _, z, _⟩, _⟩ := S23
        have := ne_of gp z (by intro q; cases q)
        simpa using this
      walk_at "go"
      refine ⟨by show 2 ≤ sizeLine; decide, fun x7 hx7 => ?_⟩
      walk_at "go"
      refine ⟨by show 1 ≤ sizeLine; decide, fun x8 hx8 => ?_⟩
      walk_at "go"
      refine ⟨by show 2 ≤ sizeLine; decide, fun x9 hx9 => ?_⟩
      walk_at "go"
      refine ⟨by show 3 ≤ sizeLine; decide, fun p5 hp5 => ?_⟩
      have S25 := (st_new (o := .lst [.ref x7, .ref x8, .ref x9]) (st_new (o := .tup [.str "until", .int 25]) (st_new (o := .tup [.str "unlike"]) (st_new (o := .tup [.str "until", .int n2]) S24 hx7).1 hx8).1 hx9).1 hp5).1
      have f2325 := (((f24.newN (o := .tup [.str "until", .int n2]) hx7).newN (o := .tup [.str "unlike"]) hx8).newN (o := .tup [.str "until", .int 25]) hx9).newN (o := .lst [.ref x7, .ref x8, .ref x9]) hp5
      refine rd_cat (f2325.at gp np23) upd_same (by show 9 ≤ sizeLine; decide) fun p6 hp6 => ?_
      have S26 := (st_new (o := .lst [.ref x1, .ref x2, .ref x3, .ref x4, .ref x5, .ref x6, .ref x7, .ref x8, .ref x9]) S25 hp6).1
      have f2326 := f2325.newN (o := .lst [.ref x1, .ref x2, .ref x3, .ref x4, .ref x5, .ref x6, .ref x7, .ref x8, .ref x9]) hp6
      have f126 := f123.tr f2326
      replace g1 := f2326.tp g1
      replace g2 := f2326.tp g2
      replace g3 := f2326.tp g3
      replace g4 := f2326.tp g4
      replace g5 := f2326.tp g5
      replace g6 := f2326.tp g6
      have g7 := upd_keep (u := .lst [.ref x1, .ref x2, .ref x3, .ref x4, .ref x5, .ref x6, .ref x7, .ref x8, .ref x9]) (upd_keep (u := .lst [.ref x7, .ref x8, .ref x9]) (upd_keep (u := .tup [.str "until", .int 25]) (upd_keep (u := .tup [.str "unlike"]) (upd_same (H := H24) (a := x7) (o := .tup [.str "until", .int n2])) hx8) hx9) hp5) hp6
      have g8 := upd_keep (u := .lst [.ref x1, .ref x2, .ref x3, .ref x4, .ref x5, .ref x6, .ref x7, .ref x8, .ref x9]) (upd_keep (u := .lst [.ref x7, .ref x8, .ref x9]) (upd_keep (u := .tup [.str "until", .int 25]) (upd_same (H := upd H24 x7 (.tup [.str "until", .int n2])) (a := x8) (o := .tup [.str "unlike"])) hx9) hp5) hp6
      have g9 := upd_keep (u := .lst [.ref x1, .ref x2, .ref x3, .ref x4, .ref x5, .ref x6, .ref x7, .ref x8, .ref x9]) (upd_keep (u := .lst [.ref x7, .ref x8, .ref x9]) (upd_same (H := upd (upd H24 x7 (.tup [.str "until", .int n2])) x8 (.tup [.str "unlike"])) (a := x9) (o := .tup [.str "until", .int 25])) hp5) hp6
      have gq : upd (upd (upd (upd (upd H24 x7 (.tup [.str "until", .int n2])) x8 (.tup [.str "unlike"])) x9 (.tup [.str "until", .int 25])) p5 (.lst [.ref x7, .ref x8, .ref x9])) p6 (.lst [.ref x1, .ref x2, .ref x3, .ref x4, .ref x5, .ref x6, .ref x7, .ref x8, .ref x9]) p6 = some (.lst [.ref x1, .ref x2, .ref x3, .ref x4, .ref x5, .ref x6, .ref x7, .ref x8, .ref x9]) := upd_same
      show tOp _ (tVar 3) (tC (.int 9)) _ (upd (upd (upd (upd (upd H24 x7 (.tup [.str "until", .int n2])) x8 (.tup [.str "unlike"])) x9 (.tup [.str "until", .int 25])) p5 (.lst [.ref x7, .ref x8, .ref x9])) p6 (.lst [.ref x1, .ref x2, .ref x3, .ref x4, .ref x5, .ref x6, .ref x7, .ref x8, .ref x9])) _
      clear f2326 f2325 f24 f123 S25 S24 S23 gp
      generalize upd (upd (upd (upd (upd H24 x7 (.tup [.str "until", .int n2])) x8 (.tup [.str "unlike"])) x9 (.tup [.str "until", .int 25])) p5 (.lst [.ref x7, .ref x8, .ref x9])) p6 (.lst [.ref x1, .ref x2, .ref x3, .ref x4, .ref x5, .ref x6, .ref x7, .ref x8, .ref x9]) = H26 at *
      walk_at "go"
      obtain ⟨v, hv, ev⟩ := at_in (xs := [V.ref x1, .ref x2, .ref x3, .ref x4, .ref x5, .ref x6, .ref x7, .ref x8, .ref x9]) (i := way % 9) (by omega) (by show way % 9 < 9; omega)
      refine rd_ixL (SqL.of gq) ev ?_
      obtain ⟨x, kd, rfl, gx, kok⟩ : ∃ (x : Addr) (kd : Kd), v = .ref x ∧ H26 x = some (.tup kd.vals) ∧ kd.ok := by
        simp only [List.mem_cons, List.not_mem_nil, or_false] at hv
        rcases hv with rfl | rfl | rfl | rfl | rfl | rfl | rfl | rfl | rfl
        · exact ⟨_, .add n1, rfl, g1, by show numOk n1; unfold numOk; omega⟩
        · exact ⟨_, .times (k7 - 1), rfl, g2, by show numOk (k7 - 1); unfold numOk; omega, by omega, by omega⟩
        · exact ⟨_, .keep k8 wheel, rfl, g3, by omega, by omega, by omega, by omega⟩
        · exact ⟨_, .drop many, rfl, g4, by omega, by omega⟩
        · exact ⟨_, .take many, rfl, g5, by omega, by omega⟩
        · exact ⟨_, .each (1 + k10), rfl, g6, by omega, by omega⟩
        · exact ⟨_, .until n2, rfl, g7, by show numOk n2; unfold numOk; omega⟩
        · exact ⟨_, .unlike, rfl, g8, trivial⟩
        · exact ⟨_, .until 25, rfl, g9, by show numOk 25; unfold numOk; omega⟩
      clear g1 g2 g3 g4 g5 g6 g7 g8 g9 ev hv
      have R26 := R.fr f126 (by simpa using nra)
      have r26 := R26.1
      have fw : Fr [a, r] H H26 := f126.mono (by simp)
      walk_at "go"
      refine rd_ixT (SqT.of gx) kd.at0 ?_
      walk_at "go"
      refine rd_dec (fun c => ?_) (fun c => ?_)
      · -- each
        obtain ⟨j, rfl⟩ : ∃ j, kd = .each j := by
          cases kd with
          | each j => exact ⟨j, rfl⟩
          | _ => simp only [Kd.name] at c; exact absurd c (by decide +kernel)
        have ht1 := R.2.1
        have ht2 := R.2.2
        walk_at "go"
        refine rd_dec (fun c2 => ?_) (fun c2 => ?_)
        · walk_at "go"
          refine ⟨by show 2 ≤ sizeLine; decide, fun y hy => ?_⟩
          have gy : upd H26 y (.tup [.str "each", .int j]) y = some (.tup [.str "each", .int j]) := upd_same
          have ry := upd_keep (u := .tup [.str "each", .int j]) r26 hy
          walk_at "go"
          have nry : y ≠ r := (ne_of_none r26 hy).symm
          have bt : 1 ≤ t * j ∧ t * j ≤ 60 := by
            have hj : 1 ≤ j := kok.1
            have h1 : 1 ≤ t := R.2.1
            have := Int.mul_le_mul h1 hj (by omega) (by omega)
            omega
          refine k y (.one (.each j)) (t * j) _ (upd_other nry gy) kok (fun _ => trivial) m0 s0 ⟨?_, bt.1, bt.2⟩ ?_ ?_
          · rw [upd_same]; simp [Sg.nm, Sg.ns]
          · exact ((st_new S26 hy).1).fr (Fr.put (S := [r]) List.mem_cons_self (nt ry)) (by simpa using nra.symm)
          · exact (fw.newN hy).putN (.inl (by simp)) (nt ry)
        · walk_at "go"
          refine ⟨by show 2 ≤ sizeLine; decide, fun y hy => ?_⟩
          have gy : upd H26 y (.tup [.str "each", .int 1]) y = some (.tup [.str "each", .int 1]) := upd_same
          have ry := upd_keep (u := .tup [.str "each", .int 1]) r26 hy
          walk_at "go"
          have nry : y ≠ r := (ne_of_none r26 hy).symm
          refine k y (.one (.each 1)) (t * 1) _ (upd_other nry gy) ⟨by omega, by omega⟩ (fun _ => trivial) m0 s0 ⟨?_, by have := R.2; omega, by have := R.2; omega⟩ ?_ ?_
          · rw [upd_same]; simp [Sg.nm, Sg.ns]
          · exact ((st_new S26 hy).1).fr (Fr.put (S := [r]) List.mem_cons_self (nt ry)) (by simpa using nra.symm)
          · exact (fw.newN hy).putN (.inl (by simp)) (nt ry)
      · walk_at "go"
        refine k x (.one kd) t _ gx kok (fun _ => trivial) m0 s0 ⟨?_, R.2⟩ S26 fw
        rw [r26]; simp [Sg.nm, Sg.ns]
end
end Dc

set_option Elab.async false
set_option linter.all false
set_option maxRecDepth 100000
set_option maxHeartbeats 2000000
namespace Dc
open PySem PySem.Spec PyProof.Rows L2
local macro_rules | `(tactic| walk_at "ne") => `(tactic| first | assumption | (refine Ne.symm ?_; assumption) | exact ne_of (by assumption) (by assumption) (by intro q; cases q) | exact ne_of_none (by assumption) (by assumption) | exact Ne.symm (ne_of_none (by assumption) (by assumption)))
local macro_rules | `(tactic| walk_at "hp") => `(tactic| first | assumption | exact upd_same | (refine upd_keep ?_ (by assumption); walk_at "hp") | (refine upd_other ?_ ?_; · walk_at "ne"; · walk_at "hp"))
local macro_rules | `(tactic| walk_at "hl") => `(tactic| first | assumption | exact SqL.of (by walk_at "hp"))
local macro_rules | `(tactic| walk_at "ht") => `(tactic| first | assumption | exact SqT.of (by walk_at "hp"))
local macro_rules | `(tactic| walk_at "rd1") => `(tactic| first
  | ((with_reducible apply rd_var); exact rfl)
  | ((with_reducible apply rd_eq); exact rfl) | ((with_reducible apply rd_ne); exact rfl)
  | with_reducible first
  | refine iteT ?_ | refine iteF ?_ | refine rd_nF ?_ | refine rd_nT ?_ | refine rd_yes ?_ | refine rd_c ?_ | refine rd_op ?_ | refine rd_un ?_ | refine rd_test ?_ | refine rd_B ?_ | refine rd_bl ?_ | refine rd_seq ?_ | refine rd_next ?_ | refine rd_ifs ?_ | refine rd_asg ?_ | refine rd_name ?_ | refine rd_ret ?_ | refine rd_drop ?_
  | refine rd_call ?_ | refine rd_cons ?_ | refine rd_nil ?_ | refine rd_cb ?_ | refine rd_I0 ?_ | refine rd_U ?_ | refine rd_gsub ?_ | refine rd_lst ?_ | refine rd_tup ?_ | refine rd_if ?_ | refine rd_not ?_ | refine rd_rng1 ?_ | refine rd_itup ?_ | refine rd_ilst ?_ | refine rd_bm ?_ | refine rd_bm0 ?_ | refine rd_andV ?_ | refine rd_orV ?_ | refine rd_notV ?_)
local macro_rules | `(tactic| walk_at "rd") => `(tactic| repeat walk_at "rd1")
local macro_rules | `(tactic| walk_at "ci") => `(tactic| first | assumption | (show (0 : Int) < _; first | decide | omega) | exact ⟨by decide, by decide⟩ | exact Or.inr ⟨by decide, by decide⟩ | exact Or.inl ⟨by decide, by decide⟩ | exact ⟨by decide, by decide, by decide⟩ | exact Or.inl ⟨by omega, by omega⟩ | exact Or.inr ⟨by omega, by omega⟩)
local macro_rules | `(tactic| walk_at "ix") => `(tactic| first
  | ((with_reducible apply rd_ixL); (walk_at "hl"); exact rfl)
  | ((with_reducible apply rd_ixT); (walk_at "ht"); exact rfl)
  | ((with_reducible apply rd_lenL); (walk_at "hl"))
  | ((with_reducible apply rd_lenT); (walk_at "ht"))
  | ((with_reducible apply rd_tupOf); (walk_at "hl"))
  | ((with_reducible apply rd_listOf); (walk_at "hl"))
  | (with_reducible refine rd_min2 ?_)
  | ((with_reducible apply rd_I); (walk_at "ci"))
  | ((with_reducible apply rd_setL); (walk_at "hp"); exact rfl))
local macro_rules | `(tactic| walk_at "gs") => `(tactic| repeat first | walk_at "rd1" | walk_at "ix")
local macro_rules | `(tactic| walk_at "go") => `(tactic| repeat first | walk_at "rd1" | walk_at "ix" | with_reducible refine rd_and ?_ | with_reducible refine rd_or ?_)
local macro_rules | `(tactic| walk_at "fo") => `(tactic| (with_reducible refine rd_for ?_))
local macro_rules | `(tactic| walk_at "pm") => `(tactic| repeat first
  | with_reducible first | refine rd_pcons ?_ | refine rd_pstr ?_ | refine rd_pcap ?_ | refine rd_pwild ?_ | refine rd_pnil ?_ | refine rd_por ?_ | refine rd_pno ?_
  | ((with_reducible refine rd_eq rfl ?_); refine ⟨_, rfl, ?_⟩; first | refine rd_T rfl ?_ | refine rd_F (by decide) ?_)
  | dsimp only [List.nil_append, List.singleton_append, List.cons_append, setAll])
local macro_rules | `(tactic| walk_at "pc") => `(tactic| (refine rd_case ?_); (first | (refine rd_phit (SqT.of (by assumption)) rfl ?_) | (refine rd_pmiss (SqT.of (by assumption)) (by simp) ?_)); (walk_at "pm"))

def MksAt (H : Hp) (ms : List Addr) (l : List Mkr) : Prop := ms.length = l.length ∧ ∀ (i : Nat) (a : Addr), ms[i]? = some a → ∃ k, l[i]? = some k ∧ MkAt H a k
theorem MksAt.fr {S : List Addr} {H H' : Hp} {ms : List Addr} {l : List Mkr} (h : MksAt H ms l) (f : Fr S H H') : MksAt H' ms l :=
  ⟨h.1, fun i a e => let ⟨k, q, z⟩ := h.2 i a e; ⟨k, q, z.fr f⟩⟩
def Ch.mks : Ch → List Mkr
  | .mkr m => [m]
  | .st c _ => c.mks
  | .both c o => c.mks ++ o.mks
  | .thn c o => c.mks ++ o.mks
def Sg.mks : Sg → List Mkr
  | .one _ => []
  | .both o => o.mks
  | .thn o => o.mks
theorem Ch.snoc_mks (c : Ch) (g : Sg) : (c.snoc g).mks = c.mks ++ g.mks := by
  cases g with
  | one k => exact (List.append_nil _).symm
  | both o => rfl
  | thn o => rfl
theorem Ch.mks_len : ∀ c : Ch, c.mks.length = c.nm
  | .mkr _ => rfl
  | .st c _ => c.mks_len
  | .both c o => by show (c.mks ++ o.mks).length = c.nm + o.nm; rw [List.length_append, c.mks_len, o.mks_len]
  | .thn c o => by show (c.mks ++ o.mks).length = c.nm + o.nm; rw [List.length_append, c.mks_len, o.mks_len]
theorem MksAt.app {H : Hp} {ms ms' : List Addr} {l l' : List Mkr} (h : MksAt H ms l) (h' : MksAt H ms' l') : MksAt H (ms ++ ms') (l ++ l') := by
  refine ⟨by rw [List.length_append, List.length_append, h.1, h'.1], fun i a e => ?_⟩
  by_cases c : i < ms.length
  · rw [List.getElem?_append_left c] at e
    obtain ⟨k, e1, e2⟩ := h.2 i a e
    exact ⟨k, by rw [List.getElem?_append_left (h.1 ▸ c)]; exact e1, e2⟩
  · have c' : ms.length ≤ i := Nat.le_of_not_lt c
    rw [List.getElem?_append_right c'] at e
    obtain ⟨k, e1, e2⟩ := h'.2 _ a e
    exact ⟨k, by rw [List.getElem?_append_right (h.1 ▸ c'), ← h.1]; exact e1, e2⟩
def spMakers (n : Nat) : Sp := fun vs H Q _ => ∃ (p : Addr) (c : Ch), vs = [.ref p] ∧ ChAt H p c ∧ c.nm ≤ n ∧ ∀ H' q ms, H' q = some (.lst (ms.map V.ref)) → MksAt H' ms c.mks → H q = none → Fr [] H H' → Q (.ref q) H'
/-- stage[0] in ('both', 'then') -/
theorem sg_name {H : Hp} {x : Addr} {g : Sg} (ea : SgAt H x g) : ∃ vs nm, H x = some (.tup vs) ∧ atI vs 0 = some (.str nm) ∧ inV (.str nm) [.str "both", .str "then"] = g.nest := by
  cases g with
  | one kd => exact ⟨_, kd.name, ea, kd.at0, by cases kd <;> (simp only [Kd.name, Sg.nest]; decide +kernel)⟩
  | both o => obtain ⟨p, h, _⟩ := ea; exact ⟨_, "both", h, rfl, by show inV _ _ = true; decide +kernel⟩
  | thn o => obtain ⟨p, h, _⟩ := ea; exact ⟨_, "then", h, rfl, by show inV _ _ = true; decide +kernel⟩
section
variable {P : Program} {w : World} {K : PySem.W.Frag} {mg : Str → Option Value} {base : Heap} {f f2 : Addr} {fd fd2 : FuncData}
theorem sc__law_makers : FnScope ["_law_chain_here", "_law_found", "_law_stage_here"] ["_law_chain_here"] (defScope s__law_makers) := ⟨rfl, rfl, rfl, by decide +kernel, rfl, by decide +kernel, by decide +kernel⟩
theorem ok_law_makers {n : Nat} (hn1 : n ≤ 1000) (T : Txt K mg) (F : FnP K "_law_makers" "_law_makers" s__law_makers f fd) (G__law_makers : Cal P w K mg base CX0 (n + 1) "_law_makers" ["_law_chain_here"] (spMakers n)) :
    FnOk P w K mg base CX0 (n + 2) f fd ["_law_chain_here"] (spMakers (n + 1)) := by
  refine ok0 F sc__law_makers (fun vs H Q E h => ?_) (fun cdv A outer s H vs Q E hr h => ?_)
  · obtain ⟨p, c, rfl, _⟩ := h
    rfl
  · obtain ⟨p, c, rfl, ⟨mk, ss, bs, ep, ess, hst⟩, hn, k⟩ := h
    have hg := hst.get
    refine ⟨_, (pss_cons (ps_set (i := 1) sc__law_makers.nd rfl (Or.inl rfl) (pe_lst (pa_cons (pe_ix (ix_tupK K) (pv 0) pe_int (fun _ _ => rfl)) pa_nil)))
  (pss_cons (ps_for PassesOwn.never rfl (pi_tup (pe_ix (ix_tupK K) (pv 0) pe_int (fun _ _ => rfl))) (pg_name (i := 2) sc__law_makers.nd rfl (Or.inl rfl))
    (pss_one (ps_if (pt_cmpR (op_in_seqK K) (pe_ix (ix_tupK K) (pv 2) pe_int (fun _ _ => rfl)) (pe_tup (pa_cons pe_str (pa_cons pe_str pa_nil))) (by rfl))
      (pss_one (ps_set (i := 1) sc__law_makers.nd rfl (Or.inl rfl) (pe_op op_cat (pv 1) (pe_cal G__law_makers (hr.mono (by omega)) pass0 (pa_cons (pe_ix (ix_tupK K) (pv 2) pe_int (fun _ _ => rfl)) pa_nil))))) pss_nil)))
  (pss_one (ps_ret (pv 1))))), ?_⟩
    try dsimp only [cxOf, Cx.nox, Cx.wish]
    refine rd_at (σ' := [some (.ref p), none, none]) rfl ?_
    walk_at "go"
    refine ⟨by show 1 ≤ sizeLine; decide, fun q0 hq0 => ?_⟩
    have f0 : Fr [] H (upd H q0 (.lst [.ref mk])) := Fr.new hq0
    walk_at "go"
    walk_at "fo"
    walk_at "go"
    refine ⟨ss, rfl, ⟨_, SqT.of (f0.tp ess)⟩, for_tup (K := K) (a := ss) (xs := bs.map V.ref) (fun i σ H' => ∃ (ms : List Addr) (q : Addr) (v : Option V), σ = [some (.ref p), some (.ref q), v] ∧ H' q = some (.lst (ms.map V.ref)) ∧ MksAt H' ms (Ch.of c.root (c.sgs.take i)).mks ∧ H q = none ∧ Fr [] H H')
      ⟨[mk], q0, none, rfl, upd_same, ⟨rfl, fun i a e => ?_⟩, hq0, f0⟩ (fun i σ H' _ ⟨_, _, _, _, _, _, _, fr⟩ => SqT.of (fr.tp ess)) ?_ ?_⟩
    · cases i with
      | zero =>
        obtain rfl := (Option.some.inj e : mk = a)
        exact ⟨c.root, rfl, hst.root.fr f0⟩
      | succ i => cases e
    · rintro i y σ H' hi ⟨ms, q, v, rfl, eq, hm, hq, fi⟩
      obtain ⟨sx, hsx, rfl⟩ : ∃ sx, bs[i]? = some sx ∧ y = .ref sx := by
        rw [List.getElem?_map] at hi
        cases e : bs[i]? with
        | none => rw [e] at hi; cases hi
        | some z => rw [e] at hi; exact ⟨z, rfl, (Option.some.inj hi).symm⟩
      obtain ⟨g, hgi, gat⟩ := hg.2 i sx hsx
      have nn := Ch.of_take c.root hgi
      have hle := Ch.of_take_nm c (i + 1)
      rw [nn, Ch.snoc_nm] at hle
      have hp1 := (Ch.of c.root (c.sgs.take i)).nm_pos
      have gat' := gat.fr fi
      obtain ⟨vs, nm, ev, e0, hb⟩ := sg_name gat'
      walk_at "go"
      refine rd_ixT (SqT.of ev) e0 ?_
      walk_at "go"
      refine ⟨by show 2 ≤ sizeLine; decide, fun tp htp => ?_⟩
      refine ⟨tp, _, rfl, .inr (SqT.of upd_same), rfl, rfl, ?_⟩
      rw [if_neg (by decide), hb]
      have ft : Fr [] H' (upd H' tp (.tup [.str "both", .str "then"])) := Fr.new htp
      have fi2 := fi.tr ft
      replace eq := ft.at eq (by simp)
      replace hm := hm.fr ft
      replace gat' := gat'.fr ft
      clear ev e0 hb
      show ∃ k, _
      generalize upd H' tp (.tup [.str "both", .str "then"]) = H2 at *
      walk_at "go"
      refine rd_b (fun cg => ?_) (fun cg => ?_)
      · obtain ⟨o, pi, eqn, ho, gnm, gmk⟩ : ∃ (o : Ch) (pi : Addr), (∃ nm : Str, H2 sx = some (.tup [.str nm, .ref pi])) ∧ ChAt H2 pi o ∧ g.nm = o.nm ∧ g.mks = o.mks := by
          cases g with
          | one k => cases cg
          | both o => obtain ⟨pi, e1, e2⟩ := gat'; exact ⟨o, pi, ⟨_, e1⟩, e2, rfl, rfl⟩
          | thn o => obtain ⟨pi, e1, e2⟩ := gat'; exact ⟨o, pi, ⟨_, e1⟩, e2, rfl, rfl⟩
        obtain ⟨nm, eqn⟩ := eqn
        walk_at "go"
        refine ⟨pi, o, rfl, ho, by omega, fun H3 q3 ms3 e3 m3 hq3 f3 => ?_⟩
        have eq3 := f3.at eq (by simp)
        walk_at "go"
        refine rd_cat eq3 e3 ?_ fun q4 hq4 => ?_
        · rw [List.length_map, List.length_map, hm.1, m3.1, Ch.mks_len, Ch.mks_len]
          exact Nat.le_trans (show _ ≤ 1001 by omega) (by decide)
        · walk_at "go"
          refine ⟨ms ++ ms3, q4, _, rfl, by rw [upd_same, List.map_append], ?_, (fi2.tr f3).free (by simp) hq4, (fi2.tr f3).newN hq4⟩
          rw [nn, Ch.snoc_mks, gmk]
          exact ((hm.fr f3).app m3).fr (Fr.new (S := []) hq4)
      · obtain ⟨gnm, gmk⟩ : g.nm = 0 ∧ g.mks = [] := by
          cases g with
          | one k => exact ⟨rfl, rfl⟩
          | both o => cases cg
          | thn o => cases cg
        walk_at "go"
        refine ⟨ms, q, _, rfl, eq, ?_, hq, fi2⟩
        rw [nn, Ch.snoc_mks, gmk, List.append_nil]
        exact hm
    · rintro σ H' ⟨ms, q, v, rfl, eq, hm, hq, fi⟩
      rw [List.length_map, hg.1, List.take_length, Ch.of_sgs] at hm
      walk_at "go"
      exact k H' q ms eq hm hq fi
theorem lawmakers {f : Addr} {fd : FuncData} (T : Txt K mg) (F : FnP K "_law_makers" "_law_makers" s__law_makers f fd) (g : mg "_law_makers" = some (.ref f)) : ∀ n, n ≤ 1001 → Cal P w K mg base CX0 (n + 1) "_law_makers" ["_law_chain_here"] (spMakers n)
  | 0, _ => by
    have void : ∀ {vs : List V} {H : Hp} {Q : VK} {E : XK}, spMakers 0 vs H Q E → False := by
      rintro vs H Q E ⟨p, c, _, _, h, _⟩
      have := c.nm_pos
      omega
    exact cal_of F g (ok0 F sc__law_makers (fun vs H Q E h => (void h).elim) fun cdv A outer s H vs Q E hr h => (void h).elim) fun _ _ _ _ _ _ us hl => match us, hl with | [_], _ => rfl
  | n + 1, h => cal_of F g (ok_law_makers (by omega) T F (lawmakers T F g n (by omega))) fun _ _ _ _ _ _ us hl => match us, hl with | [_], _ => rfl
end
end Dc

set_option Elab.async false
set_option linter.all false
set_option maxRecDepth 100000
set_option maxHeartbeats 2000000
namespace Dc
open PySem PySem.Spec PyProof.Rows L2
/-- what may be written: new things, lists, instances -/
def SOk (H : Hp) (S : List Addr) : Prop := ∀ x ∈ S, H x = none ∨ (∃ xs, H x = some (.lst xs)) ∨ ∃ C dx fs, H x = some (.ins C dx fs)
/-! ### what stands, in one bundle: the drawing at a, objects made since, what else is known -/
structure Bn (K : PySem.W.Frag) (ns : List Int) (a sc : Addr) (W : Hp → Prop) (H0 H : Hp) (l : List (Addr × HO)) : Prop where
  st : StAt K ns H a sc
  fr : Fr [a] H0 H
  w : W H
  cl : ∀ S H H', SOk H S → Fr S H H' → W H → W H'
  kp : ∀ q ∈ l, H q.1 = some q.2 ∧ q.1 ≠ a
section
variable {K : PySem.W.Frag} {ns : List Int} {a sc p : Addr} {W T : Hp → Prop} {H0 H H' : Hp} {l : List (Addr × HO)} {o : HO} {Q : VK} {E : XK} {xs ys : List V}
theorem Bn.start (S : StAt K ns H a sc) (w : W H) (cl : ∀ S H H', SOk H S → Fr S H H' → W H → W H') : Bn K ns a sc W H H [] := ⟨S, Fr.refl _ _, w, cl, fun q h => by cases h⟩
/-- what stood before does not matter -/
theorem Bn.start0 (S : StAt K ns H a sc) (w : W H) (cl : ∀ S H H', SOk H S → Fr S H H' → W H → W H') : Bn K ns a sc W (fun _ => none) H [] := ⟨S, fun b o h _ => (by cases h), w, cl, fun q h => (by cases h)⟩
theorem StAt.lsts {K : PySem.W.Frag} {ns : List Int} {H : Hp} {a sc : Addr} (S : StAt K ns H a sc) : SOk H [a] := fun x hx => by
  obtain ⟨⟨_, _, _, q, _⟩, _⟩ := S
  rw [List.mem_singleton.mp hx]
  exact .inr (.inl ⟨_, q⟩)
theorem Bn.fr1 (B : Bn K ns a sc W H0 H l) (f : Fr [a] H H') (S : StAt K ns H' a sc) : Bn K ns a sc W H0 H' l :=
  ⟨S, B.fr.tr f, B.cl _ _ _ B.st.lsts f B.w, B.cl, fun q hq => ⟨f.at (B.kp q hq).1 (by simpa using (B.kp q hq).2), (B.kp q hq).2⟩⟩
theorem Bn.fr0 (B : Bn K ns a sc W H0 H l) (f : Fr [] H H') : Bn K ns a sc W H0 H' l := B.fr1 (f.mono fun b hb => by cases hb) (B.st.fr f (by simp))
theorem Bn.nea (B : Bn K ns a sc W H0 H l) (h : H p = none) : p ≠ a := fun z => by
  obtain ⟨⟨_, _, _, q, _⟩, _⟩ := B.st
  rw [z, q] at h
  cases h
theorem Bn.nea2 (B : Bn K ns a sc W H0 H l) (h : H p = some (.tup xs)) : p ≠ a := fun z => by
  obtain ⟨⟨_, _, _, q, _⟩, _⟩ := B.st
  rw [z, q] at h
  cases h
theorem Bn.push (B : Bn K ns a sc W H0 H l) (h : H p = some o) (n : p ≠ a) : Bn K ns a sc W H0 H ((p, o) :: l) :=
  ⟨B.st, B.fr, B.w, B.cl, fun q hq => by
    rcases List.mem_cons.mp hq with rfl | hq
    · exact ⟨h, n⟩
    · exact B.kp q hq⟩
theorem Bn.new (B : Bn K ns a sc W H0 H l) (h : H p = none) : Bn K ns a sc W H0 (upd H p o) ((p, o) :: l) := (B.fr0 (Fr.new h)).push upd_same (B.nea h)
theorem Bn.get (B : Bn K ns a sc W H0 H l) (i : Nat) (e : l[i]? = some (p, o) := by rfl) : H p = some o := (B.kp (p, o) (List.mem_of_getElem? e)).1
theorem Bn.sub {l' : List (Addr × HO)} (B : Bn K ns a sc W H0 H l) (h : ∀ q, q ∈ l' → q ∈ l) : Bn K ns a sc W H0 H l' := ⟨B.st, B.fr, B.w, B.cl, fun q hq => B.kp q (h q hq)⟩
theorem Bn.nil (B : Bn K ns a sc W H0 H l) : Bn K ns a sc W H0 H [] := B.sub fun q h => by cases h
/-- one thing more is known -/
theorem Bn.add (B : Bn K ns a sc W H0 H l) (t : T H) (ct : ∀ S H H', Fr S H H' → T H → T H') : Bn K ns a sc (fun H => W H ∧ T H) H0 H l :=
  ⟨B.st, B.fr, ⟨B.w, t⟩, fun S H H' hS f h => ⟨B.cl S H H' hS f h.1, ct S H H' f h.2⟩, B.kp⟩
theorem Bn.imp (B : Bn K ns a sc W H0 H l) (h : ∀ H, W H → T H) (ct : ∀ S H H', SOk H S → Fr S H H' → T H → T H') : Bn K ns a sc T H0 H l := ⟨B.st, B.fr, h _ B.w, ct, B.kp⟩
theorem Bn.left {W' : Hp → Prop} (B : Bn K ns a sc (fun H => W H ∧ W' H) H0 H l) (ct : ∀ S H H', SOk H S → Fr S H H' → W H → W H') : Bn K ns a sc W H0 H l := B.imp (fun _ h => h.1) ct
/-- a list is written anew -/
theorem Bn.put (B : Bn K ns a sc W H0 H l) (hl : H p = some (.lst xs)) (h0 : H0 p = none) (hne : ∀ q ∈ l, q.1 ≠ p) (hpa : p ≠ a) : Bn K ns a sc W H0 (upd H p (.lst ys)) l := by
  have f : Fr [p] H (upd H p (.lst ys)) := Fr.put (by simp) (nt hl)
  exact ⟨B.st.fr f (by simpa using hpa.symm), B.fr.trans f (fun b hb => by rw [List.mem_singleton] at hb; rw [hb]; exact .inr h0), B.cl _ _ _ (fun x hx => by rw [List.mem_singleton.mp hx]; exact .inr (.inl ⟨_, hl⟩)) f B.w, B.cl, fun q hq => ⟨f.at (B.kp q hq).1 (by simpa using hne q hq), (B.kp q hq).2⟩⟩
/-- what lies elsewhere is written -/
theorem Bn.frS {S : List Addr} (B : Bn K ns a sc W (fun _ => none) H l) (f : Fr S H H') (hS : SOk H S) (ha : a ∉ S) (hl : ∀ q ∈ l, q.1 ∉ S) : Bn K ns a sc W (fun _ => none) H' l :=
  ⟨B.st.fr f ha, fun b o h _ => (by cases h), B.cl _ _ _ hS f B.w, B.cl, fun q hq => ⟨f.at (B.kp q hq).1 (hl q hq), (B.kp q hq).2⟩⟩
theorem Bn.ne (B : Bn K ns a sc W H0 H l) (h : H p = none) : ∀ q ∈ l, q.1 ≠ p := fun q hq z => by
  have := (B.kp q hq).1
  rw [z, h] at this
  cases this
theorem szB (h : Nat.ble xs.length 100 = true) : xs.length ≤ sizeLine := Nat.le_trans (Nat.le_of_ble_eq_true h) (by decide)
/-- a tuple, a list is made -/
def kMkT (xs : List V) (H : Hp) (Q : VK) : Prop := xs.length ≤ sizeLine ∧ ∀ p, H p = none → Q (.ref p) (upd H p (.tup xs))
def kMkL (xs : List V) (H : Hp) (Q : VK) : Prop := xs.length ≤ sizeLine ∧ ∀ p, H p = none → Q (.ref p) (upd H p (.lst xs))
theorem rd_tupB {σ : L2.St} {tl : TA} (h : tl σ H fun xs H1 => kMkT xs H1 Q) : tTup tl σ H Q := h
theorem rd_lstB {σ : L2.St} {tl : TA} (h : tl σ H fun xs H1 => kMkL xs H1 Q) : tLst tl σ H Q := h
theorem rd_sl {σ : L2.St} {r : V → Option Int → Option Int → Hp → VK → Prop} {te : TE} {tl th : TO} (h : te σ H fun x H1 => tl σ H1 fun l H2 => th σ H2 fun u H3 => r x l u H3 Q) : tSl r te tl th σ H Q := h
theorem rd_np {σ : L2.St} {Q : Option Int → Hp → Prop} (h : Q none H) : tNoPart σ H Q := h
theorem rd_part {σ : L2.St} {te : TE} {Q : Option Int → Hp → Prop} (h : te σ H fun x H1 => ∃ i, x = .int i ∧ Q (some i) H1) : tPart te σ H Q := h
def LcK (g : TG) (tt : TT) (te : TE) (vs : List Nat) (σ : L2.St) (J : It) (H1 : Hp) (Q : VK) : Prop := ∀ D, H1 D = none → ∃ W : Nat → Nat → Hp → Prop, (∃ m, W 0 m (upd H1 D (.lst []))) ∧ ∀ i m H, W i m H →
  (J.stop i H ∧ Q (.ref D) H) ∨ (J.go i H ∧ ∃ Nx : Hp → Prop, (∀ H', Nx H' → ∃ m', m' < m ∧ W (i + 1) m' H') ∧ ∀ x H', J.yld i H x H' → g x (wipe σ vs) H' fun σ2 H2 => wipe σ2 vs = wipe σ vs ∧ tt σ2 H2 fun b H3 =>
    if b = true then te σ2 H3 fun y H4 => ∃ acc, H4 D = some (.lst acc) ∧ acc.length < sizeLine ∧ Nx (upd H4 D (.lst (acc ++ [y]))) else Nx H3)
theorem rd_lc {wi : TI} {g : TG} {tt : TT} {te : TE} {vs : List Nat} {σ : L2.St} (h : wi σ H fun J H1 => LcK g tt te vs σ J H1 Q) : tLc wi g tt te vs σ H Q := h
theorem rd_in {i : Int} {Q : Int → Prop} (h : Q i) : ∃ k, V.int i = .int k ∧ Q k := ⟨i, rfl, h⟩
theorem Bn.mkT (B : Bn K ns a sc W H0 H l) (q : ∀ p H', Bn K ns a sc W H0 H' ((p, .tup xs) :: l) → Q (.ref p) H') (hs : Nat.ble xs.length 100 = true := by rfl) : kMkT xs H Q :=
  ⟨szB hs, fun p np => q p _ (B.new np)⟩
theorem Bn.mkL (B : Bn K ns a sc W H0 H l) (q : ∀ p H', Bn K ns a sc W H0 H' ((p, .lst xs) :: l) → Q (.ref p) H') (hs : Nat.ble xs.length 100 = true := by rfl) : kMkL xs H Q :=
  ⟨szB hs, fun p np => q p _ (B.new np)⟩
theorem Bn.mkLn (B : Bn K ns a sc W H0 H l) (q : ∀ p H', (∀ x ∈ l, x.1 ≠ p) → p ≠ a → Bn K ns a sc W H0 H' ((p, .lst xs) :: l) → Q (.ref p) H') (hs : Nat.ble xs.length 100 = true := by rfl) : kMkL xs H Q :=
  ⟨szB hs, fun p np => q p _ (B.ne np) (B.nea np) (B.new np)⟩
theorem rd_izip {σ : L2.St} {ta : TA} {R : It → Hp → Prop} (h : ta σ H fun vs H1 => ∃ a b xs ys, vs = [.ref a, .ref b] ∧ SqL K H1 a xs ∧ SqL K H1 b ys ∧ R (Itz K a b) H1) : iZip K ta σ H R := h
theorem rd_parB {σ : L2.St} {i j : Nat} {tl : TA} {D : Ends} (h : tl σ H fun vs H1 => ∃ x y, vs = [x, y] ∧ D.nx ((σ.set i (some x)).set j (some y)) H1) : tPar i j tl D σ H := h
theorem Bn.catL {x y : Addr} (B : Bn K ns a sc W H0 H l) (h1 : H x = some (.lst xs)) (h2 : H y = some (.lst ys)) (hl : xs.length + ys.length ≤ 1000) (q : ∀ p H', Bn K ns a sc W H0 H' ((p, .lst (xs ++ ys)) :: l) → (∀ z ∈ l, z.1 ≠ p) → p ≠ a → Q (.ref p) H') : rCat (.ref x) (.ref y) H Q :=
  ⟨x, y, xs, ys, rfl, rfl, h1, h2, Nat.le_trans hl (by decide), fun p np => q p _ (B.new np) (B.ne np) (B.nea np)⟩
theorem Bn.mk2 (B : Bn K ns a sc W H0 H l) (np : H p = none) (e : upd H p o = H') : Bn K ns a sc W H0 H' ((p, o) :: l) := e ▸ B.new np
/-- a number is drawn -/
theorem Bn.dr (B : Bn K ns a sc W H0 H l) {many : Int} (h1 : 0 < many) (h2 : many.natAbs < 2 ^ 200) (q : ∀ r H', 0 ≤ r → r < many → Bn K ns a sc W H0 H' l → Q (.int r) H') : spDrawn K ns [.ref a, .int many] H Q E :=
  ⟨a, sc, many, rfl, B.st, h1, h2, fun r H' r0 r1 S f => q r H' r0 r1 (B.fr1 f S)⟩
/-- a list's item by a number -/
theorem Bn.ixL (B : Bn K ns a sc W H0 H l) (i : Nat) {r m : Int} (r0 : 0 ≤ r) (r1 : r < m) (q : ∀ v, v ∈ xs → Q v H) (e : l[i]? = some (p, .lst xs) := by rfl) (hm : m = (xs.length : Int) := by rfl) : rIxL K (.ref p) (.int r) H Q := by
  obtain ⟨v, hv, ev⟩ := at_in (xs := xs) r0 (by omega)
  exact ⟨p, xs, r, v, rfl, rfl, SqL.of (B.get i e), ev, q v hv⟩
/-- a tuple and a tuple -/
theorem Bn.cat {x y : Addr} (B : Bn K ns a sc W H0 H l) (h1 : H x = some (.tup xs)) (h2 : H y = some (.tup ys)) (n1 : xs ≠ []) (hl : xs.length + ys.length ≤ 1000) (q : ∀ p H', Fr [] H H' → Bn K ns a sc W H0 H' ((p, .tup (xs ++ ys)) :: l) → Q (.ref p) H') : rCatT K (.ref x) (.ref y) H Q :=
  ⟨x, y, xs, ys, rfl, rfl, SqT.of h1, SqT.of h2, n1, Nat.le_trans hl (by decide), fun e => q _ _ (Fr.refl _ _) (B.push (by rw [e, List.append_nil]; exact h1) (B.nea2 h1)), fun _ p np => q _ _ (Fr.new np) (B.new np)⟩
end
/-! stages, one behind the other -/
def SgsAt (H : Hp) : List Addr → List Sg → Prop
  | [], [] => True
  | x :: as, g :: gs => SgAt H x g ∧ SgsAt H as gs
  | _, _ => False
theorem SgsAt.fr {S : List Addr} {H H' : Hp} (f : Fr S H H') : ∀ {as : List Addr} {gs : List Sg}, SgsAt H as gs → SgsAt H' as gs
  | [], [], _ => trivial
  | x :: as, g :: gs, h => ⟨h.1.fr f, SgsAt.fr f h.2⟩
  | [], _ :: _, h => h.elim
  | _ :: _, [], h => h.elim
theorem SgsAt.len {H : Hp} : ∀ {as : List Addr} {gs : List Sg}, SgsAt H as gs → as.length = gs.length
  | [], [], _ => rfl
  | x :: as, g :: gs, h => congrArg (· + 1) (SgsAt.len h.2)
  | [], _ :: _, h => h.elim
  | _ :: _, [], h => h.elim
theorem SgsAt.app {H : Hp} : ∀ {as bs : List Addr} {gs hs : List Sg}, SgsAt H as gs → SgsAt H bs hs → SgsAt H (as ++ bs) (gs ++ hs)
  | [], _, [], _, _, h => h
  | _ :: _, _, _ :: _, _, h, h' => ⟨h.1, SgsAt.app h.2 h'⟩
  | [], _, _ :: _, _, h, _ => h.elim
  | _ :: _, _, [], _, h, _ => h.elim
theorem sts_fold {H : Hp} {a : Addr} : ∀ {as : List Addr} {gs : List Sg} {c : Ch} {as0 : List Addr}, SgsAt H as gs → StsAt H c a as0 → StsAt H (gs.foldl Ch.snoc c) a (as0 ++ as)
  | [], [], c, as0, _, h => by rw [List.append_nil]; exact h
  | x :: as, g :: gs, c, as0, q, h => by
    have := sts_fold q.2 (h.snoc q.1)
    rw [List.append_assoc] at this
    exact this
  | [], _ :: _, _, _, h, _ => h.elim
  | _ :: _, [], _, _, h, _ => h.elim
theorem fold_ok : ∀ {gs : List Sg} {c : Ch}, c.ok → (∀ g ∈ gs, g.ok) → (gs.foldl Ch.snoc c).ok
  | [], _, h, _ => h
  | g :: gs, c, h, q => fold_ok (gs := gs) (Ch.snoc_ok h (q g (by simp))) fun g' h' => q g' (by simp [h'])
theorem fold_rows : ∀ {gs : List Sg} {c : Ch}, c.rows → (∀ g ∈ gs, g.rows) → (gs.foldl Ch.snoc c).rows
  | [], _, h, _ => h
  | g :: gs, c, h, q => fold_rows (gs := gs) (Ch.snoc_rows h (q g (by simp))) fun g' h' => q g' (by simp [h'])
def nmS (gs : List Sg) : Nat := (gs.map Sg.nm).sum
def nsS (gs : List Sg) : Nat := (gs.map fun g => g.ns + 1).sum
theorem nmS_app (gs hs : List Sg) : nmS (gs ++ hs) = nmS gs + nmS hs := by unfold nmS; rw [List.map_append, List.sum_append]
theorem nsS_app (gs hs : List Sg) : nsS (gs ++ hs) = nsS gs + nsS hs := by unfold nsS; rw [List.map_append, List.sum_append]
theorem fold_nm : ∀ (gs : List Sg) (c : Ch), (gs.foldl Ch.snoc c).nm = c.nm + nmS gs
  | [], _ => rfl
  | g :: gs, c => by rw [List.foldl_cons, fold_nm gs, Ch.snoc_nm]; unfold nmS; rw [List.map_cons, List.sum_cons, Nat.add_assoc]
theorem fold_ns : ∀ (gs : List Sg) (c : Ch), (gs.foldl Ch.snoc c).ns = c.ns + nsS gs
  | [], _ => rfl
  | g :: gs, c => by rw [List.foldl_cons, fold_ns gs, Ch.snoc_ns]; unfold nsS; rw [List.map_cons, List.sum_cons]; omega
/-- stages that stand, all well, of rows -/
structure Sgs' (H : Hp) (as : List Addr) (gs : List Sg) (n m : Nat) : Prop where
  at_ : SgsAt H as gs
  ok : ∀ g ∈ gs, g.ok
  rows : ∀ g ∈ gs, g.rows
  nm : nmS gs ≤ n
  ns : nsS gs ≤ m
  len : gs.length ≤ m
theorem Sgs'.fr {S : List Addr} {H H' : Hp} {as : List Addr} {gs : List Sg} {n m : Nat} (h : Sgs' H as gs n m) (f : Fr S H H') : Sgs' H' as gs n m := ⟨h.at_.fr f, h.ok, h.rows, h.nm, h.ns, h.len⟩
theorem Sgs'.app {H : Hp} {as bs : List Addr} {gs hs : List Sg} {n m n' m' : Nat} (h : Sgs' H as gs n m) (h' : Sgs' H bs hs n' m') : Sgs' H (as ++ bs) (gs ++ hs) (n + n') (m + m') :=
  ⟨h.at_.app h'.at_, fun g hg => (List.mem_append.mp hg).elim (h.ok g) (h'.ok g), fun g hg => (List.mem_append.mp hg).elim (h.rows g) (h'.rows g), by rw [nmS_app]; have := h.nm; have := h'.nm; omega, by rw [nsS_app]; have := h.ns; have := h'.ns; omega, by rw [List.length_append]; have := h.len; have := h'.len; omega⟩
theorem Sgs'.one {H : Hp} {x : Addr} {g : Sg} (h : SgAt H x g) (ok : g.ok) (rw_ : g.rows) : Sgs' H [x] [g] g.nm (g.ns + 1) :=
  ⟨⟨h, trivial⟩, fun g' hg => by rw [List.mem_singleton.mp hg]; exact ok, fun g' hg => by rw [List.mem_singleton.mp hg]; exact rw_, Nat.le_refl _, Nat.le_refl _, by show 1 ≤ _; omega⟩
theorem Sgs'.none {H : Hp} : Sgs' H [] [] 0 0 := ⟨trivial, fun g h => (by cases h), fun g h => (by cases h), Nat.le_refl _, Nat.le_refl _, Nat.le_refl _⟩
theorem Sgs'.mono {H : Hp} {as : List Addr} {gs : List Sg} {n m n' m' : Nat} (h : Sgs' H as gs n m) (h1 : n ≤ n') (h2 : m ≤ m') : Sgs' H as gs n' m' := ⟨h.at_, h.ok, h.rows, Nat.le_trans h.nm h1, Nat.le_trans h.ns h2, Nat.le_trans h.len h2⟩
/-- at v stands a tuple of such stages -/
def WayR (H : Hp) (n m : Nat) (v : V) : Prop := ∃ (wy : Addr) (as : List Addr) (gs : List Sg), v = .ref wy ∧ H wy = some (.tup (as.map V.ref)) ∧ Sgs' H as gs n m
theorem ch_of {H : Hp} {p m ss : Addr} {as : List Addr} {gs : List Sg} {mk : Mkr} {n k : Nat} (h1 : H p = some (.tup [.ref m, .ref ss])) (h2 : H ss = some (.tup (as.map V.ref))) (hm : MkAt H m mk) (h : Sgs' H as gs n k) (okm : mk.ok) (rwm : mk.isRow) :
    ∃ c : Ch, ChAt H p c ∧ c.ok ∧ c.rows ∧ c.nm ≤ n + 1 ∧ c.ns ≤ k := by
  refine ⟨gs.foldl Ch.snoc (.mkr mk), ⟨m, ss, as, h1, h2, ?_⟩, fold_ok okm h.ok, fold_rows rwm h.rows, ?_, ?_⟩
  · have := sts_fold h.at_ (show StsAt H (.mkr mk) m [] from ⟨rfl, hm⟩)
    exact this
  · rw [fold_nm]; have := h.nm; show 1 + _ ≤ _; omega
  · rw [fold_ns]; have := h.ns; show 0 + _ ≤ _; omega
/-- stages stand at s -/
def StgR (H : Hp) (n m : Nat) (s : Addr) : Prop := ∃ (as : List Addr) (gs : List Sg), H s = some (.tup (as.map V.ref)) ∧ Sgs' H as gs n m
def StgN (H : Hp) (n m : Nat) (s : Addr) : Prop := ∃ (as : List Addr) (gs : List Sg), as ≠ [] ∧ H s = some (.tup (as.map V.ref)) ∧ Sgs' H as gs n m
theorem StgR.fr {S : List Addr} {H H' : Hp} {n m : Nat} {s : Addr} (f : Fr S H H') (h : StgR H n m s) : StgR H' n m s := let ⟨as, gs, h1, h2⟩ := h; ⟨as, gs, f.tp h1, h2.fr f⟩
theorem StgN.fr {S : List Addr} {H H' : Hp} {n m : Nat} {s : Addr} (f : Fr S H H') (h : StgN H n m s) : StgN H' n m s := let ⟨as, gs, h0, h1, h2⟩ := h; ⟨as, gs, h0, f.tp h1, h2.fr f⟩
theorem Bn.stages {K : PySem.W.Frag} {ns : List Int} {a sc x y : Addr} {W : Hp → Prop} {H0 H : Hp} {l : List (Addr × HO)} {Q : VK} {n m n' m' : Nat} (B : Bn K ns a sc W H0 H l) (h1 : StgN H n m x) (h2 : StgR H n' m' y) (hm : m + m' ≤ 100)
    (q : ∀ p H', Fr [] H H' → Bn K ns a sc W H0 H' l → StgN H' (n + n') (m + m') p → Q (.ref p) H') : rCatT K (.ref x) (.ref y) H Q := by
  obtain ⟨as, gs, hn, h1, g1⟩ := h1
  obtain ⟨bs, hs, h2, g2⟩ := h2
  have l1 := g1.at_.len
  have l2 := g2.at_.len
  have := g1.len
  have := g2.len
  refine B.cat h1 h2 (by simpa using hn) (by rw [List.length_map, List.length_map]; omega) fun p H' g B' => q p H' g (B'.sub fun q hq => List.mem_cons_of_mem _ hq) ⟨as ++ bs, gs ++ hs, by simp [hn], ?_, (g1.fr g).app (g2.fr g)⟩
  rw [List.map_append]
  exact B'.get 0
/-- a tuple's slice; the whole is itself -/
theorem sl_tupAK {X : Cx} (K : PySem.W.Frag) (e : X.K = K := by rfl) : SlR X (rSlA K) := e ▸ sl_tupA
theorem cutV_whole {xs : List V} {lo hi : Option Int} (h : HT.sIx xs.length 0 lo = 0 ∧ HT.sIx xs.length xs.length hi = xs.length) : cutV xs lo hi = xs := by
  unfold cutV
  rw [h.1, h.2, List.drop_zero, Nat.sub_zero, List.take_length]
theorem cutN {xs : List V} {n : Nat} : cutV xs none (some (n : Int)) = xs.take n := by
  unfold cutV
  rw [HT.sIx_none, HT.sIx_nat, List.drop_zero, Nat.sub_zero]
  rcases Nat.le_total n xs.length with h | h
  · rw [Nat.min_eq_left h]
  · rw [Nat.min_eq_right h, List.take_length, List.take_of_length_le h]
theorem Bn.slice {K : PySem.W.Frag} {ns : List Int} {a sc x : Addr} {W : Hp → Prop} {H0 H : Hp} {l : List (Addr × HO)} {Q : VK} {xs : List V} {lo hi : Option Int} (B : Bn K ns a sc W H0 H l) (h : H x = some (.tup xs))
    (q : ∀ p H', Fr [] H H' → Bn K ns a sc W H0 H' ((p, .tup (cutV xs lo hi)) :: l) → Q (.ref p) H') : rSlA K (.ref x) lo hi H Q :=
  ⟨x, xs, rfl, SqT.of h, fun e => q _ _ (Fr.refl _ _) (B.push (by rw [cutV_whole e]; exact h) (B.nea2 h)), fun _ p np => q _ _ (Fr.new np) (B.new np)⟩
theorem Bn.sliceL {K : PySem.W.Frag} {ns : List Int} {a sc x : Addr} {W : Hp → Prop} {H0 H : Hp} {l : List (Addr × HO)} {Q : VK} {xs : List V} {lo hi : Option Int} (B : Bn K ns a sc W H0 H l) (h : H x = some (.lst xs))
    (q : ∀ p H', Bn K ns a sc W H0 H' ((p, .lst (cutV xs lo hi)) :: l) → Q (.ref p) H') : rSlL K (.ref x) lo hi H Q :=
  ⟨x, xs, rfl, SqL.of h, fun p np => q p _ (B.new np)⟩
theorem catA_join {K : PySem.W.Frag} {x y : Addr} {H : Hp} {Q : VK} {xs ys : List V} (h1 : H x = some (.tup xs)) (h2 : H y = some (.tup ys)) (hl : xs.length + ys.length ≤ 10000) (q : ∀ p H', Fr [] H H' → H' p = some (.tup (xs ++ ys)) → Q (.ref p) H') : rCatA K (.ref x) (.ref y) H Q :=
  ⟨x, y, xs, ys, rfl, rfl, SqT.of h1, SqT.of h2, Nat.le_trans hl (by decide), fun e => q _ _ (Fr.refl _ _) (by rw [e, List.nil_append]; exact h2), fun _ e => q _ _ (Fr.refl _ _) (by rw [e, List.append_nil]; exact h1), fun _ _ p np => q _ _ (Fr.new np) upd_same⟩
theorem ifs_coreN {t : TT} {s1 s2 : TS} {D : Ends} {σ : L2.St} {H : Hp} (Pp : L2.St → Hp → Prop) (core : ∀ σ' H', Pp σ' H' → D.nx σ' H') (h : ∀ nx' : L2.St → Hp → Prop, (∀ σ' H', Pp σ' H' → nx' σ' H') → tIfS t s1 s2 { D with nx := nx' } σ H) : tIfS t s1 s2 D σ H := h D.nx core
theorem cr_maxK {X : Cx} (K : PySem.W.Frag) (hc : X.calm = true) (e : X.K = K := by rfl) : CallR X (.builtin "max") (rMax K) := e ▸ cr_max hc
theorem cr_sumK {X : Cx} (K : PySem.W.Frag) (hc : X.calm = true) (e : X.K = K := by rfl) : CallR X (.builtin "sum") (rSum K) := e ▸ cr_sum hc
theorem op_catAK {X : Cx} (K : PySem.W.Frag) (e : X.K = K := by rfl) : OpR X (binaryOp .Add) (rCatA K) := e ▸ op_catA
end Dc

set_option Elab.async false
set_option linter.all false
set_option maxRecDepth 100000
set_option maxHeartbeats 2000000
namespace Dc
open PySem PySem.Spec PyProof.Rows L2
local macro_rules | `(tactic| walk_at "ne") => `(tactic| first | assumption | (refine Ne.symm ?_; assumption) | exact ne_of (by assumption) (by assumption) (by intro q; cases q) | exact ne_of_none (by assumption) (by assumption) | exact Ne.symm (ne_of_none (by assumption) (by assumption)))
local macro_rules | `(tactic| walk_at "hp") => `(tactic| first | assumption | exact upd_same | (refine upd_keep ?_ (by assumption); walk_at "hp") | (refine upd_other ?_ ?_; · walk_at "ne"; · walk_at "hp"))
local macro_rules | `(tactic| walk_at "hl") => `(tactic| first | assumption | exact SqL.of (by walk_at "hp"))
local macro_rules | `(tactic| walk_at "ht") => `(tactic| first | assumption | exact SqT.of (by walk_at "hp"))
local macro_rules | `(tactic| walk_at "rd1") => `(tactic| first
  | ((with_reducible apply rd_var); exact rfl)
  | ((with_reducible apply rd_eq); exact rfl) | ((with_reducible apply rd_ne); exact rfl)
  | with_reducible first
  | refine iteT ?_ | refine iteF ?_ | refine rd_nF ?_ | refine rd_nT ?_ | refine rd_yes ?_ | refine rd_c ?_ | refine rd_op ?_ | refine rd_un ?_ | refine rd_test ?_ | refine rd_B ?_ | refine rd_bl ?_ | refine rd_seq ?_ | refine rd_next ?_ | refine rd_ifs ?_ | refine rd_asg ?_ | refine rd_name ?_ | refine rd_ret ?_ | refine rd_drop ?_
  | refine rd_call ?_ | refine rd_cons ?_ | refine rd_nil ?_ | refine rd_cb ?_ | refine rd_I0 ?_ | refine rd_U ?_ | refine rd_gsub ?_ | refine rd_lst ?_ | refine rd_tup ?_ | refine rd_if ?_ | refine rd_not ?_ | refine rd_rng1 ?_ | refine rd_itup ?_ | refine rd_ilst ?_ | refine rd_bm ?_ | refine rd_bm0 ?_ | refine rd_andV ?_ | refine rd_orV ?_ | refine rd_notV ?_)
local macro_rules | `(tactic| walk_at "rd") => `(tactic| repeat walk_at "rd1")
local macro_rules | `(tactic| walk_at "ci") => `(tactic| first | assumption | (show (0 : Int) < _; first | decide | omega) | exact ⟨by decide, by decide⟩ | exact Or.inr ⟨by decide, by decide⟩ | exact Or.inl ⟨by decide, by decide⟩ | exact ⟨by decide, by decide, by decide⟩ | exact Or.inl ⟨by omega, by omega⟩ | exact Or.inr ⟨by omega, by omega⟩)
local macro_rules | `(tactic| walk_at "ix") => `(tactic| first
  | ((with_reducible apply rd_ixL); (walk_at "hl"); exact rfl)
  | ((with_reducible apply rd_ixT); (walk_at "ht"); exact rfl)
  | ((with_reducible apply rd_lenL); (walk_at "hl"))
  | ((with_reducible apply rd_lenT); (walk_at "ht"))
  | ((with_reducible apply rd_tupOf); (walk_at "hl"))
  | ((with_reducible apply rd_listOf); (walk_at "hl"))
  | (with_reducible refine rd_min2 ?_)
  | ((with_reducible apply rd_I); (walk_at "ci"))
  | ((with_reducible apply rd_setL); (walk_at "hp"); exact rfl))
local macro_rules | `(tactic| walk_at "gs") => `(tactic| repeat first | walk_at "rd1" | walk_at "ix")
local macro_rules | `(tactic| walk_at "go") => `(tactic| repeat first | walk_at "rd1" | walk_at "ix" | with_reducible refine rd_and ?_ | with_reducible refine rd_or ?_)
local macro_rules | `(tactic| walk_at "fo") => `(tactic| (with_reducible refine rd_for ?_))
local macro_rules | `(tactic| walk_at "pm") => `(tactic| repeat first
  | with_reducible first | refine rd_pcons ?_ | refine rd_pstr ?_ | refine rd_pcap ?_ | refine rd_pwild ?_ | refine rd_pnil ?_ | refine rd_por ?_ | refine rd_pno ?_
  | ((with_reducible refine rd_eq rfl ?_); refine ⟨_, rfl, ?_⟩; first | refine rd_T rfl ?_ | refine rd_F (by decide) ?_)
  | dsimp only [List.nil_append, List.singleton_append, List.cons_append, setAll])
local macro_rules | `(tactic| walk_at "pc") => `(tactic| (refine rd_case ?_); (first | (refine rd_phit (SqT.of (by assumption)) rfl ?_) | (refine rd_pmiss (SqT.of (by assumption)) (by simp) ?_)); (walk_at "pm"))

/-! ### the words of a chain -/
def n2w (i : Int) : Str := Str.ofString (toString i)
def Mkr.words : Mkr → List Str
  | .count b s => ["count", n2w b, n2w s]
  | .row ns => ("row" : Str) :: (ns.map n2w ++ [(";" : Str)])
def Kd.nums : Kd → List Int
  | .add n => [n]
  | .times n => [n]
  | .keep r w => [r, w]
  | .drop k => [k]
  | .take k => [k]
  | .each k => [k]
  | .until n => [n]
  | .unlike => []
theorem Kd.vals_eq (k : Kd) : k.vals = V.str k.name :: k.nums.map V.int := by cases k <;> rfl
def Ch.ws : Ch → List Str
  | .mkr m => m.words
  | .st c k => c.ws ++ (k.name :: k.nums.map n2w)
  | .both c o => c.ws ++ (("both" : Str) :: (o.ws ++ [(".":Str)]))
  | .thn c o => c.ws ++ (("then" : Str) :: (o.ws ++ [(".":Str)]))
def Ch.words (c : Ch) : List Str := c.ws ++ [(".":Str)]
def spWN : Sp := fun vs H Q _ => ∃ (p : Addr) (ns : List Int), vs = [.ref p] ∧ H p = some (.tup (ns.map V.int)) ∧ ns.length ≤ 1000 ∧ (∀ n ∈ ns, numOk n) ∧ ∀ H' q, H' q = some (.lst ((ns.map n2w).map V.str)) → H q = none → Fr [] H H' → Q (.ref q) H'
theorem num_log {n : Int} (h : numOk n) : n.natAbs.log2 < 1920 := by
  have h1 : n.natAbs < 10 ^ 30 := by have := h.1; have := h.2; omega
  by_cases z : n.natAbs = 0
  · rw [z]; decide
  · exact (Nat.log2_lt z).mpr (Nat.lt_of_lt_of_le h1 (show 10 ^ 30 ≤ 2 ^ 1920 by decide +kernel))
section
variable {P : Program} {w : World} {K : PySem.W.Frag} {mg : Str → Option Value} {base : Heap} {f : Addr} {fd : FuncData}
theorem sc_words_of_numbers : FnScope ["numbers", "number"] ["numbers"] (defScope s_words_of_numbers) := ⟨rfl, rfl, rfl, by decide +kernel, rfl, by decide +kernel, by decide +kernel⟩
theorem ok_words_of_numbers (T : Txt K mg) (F : FnP K "words_of_numbers" "words_of_numbers" s_words_of_numbers f fd) : FnOk P w K mg base CX0 1 f fd ["numbers"] spWN := by
  refine ok0 F sc_words_of_numbers (fun vs H Q E h => ?_) (fun cdv A outer s H vs Q E hr h => ?_)
  · obtain ⟨p, ns, rfl, _⟩ := h
    rfl
  · obtain ⟨p, ns, rfl, hp, hl, hn, k⟩ := h
    refine ⟨_, (pss_one (ps_ret (pe_lc (own := [("number", 1)]) (g := gName 1) rfl sc_words_of_numbers.nd (pi_tup (pv 0)) (blkOk_by (N := ["numbers", "number"]) (sc := defScope s_words_of_numbers) (by decide +kernel)) (fun _ _ _ _ _ => pg_name (i := 1) sc_words_of_numbers.nd rfl (Or.inl rfl)) (fun _ _ _ _ _ => pts_nil) (fun _ _ _ _ _ => (pe_callTy call_str_int (by rfl) T.free_str (by decide +kernel) (pa_cons (pv 1) pa_nil)))))), ?_⟩
    try dsimp only [cxOf, Cx.nox, Cx.wish]
    refine rd_at (σ' := [some (.ref p), none]) rfl ?_
    walk_at "go"
    refine ⟨_, rfl, p, rfl, ⟨_, SqT.of hp⟩, fun D hD => ?_⟩
    refine lc_tup (K := K) (a := p) (xs := ns.map V.int) (fun i H1 => H1 D = some (.lst (((ns.take i).map n2w).map V.str)) ∧ Fr [] H H1) ⟨upd_same, Fr.new hD⟩ (fun i H1 _ ⟨_, fr⟩ => SqT.of (fr.tp hp)) ?_ ?_
    · rintro i y H1 hi ⟨e1, f1⟩
      rw [List.getElem?_map] at hi
      obtain ⟨n, en, rfl⟩ : ∃ n, ns[i]? = some n ∧ y = .int n := by
        cases e : ns[i]? with
        | none => rw [e] at hi; cases hi
        | some z => rw [e] at hi; exact ⟨z, rfl, (Option.some.inj hi).symm⟩
      have il : i < ns.length := (List.getElem?_eq_some_iff.mp en).1
      walk_at "go"
      refine ⟨rfl, ?_⟩
      walk_at "go"
      refine ⟨n, rfl, num_log (hn n (List.mem_of_getElem? en)), _, e1, by rw [List.length_map, List.length_map, List.length_take]; exact Nat.lt_of_le_of_lt (show min i ns.length ≤ 1000 by omega) (by decide), ?_, f1.trans (Fr.put (S := [D]) (by simp) (nt e1)) fun b hb => ?_⟩
      · rw [upd_same, List.take_succ, en, List.map_append, List.map_append]
        rfl
      · rw [List.mem_singleton] at hb
        rw [hb]; exact .inr hD
    · rintro H1 ⟨e1, f1⟩
      rw [List.length_map, List.take_length] at e1
      walk_at "go"
      exact k H1 D e1 hD f1
end
end Dc

set_option Elab.async false
set_option linter.all false
set_option maxRecDepth 100000
set_option maxHeartbeats 2000000
namespace Dc
open PySem PySem.Spec PyProof.Rows L2
local macro_rules | `(tactic| walk_at "ne") => `(tactic| first | assumption | (refine Ne.symm ?_; assumption) | exact ne_of (by assumption) (by assumption) (by intro q; cases q) | exact ne_of_none (by assumption) (by assumption) | exact Ne.symm (ne_of_none (by assumption) (by assumption)))
local macro_rules | `(tactic| walk_at "hp") => `(tactic| first | assumption | exact upd_same | (refine upd_keep ?_ (by assumption); walk_at "hp") | (refine upd_other ?_ ?_; · walk_at "ne"; · walk_at "hp"))
local macro_rules | `(tactic| walk_at "hl") => `(tactic| first | assumption | exact SqL.of (by walk_at "hp"))
local macro_rules | `(tactic| walk_at "ht") => `(tactic| first | assumption | exact SqT.of (by walk_at "hp"))
local macro_rules | `(tactic| walk_at "rd1") => `(tactic| first
  | ((with_reducible apply rd_var); exact rfl)
  | ((with_reducible apply rd_eq); exact rfl) | ((with_reducible apply rd_ne); exact rfl)
  | with_reducible first
  | refine iteT ?_ | refine iteF ?_ | refine rd_nF ?_ | refine rd_nT ?_ | refine rd_yes ?_ | refine rd_c ?_ | refine rd_op ?_ | refine rd_un ?_ | refine rd_test ?_ | refine rd_B ?_ | refine rd_bl ?_ | refine rd_seq ?_ | refine rd_next ?_ | refine rd_ifs ?_ | refine rd_asg ?_ | refine rd_name ?_ | refine rd_ret ?_ | refine rd_drop ?_
  | refine rd_call ?_ | refine rd_cons ?_ | refine rd_nil ?_ | refine rd_cb ?_ | refine rd_I0 ?_ | refine rd_U ?_ | refine rd_gsub ?_ | refine rd_lst ?_ | refine rd_tup ?_ | refine rd_if ?_ | refine rd_not ?_ | refine rd_rng1 ?_ | refine rd_itup ?_ | refine rd_ilst ?_ | refine rd_bm ?_ | refine rd_bm0 ?_ | refine rd_andV ?_ | refine rd_orV ?_ | refine rd_notV ?_)
local macro_rules | `(tactic| walk_at "rd") => `(tactic| repeat walk_at "rd1")
local macro_rules | `(tactic| walk_at "ci") => `(tactic| first | assumption | (show (0 : Int) < _; first | decide | omega) | exact ⟨by decide, by decide⟩ | exact Or.inr ⟨by decide, by decide⟩ | exact Or.inl ⟨by decide, by decide⟩ | exact ⟨by decide, by decide, by decide⟩ | exact Or.inl ⟨by omega, by omega⟩ | exact Or.inr ⟨by omega, by omega⟩)
local macro_rules | `(tactic| walk_at "ix") => `(tactic| first
  | ((with_reducible apply rd_ixL); (walk_at "hl"); exact rfl)
  | ((with_reducible apply rd_ixT); (walk_at "ht"); exact rfl)
  | ((with_reducible apply rd_lenL); (walk_at "hl"))
  | ((with_reducible apply rd_lenT); (walk_at "ht"))
  | ((with_reducible apply rd_tupOf); (walk_at "hl"))
  | ((with_reducible apply rd_listOf); (walk_at "hl"))
  | (with_reducible refine rd_min2 ?_)
  | ((with_reducible apply rd_I); (walk_at "ci"))
  | ((with_reducible apply rd_setL); (walk_at "hp"); exact rfl))
local macro_rules | `(tactic| walk_at "gs") => `(tactic| repeat first | walk_at "rd1" | walk_at "ix")
local macro_rules | `(tactic| walk_at "go") => `(tactic| repeat first | walk_at "rd1" | walk_at "ix" | with_reducible refine rd_and ?_ | with_reducible refine rd_or ?_)
local macro_rules | `(tactic| walk_at "fo") => `(tactic| (with_reducible refine rd_for ?_))
local macro_rules | `(tactic| walk_at "pm") => `(tactic| repeat first
  | with_reducible first | refine rd_pcons ?_ | refine rd_pstr ?_ | refine rd_pcap ?_ | refine rd_pwild ?_ | refine rd_pnil ?_ | refine rd_por ?_ | refine rd_pno ?_
  | ((with_reducible refine rd_eq rfl ?_); refine ⟨_, rfl, ?_⟩; first | refine rd_T rfl ?_ | refine rd_F (by decide) ?_)
  | dsimp only [List.nil_append, List.singleton_append, List.cons_append, setAll])
local macro_rules | `(tactic| walk_at "pc") => `(tactic| (refine rd_case ?_); (first | (refine rd_phit (SqT.of (by assumption)) rfl ?_) | (refine rd_pmiss (SqT.of (by assumption)) (by simp) ?_)); (walk_at "pm"))

theorem cut_to {xs : List V} {k : Int} (h : 0 ≤ k) : cutV xs none (some k) = xs.take k.toNat := by
  obtain ⟨j, rfl⟩ := Int.eq_ofNat_of_zero_le h
  unfold cutV
  rw [HT.sIx_none, HT.sIx_nat, List.drop_zero, Nat.sub_zero, Int.toNat_natCast]
  rcases Nat.le_total j xs.length with q | q
  · rw [Nat.min_eq_left q]
  · rw [Nat.min_eq_right q, List.take_length, List.take_of_length_le q]
theorem cut_from {xs : List V} {k : Int} (h : 0 ≤ k) : cutV xs (some k) none = xs.drop k.toNat := by
  obtain ⟨j, rfl⟩ := Int.eq_ofNat_of_zero_le h
  unfold cutV
  rw [HT.sIx_none, HT.sIx_nat, Int.toNat_natCast]
  rcases Nat.le_total j xs.length with q | q
  · rw [Nat.min_eq_left q, List.take_of_length_le (by rw [List.length_drop]; omega)]
  · rw [Nat.min_eq_right q, List.drop_length, List.drop_of_length_le q, List.take_nil]
def Sg.ws : Sg → List Str
  | .one k => k.name :: k.nums.map n2w
  | .both o => ("both" : Str) :: o.words
  | .thn o => ("then" : Str) :: o.words
theorem Ch.snoc_ws (c : Ch) (g : Sg) : (c.snoc g).ws = c.ws ++ g.ws := by cases g <;> rfl
theorem Kd.nums_len (k : Kd) : k.nums.length ≤ 2 := by cases k <;> simp [Kd.nums]
theorem Mkr.words_len {m : Mkr} (ok : m.ok) : m.words.length ≤ 102 := by
  cases m with
  | count b s => show 3 ≤ 102; decide
  | row ns => show (("row" : Str) :: (ns.map n2w ++ [(";" : Str)])).length ≤ 102; have := ok.1; simp; omega
theorem Ch.ws_len : ∀ {c : Ch}, c.ok → c.ws.length ≤ 102 * c.nm + 3 * c.ns
  | .mkr m, h => by have := Mkr.words_len (m := m) h; show m.words.length ≤ 102 * 1 + 3 * 0; omega
  | .st c k, h => by
    have := Ch.ws_len (c := c) h.1
    have := k.nums_len
    show (c.ws ++ (k.name :: k.nums.map n2w)).length ≤ 102 * c.nm + 3 * (c.ns + 1)
    rw [List.length_append, List.length_cons, List.length_map]; omega
  | .both c o, h => by
    have := Ch.ws_len (c := c) h.1
    have := Ch.ws_len (c := o) h.2
    show (c.ws ++ (("both" : Str) :: (o.ws ++ [(".":Str)]))).length ≤ 102 * (c.nm + o.nm) + 3 * (c.ns + o.ns + 1)
    rw [List.length_append, List.length_cons, List.length_append, List.length_singleton]; omega
  | .thn c o, h => by
    have := Ch.ws_len (c := c) h.1
    have := Ch.ws_len (c := o) h.2
    show (c.ws ++ (("then" : Str) :: (o.ws ++ [(".":Str)]))).length ≤ 102 * (c.nm + o.nm) + 3 * (c.ns + o.ns + 1)
    rw [List.length_append, List.length_cons, List.length_append, List.length_singleton]; omega
theorem slA_join {K : PySem.W.Frag} {x : Addr} {H : Hp} {Q : VK} {xs : List V} {lo hi : Option Int} (h : H x = some (.tup xs)) (q : ∀ p H', Fr [] H H' → H' p = some (.tup (cutV xs lo hi)) → Q (.ref p) H') : rSlA K (.ref x) lo hi H Q :=
  ⟨x, xs, rfl, SqT.of h, fun e => q _ _ (Fr.refl _ _) (by rw [cutV_whole e]; exact h), fun _ p np => q _ _ (Fr.new np) upd_same⟩
theorem Kd.nums_ok {k : Kd} (h : k.ok) : ∀ n ∈ k.nums, numOk n := fun n hn => by
  cases k with
  | keep r w =>
    obtain ⟨h1, h2, h3, h4⟩ := (h : 2 ≤ w ∧ w ≤ 1000 ∧ 0 ≤ r ∧ r < w)
    simp only [Kd.nums, List.mem_cons, List.not_mem_nil, or_false] at hn
    rcases hn with rfl | rfl <;> exact ⟨by omega, by omega⟩
  | add m => rw [List.mem_singleton.mp hn]; exact h
  | times m => rw [List.mem_singleton.mp hn]; exact h.1
  | drop m => rw [List.mem_singleton.mp hn]; exact ⟨by have := h.1; omega, by have := h.2; omega⟩
  | take m => rw [List.mem_singleton.mp hn]; exact ⟨by have := h.1; omega, by have := h.2; omega⟩
  | each m => rw [List.mem_singleton.mp hn]; exact ⟨by have := h.1; omega, by have := h.2; omega⟩
  | «until» m => rw [List.mem_singleton.mp hn]; exact h
  | unlike => cases hn
theorem Ch.of_take_ns (c : Ch) (i : Nat) : (Ch.of c.root (c.sgs.take i)).ns ≤ c.ns := by
  have := Ch.of_append_ns c.root (c.sgs.take i) (c.sgs.drop i)
  rw [List.take_append_drop, Ch.of_sgs] at this
  exact this
theorem Ch.of_take_ok {c : Ch} (ok : c.ok) (i : Nat) : (Ch.of c.root (c.sgs.take i)).ok := fold_ok (Ch.ok_sgs ok).1 fun g hg => (Ch.ok_sgs ok).2 g (List.mem_of_mem_take hg)
def spWM : Sp := fun vs H Q _ => ∃ (a : Addr) (m : Mkr), vs = [.ref a] ∧ MkAt H a m ∧ m.ok ∧ ∀ H' q, H' q = some (.lst (m.words.map V.str)) → H q = none → Fr [] H H' → Q (.ref q) H'
def spWO (n : Nat) : Sp := fun vs H Q _ => ∃ (p : Addr) (c : Ch), vs = [.ref p] ∧ ChAt H p c ∧ c.ok ∧ c.nm ≤ n ∧ c.nm ≤ 4 ∧ c.ns ≤ 12 ∧ ∀ H' q, H' q = some (.lst (c.words.map V.str)) → H q = none → Fr [] H H' → Q (.ref q) H'
section
variable {P : Program} {w : World} {K : PySem.W.Frag} {mg : Str → Option Value} {base : Heap} {f : Addr} {fd : FuncData}
theorem sc_words_of_maker : FnScope ["maker"] ["maker"] (defScope s_words_of_maker) := ⟨rfl, rfl, rfl, by decide +kernel, rfl, by decide +kernel, by decide +kernel⟩
theorem ok_words_of_maker (T : Txt K mg) (F : FnP K "words_of_maker" "words_of_maker" s_words_of_maker f fd) (G_words_of_numbers : Cal P w K mg base CX0 1 "words_of_numbers" ["numbers"] spWN) : FnOk P w K mg base CX0 2 f fd ["maker"] spWM := by
  refine ok0 F sc_words_of_maker (fun vs H Q E h => ?_) (fun cdv A outer s H vs Q E hr h => ?_)
  · obtain ⟨p, m, rfl, _⟩ := h
    rfl
  · obtain ⟨p, m, rfl, hm, hok, k⟩ := h
    refine ⟨_, (pss_cons (ps_if (pt_cmpR op_eq (pe_ix (ix_tupK K) (pv 0) pe_int (fun _ _ => rfl)) pe_str (nomark _))
    (pss_one (ps_ret (pe_op op_cat (pe_op op_cat (pe_lst (pa_cons pe_str pa_nil)) (pe_cal G_words_of_numbers (hr.mono (by omega)) pass0 (pa_cons (pe_ix (ix_tupK K) (pv 0) pe_int (fun _ _ => rfl)) pa_nil))) (pe_lst (pa_cons pe_str pa_nil))))) pss_nil)
  (pss_one (ps_ret (pe_op op_cat (pe_lst (pa_cons pe_str pa_nil)) (pe_cal G_words_of_numbers (hr.mono (by omega)) pass0 (pa_cons (pe_slice (sl_tupAK K) (pv 0) (po_some pe_int) po_none) pa_nil)))))), ?_⟩
    try dsimp only [cxOf, Cx.nox, Cx.wish]
    refine rd_at (σ' := [some (.ref p)]) rfl ?_
    cases m with
    | row ns =>
      obtain ⟨r, e1, e2⟩ := hm
      walk_at "go"
      refine rd_T rfl ?_
      walk_at "go"
      refine ⟨by show 1 ≤ sizeLine; decide, fun l1 h1 => ?_⟩
      have f1 : Fr [] H (upd H l1 (.lst [.str "row"])) := Fr.new h1
      have el1 : upd H l1 (.lst [.str "row"]) l1 = some (.lst ([("row" : Str)].map V.str)) := upd_same
      replace e1 := f1.tp e1
      replace e2 := f1.tp e2
      generalize upd H l1 (.lst [.str "row"]) = H1 at *
      walk_at "go"
      refine ⟨r, ns, rfl, e2, by have := hok.1; omega, hok.2, fun H2 q2 eq2 nq2 f2 => ?_⟩
      have el2 := f2.at el1 (by simp)
      refine rd_cat el2 eq2 ?_ fun q3 hq3 => ?_
      · have := hok.1
        simp only [List.length_map, List.length_cons, List.length_nil]
        exact Nat.le_trans (show 0 + 1 + ns.length ≤ 101 by omega) (by decide)
      have e3 : upd H2 q3 (.lst ([("row" : Str)].map V.str ++ (ns.map n2w).map V.str)) q3 = some (.lst ([("row" : Str)].map V.str ++ (ns.map n2w).map V.str)) := upd_same
      have f3 := (f1.tr f2).newN (o := .lst ([("row" : Str)].map V.str ++ (ns.map n2w).map V.str)) hq3
      generalize upd H2 q3 (.lst ([("row" : Str)].map V.str ++ (ns.map n2w).map V.str)) = H3 at *
      walk_at "go"
      refine ⟨by show 1 ≤ sizeLine; decide, fun l4 h4 => ?_⟩
      have f4 := f3.newN (o := .lst [.str ";"]) h4
      have e34 : upd H3 l4 (.lst [.str ";"]) q3 = _ := upd_keep e3 h4
      have e4 : upd H3 l4 (.lst [.str ";"]) l4 = some (.lst [.str ";"]) := upd_same
      refine rd_cat e34 e4 ?_ fun q5 hq5 => ?_
      · have := hok.1
        simp only [List.length_map, List.length_cons, List.length_nil, List.length_append]
        exact Nat.le_trans (show 0 + 1 + ns.length + (0 + 1) ≤ 102 by omega) (by decide)
      exact k _ q5 (by rw [upd_same]; simp [Mkr.words]) (f4.free (by simp) hq5) (f4.newN hq5)
    | count b s =>
      have e1 := id hm
      walk_at "go"
      refine rd_F (by decide) ?_
      walk_at "go"
      refine ⟨by show 1 ≤ sizeLine; decide, fun l1 h1 => ?_⟩
      have f1 : Fr [] H (upd H l1 (.lst [.str "count"])) := Fr.new h1
      have el1 : upd H l1 (.lst [.str "count"]) l1 = some (.lst ([("count" : Str)].map V.str)) := upd_same
      replace e1 := f1.tp e1
      generalize upd H l1 (.lst [.str "count"]) = H1 at *
      walk_at "go"
      refine rd_sl ?_
      walk_at "go"
      refine rd_part ?_
      walk_at "go"
      refine ⟨1, rfl, ?_⟩
      refine rd_np ?_
      refine slA_join e1 fun p2 H2 f2 e2 => ?_
      rw [cut_from (by decide)] at e2
      have el2 := f2.at el1 (by simp)
      walk_at "go"
      refine ⟨p2, [b, s], rfl, e2, by simp, fun n hn => ?_, fun H3 q3 eq3 nq3 f3 => ?_⟩
      · simp only [List.mem_cons, List.not_mem_nil, or_false] at hn
        rcases hn with rfl | rfl
        · exact hok.1
        · exact hok.2
      have el3 := f3.at el2 (by simp)
      refine rd_cat el3 eq3 (by simp; decide) fun q5 hq5 => ?_
      exact k _ q5 (by rw [upd_same]; rfl) (((f1.tr f2).tr f3).free (by simp) hq5) (((f1.tr f2).tr f3).newN hq5)
theorem sc_words_of : FnScope ["chain", "words", "stage"] ["chain"] (defScope s_words_of) := ⟨rfl, rfl, rfl, by decide +kernel, rfl, by decide +kernel, by decide +kernel⟩
theorem ok_words_of {n : Nat} (hn1 : n ≤ 1000) (T : Txt K mg) (F : FnP K "words_of" "words_of" s_words_of f fd) (G_has_chain : Cal P w K mg base CX0 1 "has_chain" ["stage"] spHasChain) (G_words_of_maker : Cal P w K mg base CX0 2 "words_of_maker" ["maker"] spWM)
    (G_words_of_numbers : Cal P w K mg base CX0 1 "words_of_numbers" ["numbers"] spWN) (G_words_of : Cal P w K mg base CX0 (n + 2) "words_of" ["chain"] (spWO n)) : FnOk P w K mg base CX0 (n + 3) f fd ["chain"] (spWO (n + 1)) := by
  refine ok0 F sc_words_of (fun vs H Q E h => ?_) (fun cdv A outer s H vs Q E hr h => ?_)
  · obtain ⟨p, c, rfl, _⟩ := h
    rfl
  · obtain ⟨p, c, rfl, ⟨mk, ss, as, ep, ess, hst⟩, cok, cnm, cn4, cn12, k⟩ := h
    have hg := hst.get
    have ho := Ch.ok_sgs cok
    have hroot := hst.root
    refine ⟨_, (pss_cons (ps_set (i := 1) sc_words_of.nd rfl (Or.inl rfl) (pe_cal G_words_of_maker (hr.mono (by omega)) pass0 (pa_cons (pe_ix (ix_tupK K) (pv 0) pe_int (fun _ _ => rfl)) pa_nil)))
  (pss_cons (ps_for PassesOwn.never rfl (pi_tup (pe_ix (ix_tupK K) (pv 0) pe_int (fun _ _ => rfl))) (pg_name (i := 2) sc_words_of.nd rfl (Or.inl rfl))
    (pss_cons (ps_expr (pe_bm PySem.F.plainAttrs_list PySem.F.slot_list_append PySem.F.type_list_append mt_append (pv 1) (pa_cons (pe_ix (ix_tupK K) (pv 2) pe_int (fun _ _ => rfl)) pa_nil)))
    (pss_one (ps_if (pt_val (pe_cal G_has_chain (hr.mono (by omega)) pass0 (pa_cons (pv 2) pa_nil)))
      (pss_one (ps_expr (pe_bm PySem.F.plainAttrs_list PySem.F.slot_list_extend PySem.F.type_list_extend mt_extend (pv 1) (pa_cons (pe_cal G_words_of (hr.mono (by omega)) pass0 (pa_cons (pe_ix (ix_tupK K) (pv 2) pe_int (fun _ _ => rfl)) pa_nil)) pa_nil))))
      (pss_one (ps_expr (pe_bm PySem.F.plainAttrs_list PySem.F.slot_list_extend PySem.F.type_list_extend mt_extend (pv 1) (pa_cons (pe_cal G_words_of_numbers (hr.mono (by omega)) pass0 (pa_cons (pe_slice (sl_tupAK K) (pv 2) (po_some pe_int) po_none) pa_nil)) pa_nil))))))))
  (pss_cons (ps_expr (pe_bm PySem.F.plainAttrs_list PySem.F.slot_list_append PySem.F.type_list_append mt_append (pv 1) (pa_cons pe_str pa_nil)))
  (pss_one (ps_ret (pv 1)))))), ?_⟩
    try dsimp only [cxOf, Cx.nox, Cx.wish]
    refine rd_at (σ' := [some (.ref p), none, none]) rfl ?_
    walk_at "go"
    refine ⟨mk, c.root, rfl, hroot, ho.1, fun H0 l el nl f0 => ?_⟩
    walk_at "go"
    walk_at "fo"
    refine ⟨_, rfl, ?_⟩
    walk_at "go"
    refine rd_ixT (SqT.of (f0.tp ep)) rfl ?_
    refine ⟨ss, rfl, ⟨_, SqT.of (f0.tp ess)⟩, ?_⟩
    refine for_it (walk_tup (K := K) (a := ss) (xs := as.map V.ref)) (fun i σ H1 => ∃ v2 : Option V, σ = [some (.ref p), some (.ref l), v2] ∧ H1 l = some (.lst ((Ch.of c.root (c.sgs.take i)).ws.map V.str)) ∧ Fr [] H H1) ⟨_, rfl, el, f0⟩ (fun i σ H1 _ ⟨_, _, _, f⟩ => SqT.of (f.tp ess)) ?_ ?_
    · clear el f0 H0
      rintro i z σ H1 H2 hi ⟨v2, rfl, el, f1⟩ ⟨rfl, hz⟩
      rw [List.length_map] at hi
      rw [List.getElem?_map, List.getElem?_eq_getElem hi] at hz
      cases hz
      obtain ⟨g, eg, sg⟩ := hg.2 i as[i] (List.getElem?_eq_getElem hi)
      have hgm : g ∈ c.sgs := List.mem_of_getElem? eg
      have stp : (Ch.of c.root (c.sgs.take (i + 1))).ws = (Ch.of c.root (c.sgs.take i)).ws ++ g.ws := by rw [Ch.of_take c.root eg, Ch.snoc_ws]
      have okt : (Ch.of c.root (c.sgs.take (i + 1))).ok := Ch.of_take_ok cok (i + 1)
      have hlen := Ch.ws_len okt
      have hm1 : (Ch.of c.root (c.sgs.take (i + 1))).nm ≤ c.nm := Ch.of_take_nm c (i + 1)
      have hm2 : (Ch.of c.root (c.sgs.take (i + 1))).ns ≤ c.ns := Ch.of_take_ns c (i + 1)
      rw [stp, List.length_append] at hlen
      have hl500 : (Ch.of c.root (c.sgs.take i)).ws.length + g.ws.length ≤ 500 := by omega
      clear okt
      have sgf := sg.fr f1
      cases g with
      | one kd =>
        have ex : H2 as[i] = some (.tup (V.str kd.name :: kd.nums.map V.int)) := by rw [← kd.vals_eq]; exact sgf
        clear hm1 hm2
        walk_at "go"
        refine ⟨tyl el, ?_⟩
        walk_at "go"
        refine rd_ixT (SqT.of ex) (atI_nat (xs := V.str kd.name :: kd.nums.map V.int) (j := 0) rfl) ?_
        walk_at "go"
        refine rd_append el (by rw [List.length_map]; exact Nat.lt_of_le_of_lt (show _ ≤ 500 by omega) (by decide)) ?_
        have e3 : upd H2 l (.lst ((Ch.of c.root (c.sgs.take i)).ws.map V.str ++ [V.str kd.name])) l = some (.lst (((Ch.of c.root (c.sgs.take i)).ws ++ [kd.name]).map V.str)) := by rw [upd_same, List.map_append]; rfl
        have fp : Fr [l] H2 (upd H2 l (.lst ((Ch.of c.root (c.sgs.take i)).ws.map V.str ++ [V.str kd.name]))) := Fr.put (by simp) (nt el)
        have f3 := f1.putN (o := .lst ((Ch.of c.root (c.sgs.take i)).ws.map V.str ++ [V.str kd.name])) (.inr nl) (nt el)
        have sg3 : SgAt _ as[i] (.one kd) := fp.tp (show H2 as[i] = some (.tup kd.vals) from sgf)
        replace ex := fp.tp ex
        generalize upd H2 l (.lst ((Ch.of c.root (c.sgs.take i)).ws.map V.str ++ [V.str kd.name])) = H3 at *
        walk_at "go"
        refine ⟨as[i], .one kd, rfl, sg3, fun H4 f4 => ⟨false, rfl, ?_⟩⟩
        replace ex := f4.tp ex
        have el4 := f4.at e3 (by simp)
        walk_at "go"
        refine ⟨tyl el4, ?_⟩
        walk_at "go"
        refine rd_sl ?_
        walk_at "go"
        refine rd_part ?_
        walk_at "go"
        refine ⟨1, rfl, ?_⟩
        refine rd_np ?_
        refine slA_join ex fun p2 H5 f5 e5 => ?_
        rw [cut_from (by decide)] at e5
        have el5 := f5.at el4 (by simp)
        walk_at "go"
        have k2 := kd.nums_len
        refine ⟨p2, kd.nums, rfl, e5, by omega, Kd.nums_ok (ho.2 _ hgm), fun H6 q eq nq f6 => ?_⟩
        have el6 := f6.at el5 (by simp)
        walk_at "go"
        have hwl : (Sg.one kd).ws.length = kd.nums.length + 1 := by show (kd.name :: kd.nums.map n2w).length = _; rw [List.length_cons, List.length_map]
        refine ⟨l, q, _, _, rfl, rfl, el6, eq, ?_, ?_⟩
        · rw [List.length_map, List.length_map, List.length_map, List.length_append, List.length_singleton]
          exact Nat.le_trans (show _ ≤ 500 by omega) (by decide)
        walk_at "go"
        exact ⟨_, rfl, by rw [upd_same, stp, ← List.map_append, List.append_assoc]; rfl, (((f3.tr f4).tr f5).tr f6).putN (.inr nl) (nt el6)⟩
      | both o =>
        obtain ⟨pi, ex, hpi⟩ := sgf
        have onm : o.nm + 1 ≤ c.nm := by have := (Ch.of c.root (c.sgs.take i)).nm_pos; have : (Ch.of c.root (c.sgs.take (i + 1))).nm = _ + o.nm := (congrArg Ch.nm (Ch.of_take c.root eg)).trans (Ch.snoc_nm _ _); omega
        have ons : o.ns ≤ c.ns := by have : (Ch.of c.root (c.sgs.take (i + 1))).ns = _ + o.ns + 1 := (congrArg Ch.ns (Ch.of_take c.root eg)).trans (Ch.snoc_ns _ _); omega
        clear hm1 hm2
        walk_at "go"
        refine ⟨tyl el, ?_⟩
        walk_at "go"
        refine rd_append el (by rw [List.length_map]; exact Nat.lt_of_le_of_lt (show _ ≤ 500 by omega) (by decide)) ?_
        have e3 : upd H2 l (.lst ((Ch.of c.root (c.sgs.take i)).ws.map V.str ++ [V.str "both"])) l = some (.lst (((Ch.of c.root (c.sgs.take i)).ws ++ [("both" : Str)]).map V.str)) := by rw [upd_same, List.map_append]; rfl
        have fp : Fr [l] H2 (upd H2 l (.lst ((Ch.of c.root (c.sgs.take i)).ws.map V.str ++ [V.str "both"]))) := Fr.put (by simp) (nt el)
        have f3 := f1.putN (o := .lst ((Ch.of c.root (c.sgs.take i)).ws.map V.str ++ [V.str "both"])) (.inr nl) (nt el)
        have sg3 : SgAt _ as[i] (.both o) := ⟨pi, fp.tp ex, hpi.fr fp⟩
        generalize upd H2 l (.lst ((Ch.of c.root (c.sgs.take i)).ws.map V.str ++ [V.str "both"])) = H3 at *
        walk_at "go"
        refine ⟨as[i], .both o, rfl, sg3, fun H4 f4 => ⟨true, rfl, ?_⟩⟩
        obtain ⟨pi', ex', hpi'⟩ := sg3.fr f4
        have el4 := f4.at e3 (by simp)
        walk_at "go"
        refine ⟨tyl el4, ?_⟩
        walk_at "go"
        refine ⟨pi', o, rfl, hpi', ho.2 _ hgm, by omega, by omega, by omega, fun H5 q eq nq f5 => ?_⟩
        have el5 := f5.at el4 (by simp)
        walk_at "go"
        have hwl : (Sg.both o).ws.length = o.words.length + 1 := rfl
        refine ⟨l, q, _, _, rfl, rfl, el5, eq, ?_, ?_⟩
        · rw [List.length_map, List.length_map, List.length_append, List.length_singleton]
          exact Nat.le_trans (show _ ≤ 500 by omega) (by decide)
        walk_at "go"
        exact ⟨_, rfl, by rw [upd_same, stp, ← List.map_append, List.append_assoc]; rfl, ((f3.tr f4).tr f5).putN (.inr nl) (nt el5)⟩
      | thn o =>
        obtain ⟨pi, ex, hpi⟩ := sgf
        have onm : o.nm + 1 ≤ c.nm := by have := (Ch.of c.root (c.sgs.take i)).nm_pos; have : (Ch.of c.root (c.sgs.take (i + 1))).nm = _ + o.nm := (congrArg Ch.nm (Ch.of_take c.root eg)).trans (Ch.snoc_nm _ _); omega
        have ons : o.ns ≤ c.ns := by have : (Ch.of c.root (c.sgs.take (i + 1))).ns = _ + o.ns + 1 := (congrArg Ch.ns (Ch.of_take c.root eg)).trans (Ch.snoc_ns _ _); omega
        clear hm1 hm2
        walk_at "go"
        refine ⟨tyl el, ?_⟩
        walk_at "go"
        refine rd_append el (by rw [List.length_map]; exact Nat.lt_of_le_of_lt (show _ ≤ 500 by omega) (by decide)) ?_
        have e3 : upd H2 l (.lst ((Ch.of c.root (c.sgs.take i)).ws.map V.str ++ [V.str "then"])) l = some (.lst (((Ch.of c.root (c.sgs.take i)).ws ++ [("then" : Str)]).map V.str)) := by rw [upd_same, List.map_append]; rfl
        have fp : Fr [l] H2 (upd H2 l (.lst ((Ch.of c.root (c.sgs.take i)).ws.map V.str ++ [V.str "then"]))) := Fr.put (by simp) (nt el)
        have f3 := f1.putN (o := .lst ((Ch.of c.root (c.sgs.take i)).ws.map V.str ++ [V.str "then"])) (.inr nl) (nt el)
        have sg3 : SgAt _ as[i] (.thn o) := ⟨pi, fp.tp ex, hpi.fr fp⟩
        generalize upd H2 l (.lst ((Ch.of c.root (c.sgs.take i)).ws.map V.str ++ [V.str "then"])) = H3 at *
        walk_at "go"
        refine ⟨as[i], .thn o, rfl, sg3, fun H4 f4 => ⟨true, rfl, ?_⟩⟩
        obtain ⟨pi', ex', hpi'⟩ := sg3.fr f4
        have el4 := f4.at e3 (by simp)
        walk_at "go"
        refine ⟨tyl el4, ?_⟩
        walk_at "go"
        refine ⟨pi', o, rfl, hpi', ho.2 _ hgm, by omega, by omega, by omega, fun H5 q eq nq f5 => ?_⟩
        have el5 := f5.at el4 (by simp)
        walk_at "go"
        have hwl : (Sg.thn o).ws.length = o.words.length + 1 := rfl
        refine ⟨l, q, _, _, rfl, rfl, el5, eq, ?_, ?_⟩
        · rw [List.length_map, List.length_map, List.length_append, List.length_singleton]
          exact Nat.le_trans (show _ ≤ 500 by omega) (by decide)
        walk_at "go"
        exact ⟨_, rfl, by rw [upd_same, stp, ← List.map_append, List.append_assoc]; rfl, ((f3.tr f4).tr f5).putN (.inr nl) (nt el5)⟩
    · rintro σ H1 ⟨v2, rfl, el, f1⟩
      rw [List.length_map, hg.1, List.take_length, Ch.of_sgs] at el
      walk_at "go"
      refine ⟨tyl el, ?_⟩
      walk_at "go"
      have := Ch.ws_len cok
      refine rd_append el (by rw [List.length_map]; exact Nat.lt_of_le_of_lt (show c.ws.length ≤ 500 by omega) (by decide)) ?_
      walk_at "go"
      exact k _ l (by rw [upd_same]; show _ = some (HO.lst ((c.ws ++ [(".":Str)]).map V.str)); rw [List.map_append]; rfl) nl (f1.putN (.inr nl) (nt el))
end
end Dc

set_option Elab.async false
set_option linter.all false
set_option maxRecDepth 100000
set_option maxHeartbeats 2000000
namespace Dc
open PySem PySem.Spec PyProof.Rows L2
local macro_rules | `(tactic| walk_at "ne") => `(tactic| first | assumption | (refine Ne.symm ?_; assumption) | exact ne_of (by assumption) (by assumption) (by intro q; cases q) | exact ne_of_none (by assumption) (by assumption) | exact Ne.symm (ne_of_none (by assumption) (by assumption)))
local macro_rules | `(tactic| walk_at "hp") => `(tactic| first | assumption | exact upd_same | (refine upd_keep ?_ (by assumption); walk_at "hp") | (refine upd_other ?_ ?_; · walk_at "ne"; · walk_at "hp"))
local macro_rules | `(tactic| walk_at "hl") => `(tactic| first | assumption | exact SqL.of (by walk_at "hp"))
local macro_rules | `(tactic| walk_at "ht") => `(tactic| first | assumption | exact SqT.of (by walk_at "hp"))
local macro_rules | `(tactic| walk_at "rd1") => `(tactic| first
  | ((with_reducible apply rd_var); exact rfl)
  | ((with_reducible apply rd_eq); exact rfl) | ((with_reducible apply rd_ne); exact rfl)
  | with_reducible first
  | refine iteT ?_ | refine iteF ?_ | refine rd_nF ?_ | refine rd_nT ?_ | refine rd_yes ?_ | refine rd_c ?_ | refine rd_op ?_ | refine rd_un ?_ | refine rd_test ?_ | refine rd_B ?_ | refine rd_bl ?_ | refine rd_seq ?_ | refine rd_next ?_ | refine rd_ifs ?_ | refine rd_asg ?_ | refine rd_name ?_ | refine rd_ret ?_ | refine rd_drop ?_
  | refine rd_call ?_ | refine rd_cons ?_ | refine rd_nil ?_ | refine rd_cb ?_ | refine rd_I0 ?_ | refine rd_U ?_ | refine rd_gsub ?_ | refine rd_lst ?_ | refine rd_tup ?_ | refine rd_if ?_ | refine rd_not ?_ | refine rd_rng1 ?_ | refine rd_itup ?_ | refine rd_ilst ?_ | refine rd_bm ?_ | refine rd_bm0 ?_ | refine rd_andV ?_ | refine rd_orV ?_ | refine rd_notV ?_)
local macro_rules | `(tactic| walk_at "rd") => `(tactic| repeat walk_at "rd1")
local macro_rules | `(tactic| walk_at "ci") => `(tactic| first | assumption | (show (0 : Int) < _; first | decide | omega) | exact ⟨by decide, by decide⟩ | exact Or.inr ⟨by decide, by decide⟩ | exact Or.inl ⟨by decide, by decide⟩ | exact ⟨by decide, by decide, by decide⟩ | exact Or.inl ⟨by omega, by omega⟩ | exact Or.inr ⟨by omega, by omega⟩)
local macro_rules | `(tactic| walk_at "ix") => `(tactic| first
  | ((with_reducible apply rd_ixL); (walk_at "hl"); exact rfl)
  | ((with_reducible apply rd_ixT); (walk_at "ht"); exact rfl)
  | ((with_reducible apply rd_lenL); (walk_at "hl"))
  | ((with_reducible apply rd_lenT); (walk_at "ht"))
  | ((with_reducible apply rd_tupOf); (walk_at "hl"))
  | ((with_reducible apply rd_listOf); (walk_at "hl"))
  | (with_reducible refine rd_min2 ?_)
  | ((with_reducible apply rd_I); (walk_at "ci"))
  | ((with_reducible apply rd_setL); (walk_at "hp"); exact rfl))
local macro_rules | `(tactic| walk_at "gs") => `(tactic| repeat first | walk_at "rd1" | walk_at "ix")
local macro_rules | `(tactic| walk_at "go") => `(tactic| repeat first | walk_at "rd1" | walk_at "ix" | with_reducible refine rd_and ?_ | with_reducible refine rd_or ?_)
local macro_rules | `(tactic| walk_at "fo") => `(tactic| (with_reducible refine rd_for ?_))
local macro_rules | `(tactic| walk_at "pm") => `(tactic| repeat first
  | with_reducible first | refine rd_pcons ?_ | refine rd_pstr ?_ | refine rd_pcap ?_ | refine rd_pwild ?_ | refine rd_pnil ?_ | refine rd_por ?_ | refine rd_pno ?_
  | ((with_reducible refine rd_eq rfl ?_); refine ⟨_, rfl, ?_⟩; first | refine rd_T rfl ?_ | refine rd_F (by decide) ?_)
  | dsimp only [List.nil_append, List.singleton_append, List.cons_append, setAll])
local macro_rules | `(tactic| walk_at "pc") => `(tactic| (refine rd_case ?_); (first | (refine rd_phit (SqT.of (by assumption)) rfl ?_) | (refine rd_pmiss (SqT.of (by assumption)) (by simp) ?_)); (walk_at "pm"))

def spIsChain : Sp := fun vs H Q _ => ∃ (p : Addr) (c : Ch), vs = [.ref p] ∧ ChAt H p c ∧ c.ok ∧ c.nm ≤ 4 ∧ c.ns ≤ 12 ∧ ∀ H', Fr [] H H' → Q (.bl true) H'
def spCheck : Sp := fun vs H Q _ => ∃ (p : Addr) (c : Ch), vs = [.ref p] ∧ ChAt H p c ∧ c.ok ∧ c.nm ≤ 4 ∧ c.ns ≤ 12 ∧ ∀ H', Fr [] H H' → Q .non H'
/-- a statement that is not come to -/
theorem ps_dead {X : Cx} {st : Stmt} : PS X st (fun _ _ _ => False) := ⟨fun _ _ _ _ _ _ h => h.elim⟩
abbrev PL := List (Addr × Ch)
def PL.nm (L : PL) : Nat := (L.map fun x => x.2.nm).sum
def PL.ns (L : PL) : Nat := (L.map fun x => x.2.ns).sum
def PL.vs (L : PL) : List V := L.map fun x => V.ref x.1
theorem PL.nm_app (L M : PL) : PL.nm (L ++ M) = PL.nm L + PL.nm M := by unfold PL.nm; rw [List.map_append, List.sum_append]
theorem PL.ns_app (L M : PL) : PL.ns (L ++ M) = PL.ns L + PL.ns M := by unfold PL.ns; rw [List.map_append, List.sum_append]
theorem PL.nm_one (x : Addr × Ch) : PL.nm [x] = x.2.nm := by simp [PL.nm]
theorem PL.ns_one (x : Addr × Ch) : PL.ns [x] = x.2.ns := by simp [PL.ns]
theorem PL.len_le : ∀ L : PL, L.length ≤ PL.nm L
  | [] => Nat.le_refl _
  | x :: L => by
    have h1 := PL.len_le L
    have h2 := x.2.nm_pos
    have := PL.nm_app [x] L
    rw [PL.nm_one] at this
    have e : PL.nm (x :: L) = PL.nm ([x] ++ L) := rfl
    rw [List.length_cons, e, this]
    omega
theorem PL.vs_app (L M : PL) : PL.vs (L ++ M) = PL.vs L ++ PL.vs M := List.map_append
theorem Ch.of_sgs_len (c : Ch) : c.sgs.length = c.len := by
  induction c with
  | mkr m => rfl
  | st c k ih => show (c.sgs ++ [Sg.one k]).length = c.len + 1; rw [List.length_append, ih]; rfl
  | both c o ih _ => show (c.sgs ++ [Sg.both o]).length = c.len + 1; rw [List.length_append, ih]; rfl
  | thn c o ih _ => show (c.sgs ++ [Sg.thn o]).length = c.len + 1; rw [List.length_append, ih]; rfl
section
variable {P : Program} {w : World} {K : PySem.W.Frag} {mg : Str → Option Value} {base : Heap} {f f2 : Addr} {fd fd2 : FuncData}
theorem sc_is_chain : FnScope ["chain", "maker_count", "stage_count", "waiting", "part", "stage"] ["chain"] (defScope s_is_chain) := ⟨rfl, rfl, rfl, by decide +kernel, rfl, by decide +kernel, by decide +kernel⟩
theorem ok_is_chain (T : Txt K mg) (F : FnP K "is_chain" "is_chain" s_is_chain f fd) (G_is_pair : Cal P w K mg base CX0 1 "is_pair" ["part"] spIsPair) (G_is_maker : Cal P w K mg base CX0 3 "is_maker" ["maker"] spIsMaker)
    (G_is_stage : Cal P w K mg base CX0 3 "is_stage" ["stage"] spIsStage) (G_has_chain : Cal P w K mg base CX0 1 "has_chain" ["stage"] spHasChain) : FnOk P w K mg base CX0 4 f fd ["chain"] spIsChain := by
  refine ok0 F sc_is_chain (fun vs H Q E h => ?_) (fun cdv A outer s H vs Q E hr h => ?_)
  · obtain ⟨p, c, rfl, _⟩ := h
    rfl
  · obtain ⟨p, c, rfl, hc, hok, hm, hs, k⟩ := h
    refine ⟨_, (pss_cons (ps_set (i := 1) sc_is_chain.nd rfl (Or.inl rfl) pe_int)
  (pss_cons (ps_set (i := 2) sc_is_chain.nd rfl (Or.inl rfl) pe_int)
  (pss_cons (ps_set (i := 3) sc_is_chain.nd rfl (Or.inl rfl) (pe_lst (pa_cons (pv 0) pa_nil)))
  (pss_cons (ps_while PassesOwn.never (pt_truth (pv 3) (by intro _; rfl))
    (pss_cons (ps_set (i := 4) sc_is_chain.nd rfl (Or.inl rfl) (pe_bm0 PySem.F.plainAttrs_list PySem.F.slot_list_pop PySem.F.type_list_pop mt_pop (pv 3)))
    (pss_cons (ps_if (PW.pt (pw_or (pt_not (pt_val (pe_cal G_is_pair (hr.mono (by omega)) pass0 (pa_cons (pv 4) pa_nil)))) (pw_or1 (pt_not (pt_val (pe_cal G_is_maker (hr.mono (by omega)) pass0 (pa_cons (pe_ix (ix_tupK K) (pv 4) pe_int (fun _ _ => rfl)) pa_nil)))))))
      (pss_one (ps_ret pe_bl)) pss_nil)
    (pss_cons (ps_aug (i := 1) sc_is_chain.nd rfl (Or.inl rfl) pe_int ip_add)
    (pss_cons (ps_aug (i := 2) sc_is_chain.nd rfl (Or.inl rfl) (pe_callB (call_len1K K) (by rfl) T.free_len (by decide +kernel) (pa_cons (pe_ix (ix_tupK K) (pv 4) pe_int (fun _ _ => rfl)) pa_nil)) ip_add)
    (pss_cons (ps_if (PW.pt (pw_or (pt_cmpR op_gt (pv 1) (pe_cint T.c_MAKERS_AT_MOST) (nomark _)) (pw_or1 (pt_cmpR op_gt (pv 2) (pe_cint T.c_STAGES_AT_MOST) (nomark _)))))
      (pss_one (ps_ret pe_bl)) pss_nil)
    (pss_one (ps_for PassesOwn.never rfl (pi_tup (pe_ix (ix_tupK K) (pv 4) pe_int (fun _ _ => rfl))) (pg_name (i := 5) sc_is_chain.nd rfl (Or.inl rfl))
      (pss_cons (ps_if (pt_not (pt_val (pe_cal G_is_stage (hr.mono (by omega)) pass0 (pa_cons (pv 5) pa_nil))))
        (pss_one (ps_ret pe_bl)) pss_nil)
      (pss_one (ps_if (pt_val (pe_cal G_has_chain (hr.mono (by omega)) pass0 (pa_cons (pv 5) pa_nil)))
        (pss_one (ps_expr (pe_bm PySem.F.plainAttrs_list PySem.F.slot_list_append PySem.F.type_list_append mt_append (pv 3) (pa_cons (pe_ix (ix_tupK K) (pv 5) pe_int (fun _ _ => rfl)) pa_nil)))) pss_nil)))))))))))
  (pss_one (ps_ret pe_bl)))))), ?_⟩
    try dsimp only [cxOf, Cx.nox, Cx.wish]
    refine rd_at (σ' := [some (.ref p), none, none, none, none, none]) rfl ?_
    walk_at "go"
    refine ⟨by show 1 ≤ sizeLine; decide, fun l hl => ?_⟩
    walk_at "go"
    refine ⟨fun μ σ H' => ∃ (L : PL) (mc sc : Nat) (v1 v2 : Option V), σ = [some (.ref p), some (.int mc), some (.int sc), some (.ref l), v1, v2] ∧ H' l = some (.lst L.vs) ∧ (∀ x ∈ L, ChAt H' x.1 x.2 ∧ x.2.ok) ∧ mc + L.nm = c.nm ∧ sc + L.ns = c.ns ∧ Fr [] H H' ∧ μ = L.nm,
      ⟨c.nm, [(p, c)], 0, 0, none, none, rfl, upd_same, fun x hx => by rw [List.mem_singleton] at hx; subst hx; exact ⟨hc.fr (Fr.new (S := []) hl), hok⟩, by rw [PL.nm_one]; simp, by rw [PL.ns_one]; simp, Fr.new hl, by rw [PL.nm_one]⟩, ?_⟩
    rintro μ σ H' ⟨L, mc, sc, v1, v2, rfl, el, hL, h1, h2, fr, rfl⟩
    walk_at "go"
    rcases List.eq_nil_or_concat L with rfl | ⟨L', x, e⟩
    · refine ⟨false, .inl ⟨_, SqL.of el, rfl⟩, ?_⟩
      walk_at "go"
      exact k _ fr
    · rw [List.concat_eq_append] at e
      subst e
      refine ⟨true, .inl ⟨_, SqL.of el, by rw [PL.vs_app]; simp [PL.vs]⟩, ?_⟩
      rw [PL.nm_app, PL.nm_one] at h1
      rw [PL.ns_app, PL.ns_one] at h2
      obtain ⟨⟨mk, ss, bs, ep, ess, hst⟩, xok⟩ := hL x (by simp)
      have hg := hst.get
      have hxs := Ch.ok_sgs xok
      have xm := x.2.nm_pos
      have xl := x.2.len_le
      have bl : bs.length = x.2.len := by rw [hg.1, Ch.of_sgs_len]
      dsimp only
      refine iteT ?_
      refine ⟨fun σ' H' => ∃ μ', μ' < PL.nm (L' ++ [x]) ∧ _, fun σ' H' z => z, ?_⟩
      walk_at "go"
      refine ⟨.inl ⟨rfl, _, SqL.of el⟩, l, _, .ref x.1, rfl, rfl, el, by rw [PL.vs_app]; simp [PL.vs], ?_⟩
      have el1 : upd H' l (.lst (PL.vs (L' ++ [x])).dropLast) l = some (.lst (PL.vs L')) := by rw [upd_same, PL.vs_app]; simp [PL.vs]
      have f1 : Fr [l] H' (upd H' l (.lst (PL.vs (L' ++ [x])).dropLast)) := Fr.put (by simp) (nt el)
      have fr1 := fr.putN (o := .lst (PL.vs (L' ++ [x])).dropLast) (.inr hl) (nt el)
      have hL1 : ∀ y ∈ L', ChAt (upd H' l (.lst (PL.vs (L' ++ [x])).dropLast)) y.1 y.2 ∧ y.2.ok := fun y hy => ⟨(hL y (by simp [hy])).1.fr f1, (hL y (by simp [hy])).2⟩
      replace ep := f1.tp ep
      replace ess := f1.tp ess
      replace hst := hst.fr f1
      clear hL f1 fr el
      generalize upd H' l (.lst (PL.vs (L' ++ [x])).dropLast) = H1 at *
      walk_at "go"
      refine ⟨x.1, mk, ss, bs, rfl, ep, ess, ?_⟩
      walk_at "go"
      refine ⟨mk, x.2.root, rfl, hst.root, hxs.1, fun H2 f2 => ?_⟩
      replace ep := f2.tp ep
      replace ess := f2.tp ess
      replace hg := (hst.fr f2).get
      have fr2 := fr1.tr f2
      have el2 := f2.at el1 (by simp)
      have hL2 : ∀ y ∈ L', ChAt H2 y.1 y.2 ∧ y.2.ok := fun y hy => ⟨(hL1 y hy).1.fr f2, (hL1 y hy).2⟩
      clear hst f2 fr1 el1 hL1
      walk_at "go"
      refine ⟨_, rfl, ?_⟩
      walk_at "go"
      refine ⟨_, _, rfl, rfl, ?_⟩
      have e1 : (mc : Int) + 1 = ((mc + 1 : Nat) : Int) := by omega
      dsimp only
      rw [e1]
      refine ⟨_, rfl, ?_⟩
      walk_at "go"
      refine ⟨_, _, rfl, rfl, ?_⟩
      have e2 : (sc : Int) + ((bs.map V.ref).length : Nat) = ((sc + x.2.len : Nat) : Int) := by rw [List.length_map, bl]; omega
      dsimp only
      rw [e2]
      refine rd_at (σ' := [some (.ref p), some (.int ((mc + 1 : Nat) : Int)), some (.int ((sc + x.2.len : Nat) : Int)), some (.ref l), some (.ref x.1), v2]) rfl ?_
      walk_at "go"
      refine rd_F (by omega) ?_
      walk_at "go"
      refine rd_F (by omega) ?_
      walk_at "go"
      walk_at "fo"
      walk_at "go"
      have len12 : ∀ {M : PL} {i : Nat}, PL.nm M + 1 = (Ch.of x.2.root (x.2.sgs.take i)).nm → (PL.vs (L' ++ M)).length < sizeLine := fun {M i} h => by
        have q1 := Ch.of_take_nm x.2 i
        have q2 := PL.len_le (L' ++ M)
        rw [PL.nm_app] at q2
        have q3 : (PL.vs (L' ++ M)).length = (L' ++ M).length := List.length_map _
        rw [q3]
        exact Nat.lt_of_le_of_lt (show (L' ++ M).length ≤ 4 by omega) (by decide)
      refine ⟨ss, rfl, ⟨_, SqT.of ess⟩, for_tup (K := K) (a := ss) (xs := bs.map V.ref) (fun i σ H' => ∃ (M : PL) (v : Option V), σ = [some (.ref p), some (.int ((mc + 1 : Nat) : Int)), some (.int ((sc + x.2.len : Nat) : Int)), some (.ref l), some (.ref x.1), v] ∧
        H' l = some (.lst (PL.vs (L' ++ M))) ∧ (∀ y ∈ M, ChAt H2 y.1 y.2 ∧ y.2.ok) ∧ PL.nm M + 1 = (Ch.of x.2.root (x.2.sgs.take i)).nm ∧ PL.ns M + i = (Ch.of x.2.root (x.2.sgs.take i)).ns ∧ Fr [l] H2 H')
        ⟨[], v2, rfl, by rw [List.append_nil]; exact el2, fun y hy => (by cases hy), rfl, rfl, Fr.refl _ _⟩ (fun i σ H' _ ⟨_, _, _, _, _, _, _, fr⟩ => SqT.of (fr.tp ess)) ?_ ?_⟩
      · rintro i y σ H3 hi ⟨M, v, rfl, el3, hM, m1, m2, f3⟩
        obtain ⟨sx, hsx, rfl⟩ : ∃ sx, bs[i]? = some sx ∧ y = .ref sx := by
          rw [List.getElem?_map] at hi
          cases e : bs[i]? with
          | none => rw [e] at hi; cases hi
          | some z => rw [e] at hi; exact ⟨z, rfl, (Option.some.inj hi).symm⟩
        obtain ⟨g, hgi, gat⟩ := hg.2 i sx hsx
        have gok := hxs.2 g (List.mem_of_getElem? hgi)
        have nn := Ch.of_take x.2.root hgi
        walk_at "go"
        refine ⟨sx, g, rfl, gat.fr f3, gok, ?_⟩
        walk_at "go"
        refine ⟨sx, g, rfl, gat.fr f3, fun H4 f4 => ?_⟩
        walk_at "go"
        have f24 := f3.trans f4 (fun b hb => by cases hb)
        have el4 := f4.at el3 (by simp)
        refine rd_b (fun cg => ?_) (fun cg => ?_)
        · obtain ⟨o, q, eq, ho, hok2, gnm, gns⟩ : ∃ (o : Ch) (q : Addr), (∃ nm : Str, H4 sx = some (.tup [.str nm, .ref q])) ∧ ChAt H2 q o ∧ o.ok ∧ g.nm = o.nm ∧ g.ns = o.ns := by
            cases g with
            | one k => cases cg
            | both o => obtain ⟨q, e1, e2⟩ := gat; exact ⟨o, q, ⟨_, f24.tp e1⟩, e2, gok, rfl, rfl⟩
            | thn o => obtain ⟨q, e1, e2⟩ := gat; exact ⟨o, q, ⟨_, f24.tp e1⟩, e2, gok, rfl, rfl⟩
          obtain ⟨nm, eq⟩ := eq
          walk_at "go"
          refine ⟨tyl el4, ?_⟩
          walk_at "go"
          refine rd_append el4 (len12 m1) ?_
          walk_at "go"
          refine ⟨M ++ [(q, o)], _, rfl, ?_, fun y hy => ?_, ?_, ?_, f24.putN (.inl (by simp)) (nt el4)⟩
          · rw [upd_same, ← List.append_assoc, PL.vs_app (L' ++ M)]
            rfl
          · rcases List.mem_append.mp hy with z | z
            · exact hM y z
            · rw [List.mem_singleton] at z
              subst z
              exact ⟨ho, hok2⟩
          · rw [nn, Ch.snoc_nm, PL.nm_app, PL.nm_one, gnm, ← m1]; show _ + o.nm + 1 = _; omega
          · rw [nn, Ch.snoc_ns, PL.ns_app, PL.ns_one, gns, ← m2]; show _ + o.ns + (i + 1) = _; omega
        · obtain ⟨gnm, gns⟩ : g.nm = 0 ∧ g.ns = 0 := by
            cases g with
            | one k => exact ⟨rfl, rfl⟩
            | both o => cases cg
            | thn o => cases cg
          walk_at "go"
          refine ⟨M, _, rfl, el4, hM, ?_, ?_, f24⟩
          · rw [nn, Ch.snoc_nm, gnm, ← m1]
          · rw [nn, Ch.snoc_ns, gns, ← m2]; omega
      · rintro σ H3 ⟨M, v, rfl, el3, hM, m1, m2, f3⟩
        rw [List.length_map, hg.1, List.take_length, Ch.of_sgs] at m1 m2
        rw [Ch.of_sgs_len] at m2
        refine ⟨PL.nm (L' ++ M), ?_, L' ++ M, mc + 1, sc + x.2.len, _, _, rfl, el3, fun y hy => ?_, ?_, ?_, ?_, rfl⟩
        · rw [PL.nm_app, PL.nm_app, PL.nm_one]; omega
        · rcases List.mem_append.mp hy with z | z
          · exact ⟨(hL2 y z).1.fr f3, (hL2 y z).2⟩
          · exact ⟨(hM y z).1.fr f3, (hM y z).2⟩
        · rw [PL.nm_app]; omega
        · rw [PL.ns_app]; omega
        · exact fr2.trans f3 fun b hb => by rw [List.mem_singleton] at hb; rw [hb]; exact .inr hl
theorem sc_check_chain : FnScope ["chain"] ["chain"] (defScope s_check_chain) := ⟨rfl, rfl, rfl, by decide +kernel, rfl, by decide +kernel, by decide +kernel⟩
theorem ok_check_chain (T : Txt K mg) (F : FnP K "check_chain" "check_chain" s_check_chain f fd) (G_is_chain : Cal P w K mg base CX0 4 "is_chain" ["chain"] spIsChain) : FnOk P w K mg base CX0 5 f fd ["chain"] spCheck := by
  refine ok0 F sc_check_chain (fun vs H Q E h => ?_) (fun cdv A outer s H vs Q E hr h => ?_)
  · obtain ⟨p, c, rfl, _⟩ := h
    rfl
  · obtain ⟨p, c, rfl, hc, hok, hm, hs, k⟩ := h
    refine ⟨_, (pss_one (ps_if (pt_not (pt_val (pe_cal G_is_chain (hr.mono (by omega)) pass0 (pa_cons (pv 0) pa_nil))))
    (pss_one ps_dead) pss_nil)), ?_⟩
    try dsimp only [cxOf, Cx.nox, Cx.wish]
    refine rd_at (σ' := [some (.ref p)]) rfl ?_
    walk_at "go"
    refine ⟨p, c, rfl, hc, hok, hm, hs, fun H' f' => ?_⟩
    walk_at "go"
    exact k H' f'
end
end Dc

set_option Elab.async false
set_option linter.all false
set_option maxRecDepth 100000
set_option maxHeartbeats 2000000
namespace Dc
open PySem PySem.Spec PyProof.Rows L2
local macro_rules | `(tactic| walk_at "ne") => `(tactic| first | assumption | (refine Ne.symm ?_; assumption) | exact ne_of (by assumption) (by assumption) (by intro q; cases q) | exact ne_of_none (by assumption) (by assumption) | exact Ne.symm (ne_of_none (by assumption) (by assumption)))
local macro_rules | `(tactic| walk_at "hp") => `(tactic| first | assumption | exact upd_same | (refine upd_keep ?_ (by assumption); walk_at "hp") | (refine upd_other ?_ ?_; · walk_at "ne"; · walk_at "hp"))
local macro_rules | `(tactic| walk_at "hl") => `(tactic| first | assumption | exact SqL.of (by walk_at "hp"))
local macro_rules | `(tactic| walk_at "ht") => `(tactic| first | assumption | exact SqT.of (by walk_at "hp"))
local macro_rules | `(tactic| walk_at "rd1") => `(tactic| first
  | ((with_reducible apply rd_var); exact rfl)
  | ((with_reducible apply rd_eq); exact rfl) | ((with_reducible apply rd_ne); exact rfl)
  | with_reducible first
  | refine iteT ?_ | refine iteF ?_ | refine rd_nF ?_ | refine rd_nT ?_ | refine rd_yes ?_ | refine rd_c ?_ | refine rd_op ?_ | refine rd_un ?_ | refine rd_test ?_ | refine rd_B ?_ | refine rd_bl ?_ | refine rd_seq ?_ | refine rd_next ?_ | refine rd_ifs ?_ | refine rd_asg ?_ | refine rd_name ?_ | refine rd_ret ?_ | refine rd_drop ?_
  | refine rd_call ?_ | refine rd_cons ?_ | refine rd_nil ?_ | refine rd_cb ?_ | refine rd_I0 ?_ | refine rd_U ?_ | refine rd_gsub ?_ | refine rd_lst ?_ | refine rd_tup ?_ | refine rd_if ?_ | refine rd_not ?_ | refine rd_rng1 ?_ | refine rd_itup ?_ | refine rd_ilst ?_ | refine rd_bm ?_ | refine rd_bm0 ?_ | refine rd_andV ?_ | refine rd_orV ?_ | refine rd_notV ?_)
local macro_rules | `(tactic| walk_at "rd") => `(tactic| repeat walk_at "rd1")
local macro_rules | `(tactic| walk_at "ci") => `(tactic| first | assumption | (show (0 : Int) < _; first | decide | omega) | exact ⟨by decide, by decide⟩ | exact Or.inr ⟨by decide, by decide⟩ | exact Or.inl ⟨by decide, by decide⟩ | exact ⟨by decide, by decide, by decide⟩ | exact Or.inl ⟨by omega, by omega⟩ | exact Or.inr ⟨by omega, by omega⟩)
local macro_rules | `(tactic| walk_at "ix") => `(tactic| first
  | ((with_reducible apply rd_ixL); (walk_at "hl"); exact rfl)
  | ((with_reducible apply rd_ixT); (walk_at "ht"); exact rfl)
  | ((with_reducible apply rd_lenL); (walk_at "hl"))
  | ((with_reducible apply rd_lenT); (walk_at "ht"))
  | ((with_reducible apply rd_tupOf); (walk_at "hl"))
  | ((with_reducible apply rd_listOf); (walk_at "hl"))
  | (with_reducible refine rd_min2 ?_)
  | ((with_reducible apply rd_I); (walk_at "ci"))
  | ((with_reducible apply rd_setL); (walk_at "hp"); exact rfl))
local macro_rules | `(tactic| walk_at "gs") => `(tactic| repeat first | walk_at "rd1" | walk_at "ix")
local macro_rules | `(tactic| walk_at "go") => `(tactic| repeat first | walk_at "rd1" | walk_at "ix" | with_reducible refine rd_and ?_ | with_reducible refine rd_or ?_)
local macro_rules | `(tactic| walk_at "fo") => `(tactic| (with_reducible refine rd_for ?_))
local macro_rules | `(tactic| walk_at "pm") => `(tactic| repeat first
  | with_reducible first | refine rd_pcons ?_ | refine rd_pstr ?_ | refine rd_pcap ?_ | refine rd_pwild ?_ | refine rd_pnil ?_ | refine rd_por ?_ | refine rd_pno ?_
  | ((with_reducible refine rd_eq rfl ?_); refine ⟨_, rfl, ?_⟩; first | refine rd_T rfl ?_ | refine rd_F (by decide) ?_)
  | dsimp only [List.nil_append, List.singleton_append, List.cons_append, setAll])
local macro_rules | `(tactic| walk_at "pc") => `(tactic| (refine rd_case ?_); (first | (refine rd_phit (SqT.of (by assumption)) rfl ?_) | (refine rd_pmiss (SqT.of (by assumption)) (by simp) ?_)); (walk_at "pm"))

def Ch.text (c : Ch) : Str := Txt.join " " c.words
theorem tl_pos (n : Nat) : TL.tl (n2w (n : Int)) = TL.numL n := TL.tl_num n
theorem tl_neg (n : Nat) : TL.tl (n2w (Int.negSucc n)) = 45 :: TL.numL (n + 1) := by
  unfold n2w
  rw [TL.tl_ofString]
  show ("-" ++ Nat.repr (n + 1)).toList.map Char.toNat = 45 :: (Nat.toDigits 10 (n + 1)).map Char.toNat
  rw [String.toList_append, List.map_append, Nat.toList_repr]
  rfl
theorem n2w_len {i : Int} (h : numOk i) : (n2w i).length ≤ 31 := by
  cases i with
  | ofNat n =>
    rw [TL.len_tl, show TL.tl (n2w (Int.ofNat n)) = _ from tl_pos n]
    have := TL.numL_len (n := n) (k := 30) (by decide) (by have := h.2; have e : (Int.ofNat n) = (n : Int) := rfl; omega)
    omega
  | negSucc n =>
    rw [TL.len_tl, tl_neg, List.length_cons]
    have := TL.numL_len (n := n + 1) (k := 30) (by decide) (by have := h.1; have e : (Int.negSucc n) = -((n : Int) + 1) := rfl; omega)
    omega
theorem Mkr.words_31 {m : Mkr} (ok : m.ok) : ∀ x ∈ m.words, x.length ≤ 31 := fun x hx => by
  cases m with
  | count b s =>
    simp only [Mkr.words, List.mem_cons, List.not_mem_nil, or_false] at hx
    rcases hx with rfl | rfl | rfl
    · decide +kernel
    · exact n2w_len ok.1
    · exact n2w_len ok.2
  | row ns =>
    simp only [Mkr.words, List.mem_cons, List.mem_append, List.mem_map, List.not_mem_nil, or_false] at hx
    rcases hx with rfl | ⟨n, hn, rfl⟩ | rfl
    · decide +kernel
    · exact n2w_len (ok.2 n hn)
    · decide +kernel
theorem Ch.ws_31 : ∀ {c : Ch}, c.ok → ∀ x ∈ c.ws, x.length ≤ 31
  | .mkr m, h, x, hx => Mkr.words_31 (m := m) h x hx
  | .st c k, h, x, hx => by
    rcases List.mem_append.mp (show x ∈ c.ws ++ _ from hx) with q | q
    · exact Ch.ws_31 h.1 x q
    · rcases List.mem_cons.mp q with rfl | q
      · cases k <;> (simp only [Kd.name]; decide +kernel)
      · obtain ⟨n, hn, rfl⟩ := List.mem_map.mp q
        exact n2w_len (Kd.nums_ok h.2 n hn)
  | .both c o, h, x, hx => by
    rcases List.mem_append.mp (show x ∈ c.ws ++ _ from hx) with q | q
    · exact Ch.ws_31 h.1 x q
    · rcases List.mem_cons.mp q with rfl | q
      · decide +kernel
      · rcases List.mem_append.mp q with q | q
        · exact Ch.ws_31 h.2 x q
        · rw [List.mem_singleton.mp q]; decide +kernel
  | .thn c o, h, x, hx => by
    rcases List.mem_append.mp (show x ∈ c.ws ++ _ from hx) with q | q
    · exact Ch.ws_31 h.1 x q
    · rcases List.mem_cons.mp q with rfl | q
      · decide +kernel
      · rcases List.mem_append.mp q with q | q
        · exact Ch.ws_31 h.2 x q
        · rw [List.mem_singleton.mp q]; decide +kernel
theorem sum_31 : ∀ {l : List Str}, (∀ x ∈ l, x.length ≤ 31) → (l.map (·.length)).sum ≤ 31 * l.length
  | [], _ => Nat.le_refl _
  | x :: l, h => by
    have := sum_31 (l := l) fun y hy => h y (by simp [hy])
    have := h x (by simp)
    rw [List.map_cons, List.sum_cons, List.length_cons]; omega
theorem Ch.words_size {c : Ch} (ok : c.ok) (hn : c.nm ≤ 4) (hs : c.ns ≤ 12) : (c.words.map (·.length)).sum + c.words.length * (" " : Str).length ≤ 16777216 := by
  have h1 : ∀ x ∈ c.words, x.length ≤ 31 := fun x hx => by
    rcases List.mem_append.mp (show x ∈ c.ws ++ _ from hx) with q | q
    · exact Ch.ws_31 ok x q
    · rw [List.mem_singleton.mp q]; decide +kernel
  have h2 := sum_31 h1
  have h3 := Ch.ws_len ok
  have h4 : c.words.length = c.ws.length + 1 := by show (c.ws ++ [(".":Str)]).length = _; rw [List.length_append]; rfl
  have h5 : (" " : Str).length = 1 := by decide +kernel
  rw [h5]; omega
def spWritten : Sp := fun vs H Q _ => ∃ (p : Addr) (c : Ch), vs = [.ref p] ∧ ChAt H p c ∧ c.ok ∧ c.nm ≤ 4 ∧ c.ns ≤ 12 ∧ ∀ H', Fr [] H H' → Q (.str c.text) H'
section
variable {P : Program} {w : World} {K : PySem.W.Frag} {mg : Str → Option Value} {base : Heap} {f : Addr} {fd : FuncData}
theorem sc_written : FnScope ["chain"] ["chain"] (defScope s_written) := ⟨rfl, rfl, rfl, by decide +kernel, rfl, by decide +kernel, by decide +kernel⟩
theorem ok_written (T : Txt K mg) (F : FnP K "written" "written" s_written f fd) (G_check_chain : Cal P w K mg base CX0 5 "check_chain" ["chain"] spCheck) (G_words_of : Cal P w K mg base CX0 7 "words_of" ["chain"] (spWO 4)) : FnOk P w K mg base CX0 8 f fd ["chain"] spWritten := by
  refine ok0 F sc_written (fun vs H Q E h => ?_) (fun cdv A outer s H vs Q E hr h => ?_)
  · obtain ⟨p, c, rfl, _⟩ := h
    rfl
  · obtain ⟨p, c, rfl, hc, cok, cnm, cns, k⟩ := h
    refine ⟨_, (pss_cons (ps_expr (pe_cal G_check_chain (hr.mono (by omega)) pass0 (pa_cons (pv 0) pa_nil)))
  (pss_one (ps_ret (pe_bm PySem.F.plainAttrs_str PySem.F.slot_str_join PySem.F.type_str_join mt_join pe_str (pa_cons (pe_cal G_words_of (hr.mono (by omega)) pass0 (pa_cons (pv 0) pa_nil)) pa_nil))))), ?_⟩
    try dsimp only [cxOf, Cx.nox, Cx.wish]
    refine rd_at (σ' := [some (.ref p)]) rfl ?_
    walk_at "go"
    refine ⟨p, c, rfl, hc, cok, cnm, cns, fun H1 f1 => ?_⟩
    walk_at "go"
    refine ⟨rfl, ?_⟩
    walk_at "go"
    refine ⟨p, c, rfl, hc.fr f1, cok, cnm, cnm, cns, fun H2 q eq nq f2 => ?_⟩
    walk_at "go"
    exact ⟨" ", q, c.words, rfl, rfl, .inl (SqL.of eq), Ch.words_size cok cnm cns, k _ (f1.tr f2)⟩
end
end Dc

set_option Elab.async false
set_option linter.all false
set_option maxRecDepth 100000
set_option maxHeartbeats 2000000
namespace Dc
open PySem PySem.Spec PyProof.Rows L2
/-! ### words that are numbers -/
theorem val_snoc (l : List Nat) (c : Nat) : NumText.digitsVal (l ++ [c]) = NumText.digitsVal l * 10 + (c - 48) := by unfold NumText.digitsVal; rw [List.foldl_append]; rfl
theorem val_nil : NumText.digitsVal [] = 0 := rfl
theorem dig_app {l m : List Nat} (h : NumText.AllDigits (l ++ m)) : NumText.AllDigits l ∧ NumText.AllDigits m := ⟨fun c hc => h c (by simp [hc]), fun c hc => h c (by simp [hc])⟩
theorem head_app {α : Type} {l m : List α} (h : l ≠ []) : (l ++ m).head? = l.head? := by
  cases l with
  | nil => exact absurd rfl h
  | cons a b => rfl
theorem val_pos : ∀ (n : Nat) (l : List Nat), l.length = n → NumText.AllDigits l → l ≠ [] → l.head? ≠ some 48 → 1 ≤ NumText.digitsVal l
  | 0, l, e, _, h, _ => absurd (List.length_eq_zero_iff.mp e) h
  | n + 1, l, e, hd, h, hh => by
    rcases List.eq_nil_or_concat l with rfl | ⟨l', c, rfl⟩
    · exact absurd rfl h
    · rw [List.concat_eq_append] at *
      have q := dig_app hd
      have hc := q.2 c (by simp)
      rw [val_snoc]
      by_cases hl : l' = []
      · subst hl
        have : c ≠ 48 := fun z => hh (by rw [z]; rfl)
        rw [val_nil]; omega
      · have := val_pos n l' (by rw [List.length_append] at e; simpa using e) q.1 hl (by rw [head_app hl] at hh; exact hh)
        omega
theorem val_lt : ∀ (n : Nat) (l : List Nat), l.length = n → NumText.AllDigits l → NumText.digitsVal l < 10 ^ l.length
  | 0, l, e, _ => by rw [List.length_eq_zero_iff.mp e]; decide
  | n + 1, l, e, hd => by
    rcases List.eq_nil_or_concat l with rfl | ⟨l', c, rfl⟩
    · cases e
    · rw [List.concat_eq_append] at *
      have q := dig_app hd
      have hc := q.2 c (by simp)
      have := val_lt n l' (by rw [List.length_append] at e; simpa using e) q.1
      rw [val_snoc, List.length_append, List.length_singleton, Nat.pow_succ]
      omega
theorem val_back' : ∀ (n : Nat) (l : List Nat), l.length = n → NumText.AllDigits l → l ≠ [] → (l.head? ≠ some 48 ∨ l = [48]) → TL.numL (NumText.digitsVal l) = l
  | 0, l, e, _, h, _ => absurd (List.length_eq_zero_iff.mp e) h
  | n + 1, l, e, hd, h, hh => by
    rcases List.eq_nil_or_concat l with rfl | ⟨l', c, rfl⟩
    · exact absurd rfl h
    · rw [List.concat_eq_append] at *
      have q := dig_app hd
      have hc := q.2 c (by simp)
      rw [val_snoc]
      by_cases hl : l' = []
      · subst hl
        rw [val_nil, TL.numL_lt (by omega)]
        simp only [Nat.zero_mul, Nat.zero_add, List.nil_append]
        congr 1
        omega
      · have h1 : l'.head? ≠ some 48 := by
          rcases hh with hh | hh
          · rw [head_app hl] at hh; exact hh
          · have := congrArg List.length hh
            rw [List.length_append] at this
            have z : l'.length = 0 := by simpa using this
            exact absurd (List.length_eq_zero_iff.mp z) hl
        have p := val_pos _ l' rfl q.1 hl h1
        have r := val_back' n l' (by rw [List.length_append] at e; simpa using e) q.1 hl (.inl h1)
        rw [TL.numL_step (by omega), show (NumText.digitsVal l' * 10 + (c - 48)) / 10 = NumText.digitsVal l' by omega, show (NumText.digitsVal l' * 10 + (c - 48)) % 10 = c - 48 by omega, r]
        congr 2
        omega
theorem numL_head : ∀ (n : Nat), 1 ≤ n → (TL.numL n).head? ≠ some 48 := fun n => by
  induction n using Nat.strongRecOn with
  | _ n ih =>
    intro h
    by_cases h9 : n < 10
    · rw [TL.numL_lt h9]
      intro z
      have : 48 + n = 48 := by simpa using z
      omega
    · rw [TL.numL_step (by omega), head_app (TL.numL_ne _)]
      exact ih (n / 10) (by omega) (by omega)
/-- without a sign ahead -/
def unm : List Nat → List Nat
  | 45 :: r => r
  | l => l
def figB (c : Nat) : Bool := decide (48 ≤ c) && decide (c ≤ 57)
def digB (l : List Nat) : Bool := decide (1 ≤ l.length) && decide (l.length ≤ 30) && l.all figB
def numB' (l : List Nat) : Bool := digB (unm l) && (decide (l = [48]) || decide ((unm l).head? ≠ some 48))
def numW (w : Str) : Bool := numB' (TL.tl w)
def l2n : List Nat → Int
  | 45 :: r => -((NumText.digitsVal r : Nat) : Int)
  | l => ((NumText.digitsVal l : Nat) : Int)
def w2n (w : Str) : Int := l2n (TL.tl w)
theorem digB_iff {l : List Nat} : digB l = true ↔ 1 ≤ l.length ∧ l.length ≤ 30 ∧ NumText.AllDigits l := by
  unfold digB
  rw [Bool.and_eq_true, Bool.and_eq_true, decide_eq_true_iff, decide_eq_true_iff, List.all_eq_true, and_assoc]
  refine and_congr Iff.rfl (and_congr Iff.rfl ⟨fun h c hc => ?_, fun h c hc => ?_⟩)
  · have := h c hc
    unfold figB at this
    rw [Bool.and_eq_true, decide_eq_true_iff, decide_eq_true_iff] at this
    exact this
  · have := h c hc
    unfold figB
    rw [Bool.and_eq_true, decide_eq_true_iff, decide_eq_true_iff]
    exact this
theorem unm_cases (l : List Nat) : (∃ r, l = 45 :: r ∧ unm l = r ∧ l2n l = -((NumText.digitsVal r : Nat) : Int)) ∨ (unm l = l ∧ l2n l = ((NumText.digitsVal l : Nat) : Int) ∧ l.head? ≠ some 45) := by
  match l with
  | [] => exact .inr ⟨rfl, rfl, by simp⟩
  | c :: r =>
    by_cases h : c = 45
    · subst h; exact .inl ⟨r, rfl, rfl, rfl⟩
    · refine .inr ⟨?_, ?_, by simpa using h⟩
      · unfold unm; split
        · rename_i e; cases e; exact absurd rfl h
        · rfl
      · unfold l2n; split
        · rename_i e; cases e; exact absurd rfl h
        · rfl
theorem numB_cases {l : List Nat} (h : numB' l = true) : (∃ r, l = 45 :: r ∧ r.length ≤ 30 ∧ NumText.AllDigits r ∧ r ≠ [] ∧ r.head? ≠ some 48 ∧ l2n l = -((NumText.digitsVal r : Nat) : Int)) ∨
    (l.length ≤ 30 ∧ NumText.AllDigits l ∧ l ≠ [] ∧ (l.head? ≠ some 48 ∨ l = [48]) ∧ l2n l = ((NumText.digitsVal l : Nat) : Int)) := by
  unfold numB' at h
  rw [Bool.and_eq_true, Bool.or_eq_true, decide_eq_true_iff, decide_eq_true_iff, digB_iff] at h
  obtain ⟨⟨h1, h2, h3⟩, h4⟩ := h
  rcases unm_cases l with ⟨r, rfl, e1, e2⟩ | ⟨e1, e2, _⟩
  · rw [e1] at h1 h2 h3 h4
    refine .inl ⟨r, rfl, h2, h3, fun z => by rw [z] at h1; exact absurd h1 (by decide), ?_, e2⟩
    rcases h4 with h4 | h4
    · cases h4
    · exact h4
  · rw [e1] at h1 h2 h3 h4
    exact .inr ⟨h2, h3, fun z => by rw [z] at h1; exact absurd h1 (by decide), h4.symm, e2⟩
theorem tl_n2w_neg {v : Nat} (h : 1 ≤ v) : TL.tl (n2w (-(v : Int))) = 45 :: TL.numL v := by
  obtain ⟨k, rfl⟩ : ∃ k, v = k + 1 := ⟨v - 1, by omega⟩
  exact tl_neg k
theorem n2w_w2n {w : Str} (h : numW w = true) : n2w (w2n w) = w := by
  refine TL.ext_tl ?_
  unfold w2n
  rcases numB_cases h with ⟨r, e, _, hd, hn, hh, e2⟩ | ⟨_, hd, hn, hh, e2⟩
  · rw [e2, e, tl_n2w_neg (val_pos _ r rfl hd hn hh), val_back' _ r rfl hd hn (.inl hh)]
  · rw [e2, tl_pos, val_back' _ _ rfl hd hn hh]
theorem int_w2n {w : Str} (h : numW w = true) : intText? w = some (w2n w) ∧ w.length ≤ 31 := by
  unfold w2n
  rw [TL.len_tl]
  rcases numB_cases h with ⟨r, e, hl, hd, hn, hh, e2⟩ | ⟨hl, hd, hn, hh, e2⟩
  · have l31 : (TL.tl w).length ≤ 31 := by rw [e, List.length_cons]; omega
    refine ⟨?_, l31⟩
    rw [e2]
    exact intText_neg e hd hn (by rw [TL.len_tl]; omega)
  · refine ⟨?_, by omega⟩
    rw [e2]
    exact intText_digits hd hn (by rw [TL.len_tl]; omega)
theorem pow_le {l : List Nat} (h : l.length ≤ 30) : 10 ^ l.length ≤ 10 ^ 30 := Nat.pow_le_pow_right (by decide) h
theorem numOk_w2n {w : Str} (h : numW w = true) : numOk (w2n w) := by
  unfold w2n
  have e30 : ((10 : Int) ^ 30) = ((10 ^ 30 : Nat) : Int) := by decide +kernel
  unfold numOk
  rw [e30]
  rcases numB_cases h with ⟨r, e, hl, hd, hn, hh, e2⟩ | ⟨hl, hd, hn, hh, e2⟩
  · have := val_lt _ r rfl hd
    have := pow_le hl
    rw [e2]
    omega
  · have := val_lt _ _ rfl hd
    have := pow_le hl
    rw [e2]
    omega
theorem numW_n2w {i : Int} (h : numOk i) : numW (n2w i) = true := by
  have e30 : ((10 : Int) ^ 30) = ((10 ^ 30 : Nat) : Int) := by decide +kernel
  unfold numOk at h
  rw [e30] at h
  have key : ∀ n : Nat, n < 10 ^ 30 → digB (TL.numL n) = true := fun n hn => by
    refine digB_iff.mpr ⟨?_, TL.numL_len (by decide) hn, TL.numL_digits n⟩
    cases e : TL.numL n with
    | nil => exact absurd e (TL.numL_ne n)
    | cons a b => rw [List.length_cons]; omega
  unfold numW numB'
  rw [Bool.and_eq_true, Bool.or_eq_true, decide_eq_true_iff, decide_eq_true_iff]
  cases i with
  | ofNat n =>
    rw [show TL.tl (n2w (Int.ofNat n)) = _ from tl_pos n]
    have hn : n < 10 ^ 30 := by have := h.2; have e : (Int.ofNat n) = (n : Int) := rfl; omega
    have e1 : unm (TL.numL n) = TL.numL n := by
      rcases unm_cases (TL.numL n) with ⟨r, e, _⟩ | ⟨e, _⟩
      · exact absurd (show 45 ∈ TL.numL n by rw [e]; simp) (TL.numL_free (.inl (by decide)))
      · exact e
    rw [e1]
    refine ⟨key n hn, ?_⟩
    by_cases z : n = 0
    · subst z; exact .inl (by decide)
    · exact .inr (numL_head n (by omega))
  | negSucc n =>
    rw [tl_neg]
    have hn : n + 1 < 10 ^ 30 := by have := h.1; have e : (Int.negSucc n) = -((n : Int) + 1) := rfl; omega
    exact ⟨key (n + 1) hn, .inr (numL_head (n + 1) (by omega))⟩
theorem n2w_inj {i j : Int} (h : n2w i = n2w j) : i = j := by
  have h := congrArg TL.tl h
  have no : ∀ {n : Nat} {l : List Nat}, TL.numL n = 45 :: l → False := fun {n l} e => absurd (show 45 ∈ TL.numL n by rw [e]; simp) (TL.numL_free (.inl (by decide)))
  cases i with
  | ofNat a =>
    rw [show TL.tl (n2w (Int.ofNat a)) = _ from tl_pos a] at h
    cases j with
    | ofNat b =>
      rw [show TL.tl (n2w (Int.ofNat b)) = _ from tl_pos b] at h
      rw [TL.numL_inj h]
    | negSucc b => rw [tl_neg] at h; exact (no h).elim
  | negSucc a =>
    rw [tl_neg] at h
    cases j with
    | ofNat b =>
      rw [show TL.tl (n2w (Int.ofNat b)) = _ from tl_pos b] at h
      exact (no h.symm).elim
    | negSucc b =>
      rw [tl_neg] at h
      have := TL.numL_inj (List.cons.inj h).2
      have : a = b := by omega
      rw [this]
theorem w2n_n2w {i : Int} (h : numOk i) : w2n (n2w i) = i := n2w_inj (n2w_w2n (numW_n2w h))
theorem numW_first {w : Str} (h : numW w = true) : ∃ c r, TL.tl w = c :: r ∧ (c = 45 ∨ (48 ≤ c ∧ c ≤ 57)) := by
  rcases numB_cases h with ⟨r, e, _⟩ | ⟨_, hd, hn, _⟩
  · exact ⟨45, r, e, .inl rfl⟩
  · cases e : TL.tl w with
    | nil => exact absurd e hn
    | cons c r => exact ⟨c, r, rfl, .inr (hd c (by rw [e]; simp))⟩
/-! ### what is wanted next -/
inductive Wt where
  | mk | num | nums | sts
deriving DecidableEq
def kdSize (w : Str) : Option Nat := if w = "add" ∨ w = "times" ∨ w = "drop" ∨ w = "take" ∨ w = "each" ∨ w = "until" then some 1 else if w = "keep" then some 2 else if w = "unlike" then some 0 else none
def stepW : Wt → Str → Option (List Wt)
  | .mk, w => if w = "count" then some [.num, .num, .sts] else if w = "row" then some [.nums, .sts] else none
  | .num, w => if numW w = true then some [] else none
  | .nums, w => if w = ";" then some [] else if numW w = true then some [.nums] else none
  | .sts, w => if w = "both" ∨ w = "then" then some [.mk, .sts] else if w = "." then some [] else (kdSize w).map fun k => List.replicate k .num ++ [.sts]
/-- how many words may stand, where not all may, or more must come -/
def badW : List Wt → List Str → Option Nat
  | [], [] => none
  | _ :: _, [] => some 0
  | [], _ :: _ => some 0
  | t :: st, w :: ws => match stepW t w with
    | none => some 0
    | some more => (badW (more ++ st) ws).map (· + 1)
def placeW (ws : List Str) : Option Nat := badW [.mk] ws
theorem badW_step {t : Wt} {st more : List Wt} {w : Str} {ws : List Str} (h : stepW t w = some more) : badW (t :: st) (w :: ws) = (badW (more ++ st) ws).map (· + 1) := by
  show (match stepW t w with | none => some 0 | some more => (badW (more ++ st) ws).map (· + 1)) = _
  rw [h]
theorem badW_stop {t : Wt} {st : List Wt} {w : Str} {ws : List Str} (h : stepW t w = none) : badW (t :: st) (w :: ws) = some 0 := by
  show (match stepW t w with | none => some 0 | some more => (badW (more ++ st) ws).map (· + 1)) = _
  rw [h]
theorem map_add (o : Option Nat) (a b : Nat) : (o.map (· + a)).map (· + b) = o.map (· + (a + b)) := by cases o <;> simp [Nat.add_assoc]
theorem badW_le : ∀ (ws : List Str) (st : List Wt) (i : Nat), badW st ws = some i → i ≤ ws.length
  | [], [], i, h => by cases h
  | [], _ :: _, i, h => by cases h; exact Nat.le_refl _
  | _ :: _, [], i, h => by cases h; exact Nat.zero_le _
  | w :: ws, t :: st, i, h => by
    cases e : stepW t w with
    | none => rw [badW_stop e] at h; cases h; exact Nat.zero_le _
    | some more =>
      rw [badW_step e] at h
      cases e2 : badW (more ++ st) ws with
      | none => rw [e2] at h; cases h
      | some j =>
        rw [e2] at h
        cases h
        have := badW_le ws _ j e2
        rw [List.length_cons]
        show j + 1 ≤ _
        omega
/-! ### numbers within bounds of texts -/
def Mkr.num : Mkr → Prop
  | .count b s => numOk b ∧ numOk s
  | .row ns => ∀ n ∈ ns, numOk n
def Kd.num (k : Kd) : Prop := ∀ n ∈ k.nums, numOk n
def Ch.num : Ch → Prop
  | .mkr m => m.num
  | .st c k => c.num ∧ k.num
  | .both c o => c.num ∧ o.num
  | .thn c o => c.num ∧ o.num
def Sg.num : Sg → Prop
  | .one k => k.num
  | .both o => o.num
  | .thn o => o.num
theorem Ch.snoc_num {c : Ch} {g : Sg} : (c.snoc g).num ↔ c.num ∧ g.num := by cases g <;> exact Iff.rfl
theorem Ch.of_num : ∀ {gs : List Sg} {c : Ch}, (gs.foldl Ch.snoc c).num ↔ c.num ∧ ∀ g ∈ gs, g.num
  | [], c => by simp
  | g :: gs, c => by
    rw [List.foldl_cons, Ch.of_num, Ch.snoc_num]
    simp [and_assoc]
theorem Ch.num_sgs {c : Ch} (h : c.num) : c.root.num ∧ ∀ g ∈ c.sgs, g.num := by
  have e := Ch.of_sgs c
  rw [← e] at h
  exact Ch.of_num.mp h
theorem kd_size (k : Kd) : kdSize k.name = some k.nums.length := by cases k <;> (simp only [Kd.name, Kd.nums, List.length_cons, List.length_nil, Nat.zero_add, Nat.reduceAdd]; decide +kernel)
theorem kd_of {w : Str} {k : Nat} {ns : List Int} (h : kdSize w = some k) (hl : ns.length = k) : ∃ kd : Kd, kd.name = w ∧ kd.nums = ns := by
  unfold kdSize at h
  split at h
  · rename_i hw
    cases h
    obtain ⟨n, rfl⟩ : ∃ n, ns = [n] := List.length_eq_one_iff.mp hl
    rcases hw with rfl | rfl | rfl | rfl | rfl | rfl
    · exact ⟨.add n, rfl, rfl⟩
    · exact ⟨.times n, rfl, rfl⟩
    · exact ⟨.drop n, rfl, rfl⟩
    · exact ⟨.take n, rfl, rfl⟩
    · exact ⟨.each n, rfl, rfl⟩
    · exact ⟨.until n, rfl, rfl⟩
  · split at h
    · rename_i hw
      cases h
      obtain ⟨a, b, rfl⟩ : ∃ a b, ns = [a, b] := by
        match ns, hl with
        | [a, b], _ => exact ⟨a, b, rfl⟩
      exact ⟨.keep a b, hw.symm, rfl⟩
    · split at h
      · rename_i hw
        cases h
        rw [List.length_eq_zero_iff.mp hl]
        exact ⟨.unlike, hw.symm, rfl⟩
      · cases h
/-! ### a chain's words may stand -/
theorem bad_nums : ∀ {ns : List Int} {st : List Wt} {r : List Str}, (∀ n ∈ ns, numOk n) → badW (List.replicate ns.length .num ++ st) (ns.map n2w ++ r) = (badW st r).map (· + ns.length)
  | [], st, r, _ => by cases e : badW st r <;> simp [e]
  | n :: ns, st, r, h => by
    rw [List.length_cons, List.replicate_succ, List.map_cons, List.cons_append, List.cons_append, badW_step (more := []) (by show (if numW (n2w n) = true then _ else _) = _; rw [if_pos (numW_n2w (h n (by simp)))]), List.nil_append,
      bad_nums fun x hx => h x (by simp [hx]), map_add]
theorem n2w_ne {i : Int} (h : numOk i) {w : Str} (hw : numW w = false) : n2w i ≠ w := fun z => by rw [← z, numW_n2w h] at hw; cases hw
theorem bad_row : ∀ {ns : List Int} {st : List Wt} {r : List Str}, (∀ n ∈ ns, numOk n) → badW (.nums :: st) (ns.map n2w ++ ((";" : Str) :: r)) = (badW st r).map (· + (ns.length + 1))
  | [], st, r, _ => by rw [List.map_nil, List.nil_append, badW_step (more := []) (by decide +kernel)]; rfl
  | n :: ns, st, r, h => by
    have hn := h n (by simp)
    rw [List.map_cons, List.cons_append, badW_step (more := [.nums]) (by show (if n2w n = ";" then _ else if numW (n2w n) = true then _ else _) = _; rw [if_neg (n2w_ne hn (by decide +kernel)), if_pos (numW_n2w hn)]), List.singleton_append,
      bad_row fun x hx => h x (by simp [hx]), map_add, List.length_cons]
theorem bad_rowp : ∀ {ns : List Int} {st : List Wt} {r : List Str}, (∀ n ∈ ns, numOk n) → badW (.nums :: st) (ns.map n2w ++ r) = (badW (.nums :: st) r).map (· + ns.length)
  | [], st, r, _ => by rw [List.map_nil, List.nil_append]; cases e : badW (.nums :: st) r <;> simp
  | n :: ns, st, r, h => by
    have hn := h n (by simp)
    rw [List.map_cons, List.cons_append, badW_step (more := [.nums]) (by show (if n2w n = ";" then _ else if numW (n2w n) = true then _ else _) = _; rw [if_neg (n2w_ne hn (by decide +kernel)), if_pos (numW_n2w hn)]), List.singleton_append,
      bad_rowp fun x hx => h x (by simp [hx]), map_add, List.length_cons]
theorem bad_mk {m : Mkr} (h : m.num) (st : List Wt) (r : List Str) : badW (.mk :: st) (m.words ++ r) = (badW (.sts :: st) r).map (· + m.words.length) := by
  cases m with
  | count b s =>
    show badW (.mk :: st) (("count" : Str) :: ([b, s].map n2w ++ r)) = (badW (.sts :: st) r).map (· + 3)
    rw [badW_step (more := [.num, .num, .sts]) (by decide +kernel)]
    have := bad_nums (ns := [b, s]) (st := .sts :: st) (r := r) (fun n hn => by
      simp only [List.mem_cons, List.not_mem_nil, or_false] at hn
      rcases hn with rfl | rfl
      · exact h.1
      · exact h.2)
    rw [show ([.num, .num, .sts] ++ st : List Wt) = List.replicate [b, s].length .num ++ (.sts :: st) from rfl, this, map_add]
    rfl
  | row ns =>
    show badW (.mk :: st) (("row" : Str) :: ((ns.map n2w ++ [(";" : Str)]) ++ r)) = (badW (.sts :: st) r).map (· + (("row" : Str) :: (ns.map n2w ++ [(";" : Str)])).length)
    rw [badW_step (more := [.nums, .sts]) (by decide +kernel), List.append_assoc, List.singleton_append]
    rw [show ([.nums, .sts] ++ st : List Wt) = .nums :: (.sts :: st) from rfl, bad_row h, map_add]
    simp
theorem sts_kd (k : Kd) : stepW .sts k.name = some (List.replicate k.nums.length .num ++ [.sts]) := by cases k <;> (simp only [Kd.name, Kd.nums, List.length_cons, List.length_nil, Nat.zero_add, Nat.reduceAdd]; decide +kernel)
theorem bad_ws : ∀ {c : Ch}, c.num → ∀ (st : List Wt) (r : List Str), badW (.mk :: st) (c.ws ++ r) = (badW (.sts :: st) r).map (· + c.ws.length)
  | .mkr m, h, st, r => bad_mk (m := m) h st r
  | .st c k, h, st, r => by
    show badW (.mk :: st) ((c.ws ++ (k.name :: k.nums.map n2w)) ++ r) = _
    rw [List.append_assoc, bad_ws h.1, List.cons_append, badW_step (sts_kd k), List.append_assoc, bad_nums h.2, map_add, map_add]
    show (badW (.sts :: st) r).map _ = (badW (.sts :: st) r).map (· + (c.ws ++ (k.name :: k.nums.map n2w)).length)
    congr 1
    funext x
    rw [List.length_append, List.length_cons, List.length_map]
    omega
  | .both c o, h, st, r => by
    show badW (.mk :: st) ((c.ws ++ (("both" : Str) :: (o.ws ++ [(".":Str)]))) ++ r) = _
    rw [List.append_assoc, bad_ws h.1, List.cons_append, badW_step (more := [.mk, .sts]) (by decide +kernel), List.append_assoc]
    rw [show ([.mk, .sts] ++ (st) : List Wt) = .mk :: (.sts :: st) from rfl, bad_ws h.2, List.singleton_append, badW_step (more := []) (by decide +kernel), map_add, map_add, map_add]
    show (badW (.sts :: st) r).map _ = (badW (.sts :: st) r).map (· + (c.ws ++ (("both" : Str) :: (o.ws ++ [(".":Str)]))).length)
    congr 1
    funext x
    rw [List.length_append, List.length_cons, List.length_append, List.length_singleton]
    omega
  | .thn c o, h, st, r => by
    show badW (.mk :: st) ((c.ws ++ (("then" : Str) :: (o.ws ++ [(".":Str)]))) ++ r) = _
    rw [List.append_assoc, bad_ws h.1, List.cons_append, badW_step (more := [.mk, .sts]) (by decide +kernel), List.append_assoc]
    rw [show ([.mk, .sts] ++ (st) : List Wt) = .mk :: (.sts :: st) from rfl, bad_ws h.2, List.singleton_append, badW_step (more := []) (by decide +kernel), map_add, map_add, map_add]
    show (badW (.sts :: st) r).map _ = (badW (.sts :: st) r).map (· + (c.ws ++ (("then" : Str) :: (o.ws ++ [(".":Str)]))).length)
    congr 1
    funext x
    rw [List.length_append, List.length_cons, List.length_append, List.length_singleton]
    omega
theorem place_words {c : Ch} (h : c.num) : placeW c.words = none := by
  unfold placeW Ch.words
  rw [bad_ws h, badW_step (more := []) (by decide +kernel)]
  rfl
end Dc

set_option Elab.async false
set_option linter.all false
set_option maxRecDepth 100000
set_option maxHeartbeats 2000000
namespace Dc
open PySem PySem.Spec PyProof.Rows L2
/-! ### a chain's words are of it alone -/
def sgsW (gs : List Sg) : List Str := (gs.map Sg.ws).flatten
theorem sgsW_cons (g : Sg) (gs : List Sg) : sgsW (g :: gs) = g.ws ++ sgsW gs := by unfold sgsW; rw [List.map_cons, List.flatten_cons]
theorem sgsW_app (gs hs : List Sg) : sgsW (gs ++ hs) = sgsW gs ++ sgsW hs := by unfold sgsW; rw [List.map_append, List.flatten_append]
theorem fold_ws : ∀ (gs : List Sg) (c : Ch), (gs.foldl Ch.snoc c).ws = c.ws ++ sgsW gs
  | [], c => by rw [show sgsW [] = [] from rfl, List.append_nil]; rfl
  | g :: gs, c => by rw [List.foldl_cons, fold_ws gs, Ch.snoc_ws, sgsW_cons, List.append_assoc]
theorem of_ws (m : Mkr) (gs : List Sg) : (Ch.of m gs).ws = m.words ++ sgsW gs := fold_ws gs (.mkr m)
theorem ws_of (c : Ch) : c.ws = c.root.words ++ sgsW c.sgs := by rw [← of_ws, Ch.of_sgs]
theorem nums_inj : ∀ {ns ms : List Int} {r r' : List Str}, ns.length = ms.length → ns.map n2w ++ r = ms.map n2w ++ r' → ns = ms ∧ r = r'
  | [], [], _, _, _, h => ⟨rfl, h⟩
  | n :: ns, m :: ms, r, r', hl, h => by
    rw [List.map_cons, List.map_cons, List.cons_append, List.cons_append] at h
    obtain ⟨h1, h2⟩ := List.cons.inj h
    obtain ⟨e1, e2⟩ := nums_inj (by simpa using hl) h2
    exact ⟨by rw [n2w_inj h1, e1], e2⟩
  | [], _ :: _, _, _, hl, _ => by cases hl
  | _ :: _, [], _, _, hl, _ => by cases hl
theorem row_inj : ∀ {ns ms : List Int} {r r' : List Str}, (∀ n ∈ ns, numOk n) → (∀ n ∈ ms, numOk n) → ns.map n2w ++ ((";" : Str) :: r) = ms.map n2w ++ ((";" : Str) :: r') → ns = ms ∧ r = r'
  | [], [], _, _, _, _, h => ⟨rfl, (List.cons.inj h).2⟩
  | n :: ns, m :: ms, r, r', h1, h2, h => by
    rw [List.map_cons, List.map_cons, List.cons_append, List.cons_append] at h
    obtain ⟨q1, q2⟩ := List.cons.inj h
    obtain ⟨e1, e2⟩ := row_inj (fun x hx => h1 x (by simp [hx])) (fun x hx => h2 x (by simp [hx])) q2
    exact ⟨by rw [n2w_inj q1, e1], e2⟩
  | [], m :: ms, r, r', h1, h2, h => absurd (List.cons.inj h).1.symm (n2w_ne (h2 m (by simp)) (by decide +kernel))
  | n :: ns, [], r, r', h1, h2, h => absurd (List.cons.inj h).1 (n2w_ne (h1 n (by simp)) (by decide +kernel))
theorem cnt_row : ("count" : Str) ≠ "row" := by decide +kernel
theorem mk_inj {m m' : Mkr} (h : m.num) (h' : m'.num) {r r' : List Str} (e : m.words ++ r = m'.words ++ r') : m = m' ∧ r = r' := by
  cases m with
  | count b s =>
    cases m' with
    | count b' s' =>
      have e : ("count" : Str) :: ([b, s].map n2w ++ r) = ("count" : Str) :: ([b', s'].map n2w ++ r') := e
      obtain ⟨e1, e2⟩ := nums_inj (ns := [b, s]) (ms := [b', s']) rfl (List.cons.inj e).2
      cases e1
      exact ⟨rfl, e2⟩
    | row ns => exact absurd (List.cons.inj e).1 cnt_row
  | row ns =>
    cases m' with
    | count b s => exact absurd (List.cons.inj e).1.symm cnt_row
    | row ms =>
      have e : ("row" : Str) :: ((ns.map n2w ++ [(";" : Str)]) ++ r) = ("row" : Str) :: ((ms.map n2w ++ [(";" : Str)]) ++ r') := e
      rw [List.append_assoc, List.append_assoc] at e
      obtain ⟨e1, e2⟩ := row_inj h h' (List.cons.inj e).2
      exact ⟨by rw [e1], e2⟩
theorem kd_inj {k k' : Kd} (h1 : k.name = k'.name) (h2 : k.nums = k'.nums) : k = k' := by
  cases k <;> cases k' <;> first
    | (simp only [Kd.nums, List.cons.injEq, and_true] at h2; first | (subst h2; rfl) | (obtain ⟨rfl, rfl⟩ := h2; rfl) | exact absurd h1 (by simp only [Kd.name]; decide +kernel))
    | rfl
    | exact absurd h1 (by simp only [Kd.name]; decide +kernel)
theorem kd_not {k : Kd} : k.name ≠ "both" ∧ k.name ≠ "then" ∧ k.name ≠ "." ∧ k.name ≠ "" := by cases k <;> (simp only [Kd.name]; decide +kernel)
theorem bt_not : ("both" : Str) ≠ "then" ∧ ("both" : Str) ≠ "." ∧ ("then" : Str) ≠ "." := by decide +kernel
theorem sgs_inj : ∀ (n : Nat) {gs gs' : List Sg} {r r' : List Str}, (sgsW gs).length ≤ n → (∀ g ∈ gs, g.num) → (∀ g ∈ gs', g.num) → sgsW gs ++ ((".":Str) :: r) = sgsW gs' ++ ((".":Str) :: r') → gs = gs' ∧ r = r'
  | n, [], [], r, r', _, _, _, e => ⟨rfl, (List.cons.inj e).2⟩
  | n, [], g' :: gs', r, r', _, _, _, e => by
    rw [sgsW_cons] at e
    cases g' with
    | one k => exact absurd (List.cons.inj e).1.symm kd_not.2.2.1
    | both o => exact absurd (List.cons.inj e).1.symm bt_not.2.1
    | thn o => exact absurd (List.cons.inj e).1.symm bt_not.2.2
  | n, g :: gs, [], r, r', _, _, _, e => by
    rw [sgsW_cons] at e
    cases g with
    | one k => exact absurd (List.cons.inj e).1 kd_not.2.2.1
    | both o => exact absurd (List.cons.inj e).1 bt_not.2.1
    | thn o => exact absurd (List.cons.inj e).1 bt_not.2.2
  | n, g :: gs, g' :: gs', r, r', hn, h1, h2, e => by
    have rest : g = g' → sgsW gs ++ ((".":Str) :: r) = sgsW gs' ++ ((".":Str) :: r') → n ≠ 0 → (sgsW gs).length + 1 ≤ n → g :: gs = g' :: gs' ∧ r = r' := fun eg e nz hl => by
      obtain ⟨q1, q2⟩ := sgs_inj (n - 1) (by omega) (fun x hx => h1 x (by simp [hx])) (fun x hx => h2 x (by simp [hx])) e
      exact ⟨by rw [eg, q1], q2⟩
    have hg := h1 g (by simp)
    have hg' := h2 g' (by simp)
    rw [sgsW_cons, List.length_append] at hn
    rw [sgsW_cons, sgsW_cons, List.append_assoc, List.append_assoc] at e
    have inner : ∀ {o o' : Ch} {x x' : List Str}, o.num → o'.num → o.ws.length + 1 ≤ n → o.words ++ x = o'.words ++ x' → o = o' ∧ x = x' := fun {o o' x x'} ho ho' hl q => by
      unfold Ch.words at q
      rw [List.append_assoc, List.append_assoc, ws_of o, ws_of o', List.append_assoc, List.append_assoc] at q
      obtain ⟨m1, q⟩ := mk_inj (Ch.num_sgs ho).1 (Ch.num_sgs ho').1 q
      have lo : (sgsW o.sgs).length ≤ n - 1 := by rw [ws_of o, List.length_append] at hl; omega
      obtain ⟨m2, q⟩ := sgs_inj (n - 1) lo (Ch.num_sgs ho).2 (Ch.num_sgs ho').2 q
      exact ⟨by rw [← Ch.of_sgs o, ← Ch.of_sgs o', m1, m2], q⟩
    cases g with
    | one k =>
      have hw : (Sg.one k).ws.length = k.nums.length + 1 := by show (k.name :: k.nums.map n2w).length = _; simp
      cases g' with
      | one k' =>
        have e : k.name :: (k.nums.map n2w ++ (sgsW gs ++ ((".":Str) :: r))) = k'.name :: (k'.nums.map n2w ++ (sgsW gs' ++ ((".":Str) :: r'))) := e
        obtain ⟨q1, q2⟩ := List.cons.inj e
        have z := kd_size k
        rw [q1, kd_size k'] at z
        obtain ⟨q3, q4⟩ := nums_inj (Option.some.inj z).symm q2
        exact rest (by rw [kd_inj q1 q3]) q4 (by omega) (by omega)
      | both o => exact absurd (List.cons.inj e).1 kd_not.1
      | thn o => exact absurd (List.cons.inj e).1 kd_not.2.1
    | both o =>
      have hw : (Sg.both o).ws.length = o.ws.length + 2 := by show (("both" : Str) :: (o.ws ++ [(".":Str)])).length = _; simp
      cases g' with
      | one k => exact absurd (List.cons.inj e).1.symm kd_not.1
      | both o' =>
        obtain ⟨q1, q2⟩ := inner hg hg' (by omega) (List.cons.inj e).2
        exact rest (by rw [q1]) q2 (by omega) (by omega)
      | thn o' => exact absurd (List.cons.inj e).1 bt_not.1
    | thn o =>
      have hw : (Sg.thn o).ws.length = o.ws.length + 2 := by show (("then" : Str) :: (o.ws ++ [(".":Str)])).length = _; simp
      cases g' with
      | one k => exact absurd (List.cons.inj e).1.symm kd_not.2.1
      | both o' => exact absurd (List.cons.inj e).1.symm bt_not.1
      | thn o' =>
        obtain ⟨q1, q2⟩ := inner hg hg' (by omega) (List.cons.inj e).2
        exact rest (by rw [q1]) q2 (by omega) (by omega)
termination_by n gs => (n, gs.length)
theorem words_inj {c c' : Ch} (h : c.num) (h' : c'.num) (e : c.words = c'.words) : c = c' := by
  unfold Ch.words at e
  rw [ws_of c, ws_of c', List.append_assoc, List.append_assoc] at e
  obtain ⟨m1, q⟩ := mk_inj (Ch.num_sgs h).1 (Ch.num_sgs h').1 e
  obtain ⟨m2, _⟩ := sgs_inj _ (Nat.le_refl _) (Ch.num_sgs h).2 (Ch.num_sgs h').2 q
  rw [← Ch.of_sgs c, ← Ch.of_sgs c', m1, m2]
/-! ### how many makers so many words tell of -/
theorem ws_nm : ∀ c : Ch, 4 * c.nm ≤ c.ws.length + 2
  | .mkr m => by
    show 4 * 1 ≤ m.words.length + 2
    cases m with
    | count b s => show 4 ≤ 3 + 2; decide
    | row ns => show 4 * 1 ≤ (("row" : Str) :: (ns.map n2w ++ [(";" : Str)])).length + 2; simp
  | .st c k => by
    have := ws_nm c
    show 4 * c.nm ≤ (c.ws ++ (k.name :: k.nums.map n2w)).length + 2
    rw [List.length_append]; omega
  | .both c o => by
    have := ws_nm c
    have := ws_nm o
    show 4 * (c.nm + o.nm) ≤ (c.ws ++ (("both" : Str) :: (o.ws ++ [(".":Str)]))).length + 2
    rw [List.length_append, List.length_cons, List.length_append, List.length_singleton]; omega
  | .thn c o => by
    have := ws_nm c
    have := ws_nm o
    show 4 * (c.nm + o.nm) ≤ (c.ws ++ (("then" : Str) :: (o.ws ++ [(".":Str)]))).length + 2
    rw [List.length_append, List.length_cons, List.length_append, List.length_singleton]; omega
theorem ws_ns : ∀ c : Ch, c.ns ≤ c.ws.length
  | .mkr m => Nat.zero_le _
  | .st c k => by
    have := ws_ns c
    show c.ns + 1 ≤ (c.ws ++ (k.name :: k.nums.map n2w)).length
    rw [List.length_append, List.length_cons]; omega
  | .both c o => by
    have := ws_ns c
    have := ws_ns o
    show c.ns + o.ns + 1 ≤ (c.ws ++ (("both" : Str) :: (o.ws ++ [(".":Str)]))).length
    rw [List.length_append, List.length_cons, List.length_append, List.length_singleton]; omega
  | .thn c o => by
    have := ws_ns c
    have := ws_ns o
    show c.ns + o.ns + 1 ≤ (c.ws ++ (("then" : Str) :: (o.ws ++ [(".":Str)]))).length
    rw [List.length_append, List.length_cons, List.length_append, List.length_singleton]; omega
theorem words_nm (c : Ch) : 4 * c.nm ≤ c.words.length + 1 := by
  have := ws_nm c
  unfold Ch.words
  rw [List.length_append, List.length_singleton]; omega
theorem words_ns (c : Ch) : c.ns ≤ c.words.length := by
  have := ws_ns c
  unfold Ch.words
  rw [List.length_append]; omega
theorem ok_num : ∀ {c : Ch}, c.ok → c.num
  | .mkr m, h => by
    cases m with
    | count b s => exact h
    | row ns => exact h.2
  | .st c k, h => ⟨ok_num h.1, Kd.nums_ok h.2⟩
  | .both c o, h => ⟨ok_num h.1, ok_num h.2⟩
  | .thn c o, h => ⟨ok_num h.1, ok_num h.2⟩
end Dc

set_option Elab.async false
set_option linter.all false
set_option maxRecDepth 100000
set_option maxHeartbeats 2000000
namespace Dc
open PySem PySem.Spec PyProof.Rows L2
local macro_rules | `(tactic| walk_at "ne") => `(tactic| first | assumption | (refine Ne.symm ?_; assumption) | exact ne_of (by assumption) (by assumption) (by intro q; cases q) | exact ne_of_none (by assumption) (by assumption) | exact Ne.symm (ne_of_none (by assumption) (by assumption)))
local macro_rules | `(tactic| walk_at "hp") => `(tactic| first | assumption | exact upd_same | (refine upd_keep ?_ (by assumption); walk_at "hp") | (refine upd_other ?_ ?_; · walk_at "ne"; · walk_at "hp"))
local macro_rules | `(tactic| walk_at "hl") => `(tactic| first | assumption | exact SqL.of (by walk_at "hp"))
local macro_rules | `(tactic| walk_at "ht") => `(tactic| first | assumption | exact SqT.of (by walk_at "hp"))
local macro_rules | `(tactic| walk_at "rd1") => `(tactic| first
  | ((with_reducible apply rd_var); exact rfl)
  | ((with_reducible apply rd_eq); exact rfl) | ((with_reducible apply rd_ne); exact rfl)
  | with_reducible first
  | refine iteT ?_ | refine iteF ?_ | refine rd_nF ?_ | refine rd_nT ?_ | refine rd_yes ?_ | refine rd_c ?_ | refine rd_op ?_ | refine rd_un ?_ | refine rd_test ?_ | refine rd_B ?_ | refine rd_bl ?_ | refine rd_seq ?_ | refine rd_next ?_ | refine rd_ifs ?_ | refine rd_asg ?_ | refine rd_name ?_ | refine rd_ret ?_ | refine rd_drop ?_
  | refine rd_call ?_ | refine rd_cons ?_ | refine rd_nil ?_ | refine rd_cb ?_ | refine rd_I0 ?_ | refine rd_U ?_ | refine rd_gsub ?_ | refine rd_lst ?_ | refine rd_tup ?_ | refine rd_if ?_ | refine rd_not ?_ | refine rd_rng1 ?_ | refine rd_itup ?_ | refine rd_ilst ?_ | refine rd_bm ?_ | refine rd_bm0 ?_ | refine rd_andV ?_ | refine rd_orV ?_ | refine rd_notV ?_)
local macro_rules | `(tactic| walk_at "rd") => `(tactic| repeat walk_at "rd1")
local macro_rules | `(tactic| walk_at "ci") => `(tactic| first | assumption | (show (0 : Int) < _; first | decide | omega) | exact ⟨by decide, by decide⟩ | exact Or.inr ⟨by decide, by decide⟩ | exact Or.inl ⟨by decide, by decide⟩ | exact ⟨by decide, by decide, by decide⟩ | exact Or.inl ⟨by omega, by omega⟩ | exact Or.inr ⟨by omega, by omega⟩)
local macro_rules | `(tactic| walk_at "ix") => `(tactic| first
  | ((with_reducible apply rd_ixL); (walk_at "hl"); exact rfl)
  | ((with_reducible apply rd_ixT); (walk_at "ht"); exact rfl)
  | ((with_reducible apply rd_lenL); (walk_at "hl"))
  | ((with_reducible apply rd_lenT); (walk_at "ht"))
  | ((with_reducible apply rd_tupOf); (walk_at "hl"))
  | ((with_reducible apply rd_listOf); (walk_at "hl"))
  | (with_reducible refine rd_min2 ?_)
  | ((with_reducible apply rd_I); (walk_at "ci"))
  | ((with_reducible apply rd_setL); (walk_at "hp"); exact rfl))
local macro_rules | `(tactic| walk_at "gs") => `(tactic| repeat first | walk_at "rd1" | walk_at "ix")
local macro_rules | `(tactic| walk_at "go") => `(tactic| repeat first | walk_at "rd1" | walk_at "ix" | with_reducible refine rd_and ?_ | with_reducible refine rd_or ?_)
local macro_rules | `(tactic| walk_at "fo") => `(tactic| (with_reducible refine rd_for ?_))
local macro_rules | `(tactic| walk_at "pm") => `(tactic| repeat first
  | with_reducible first | refine rd_pcons ?_ | refine rd_pstr ?_ | refine rd_pcap ?_ | refine rd_pwild ?_ | refine rd_pnil ?_ | refine rd_por ?_ | refine rd_pno ?_
  | ((with_reducible refine rd_eq rfl ?_); refine ⟨_, rfl, ?_⟩; first | refine rd_T rfl ?_ | refine rd_F (by decide) ?_)
  | dsimp only [List.nil_append, List.singleton_append, List.cons_append, setAll])
local macro_rules | `(tactic| walk_at "pc") => `(tactic| (refine rd_case ?_); (first | (refine rd_phit (SqT.of (by assumption)) rfl ?_) | (refine rd_pmiss (SqT.of (by assumption)) (by simp) ?_)); (walk_at "pm"))

/-! ### BadText, made and raised -/
def spBT (bt : Addr) : Sp := fun vs H Q _ => ∃ (a : Addr) (i : Int), vs = [.ref a, .int i] ∧ i.natAbs < 2 ^ 60 ∧ H a = some (exo a bt none) ∧ ∀ dx, H dx = none → dx ≠ a → Q .non (upd (upd H dx (exd dx [("place", .int i)])) a (exo a bt (some dx)))
/-- at whose place it says so -/
def btFs (i : Int) : List (Str × V) := [("place", .int i)]
def BtE (bt : Addr) (i : Int) (S : List Addr) (H : Hp) (E : XK) : Prop := ∀ dx H', H' dx = some (.xd (btFs i)) → Fr S H H' → E (.ref bt) (some dx) H'
theorem BtE.mono {bt : Addr} {i : Int} {S : List Addr} {H H1 : Hp} {E : XK} (h : BtE bt i S H E) (f : Fr S H H1) : BtE bt i S H1 E := fun dx H' e f' => h dx H' e (f.tr f')
structure BtF (K : PySem.W.Frag) (mg : Str → Option Value) (bt fI : Addr) : Prop where
  oex : OexC K bt
  init : PySem.W.findIn K (.ref bt) "__init__" = some (some (.ref fI))
  ty : PySem.W.typeIn K (.ref fI) = some (.type "function")
  g : mg "BadText" = some (.ref bt)
  no : PySem.W.findIn K (.ref bt) "place" = some none
section
variable {P : Program} {w : World} {K : PySem.W.Frag} {mg : Str → Option Value} {base : Heap} {bt f : Addr} {fd : FuncData}
theorem sc_BadText___init__ : SupScope ["self", "place"] ["self", "place"] (defScope s_BadText___init__) := ⟨rfl, rfl, rfl, by decide +kernel, rfl, by decide +kernel, by decide +kernel, by decide +kernel, rfl, rfl⟩
theorem ok_BadText (B : BtF K mg bt f) (S : SupTxtX P K mg "__init__" "BadText.__init__" (defArgs s_BadText___init__) (defBody s_BadText___init__) (defScope s_BadText___init__) bt f fd) : FnOk P w K mg base CX0 1 f fd ["self", "place"] (spBT bt) := by
  refine fn_superX S sc_BadText___init__ rfl rfl (fun vs H Q E h => ?_) (fun cda cc A outer s H vs Q E hr h => ?_) (fun _ => rfl) (fun _ => rfl) (fun _ => rfl) (fun _ => rfl)
  · obtain ⟨a, i, rfl, _⟩ := h
    rfl
  obtain ⟨a, i, rfl, hi, e, k⟩ := h
  refine ⟨a, _, _, pa_cons (pe_joined (.cons pe_str (.cons (pe_fmt (pv 1)) (.cons pe_str .nil)))) pa_nil, pss_one (ps_ost (pv 0) (pv 1)), rfl, e, ?_⟩
  try dsimp only [cxS]
  have hn : numOk i := ⟨by have : (2:Nat) ^ 60 < 10 ^ 30 := by decide
                           omega, by have : (2:Nat) ^ 60 < 10 ^ 30 := by decide
                                     omega⟩
  have hlen := n2w_len hn
  have la : ∀ x y : Str, (x ++ y).length = x.length + y.length := fun x y => by rw [TL.len_tl, TL.len_tl, TL.len_tl, TL.tl_append, List.length_append]
  refine rd_cons ?_
  refine ⟨_, rfl, by decide +kernel, ?_⟩
  refine ⟨.int i, rfl, .inr ⟨i, rfl, num_log hn, ?_⟩⟩
  refine ⟨n2w i, rfl, ?_, ?_⟩
  · rw [la]
    have : (Str.empty ++ Str.ofString "no chain can be read from word ").length = 31 := by decide +kernel
    rw [this]
    exact Nat.le_trans (show 31 + (n2w i).length ≤ 62 by omega) (by decide)
  refine ⟨_, rfl, ?_, ?_⟩
  · rw [la, la]
    have h1 : (Str.empty ++ Str.ofString "no chain can be read from word ").length = 31 := by decide +kernel
    have h2 : (Str.ofString " on").length = 3 := by decide +kernel
    rw [h1, h2]
    exact Nat.le_trans (show 31 + (n2w i).length + 3 ≤ 65 by omega) (by decide)
  refine ⟨by show 1 ≤ 1000; decide, e, ?_⟩
  refine ⟨.int i, rfl, .ref a, rfl, a, bt, rfl, B.oex, B.no, .inl ⟨e, fun dx n ne => ?_⟩⟩
  exact k dx n ne
theorem pmk_bt {X : Cx} {p pos : Pos} {e : Expr} {ta : TE} (B : BtF X.K X.mg bt f) (F : FnOk X.prog X.w X.K X.mg X.base CX0 1 f fd ["self", "place"] (spBT bt)) (hb : L2.Binds X.K fd ["self", "place"] []) (hr : Room 2 X.A) (ha : PE X e ta) (hg : Gl X "BadText" := by rfl)
    (he : starEach [e] X.env = (false, eval e X.env) :: starEach [] X.env := by rfl) (hpl : (backTo pos (starEach [] X.env)).any (·.1) = false := by rfl) :
    PMk X (.Call (.Name "BadText" p) [e] [] pos) (tMkO bt (spBT bt) [] (tCons ta tNil)) :=
  pmk_oex (CX := CX0) (k := 1) (fd := fd) (ds := []) (dvs := []) B.oex B.init B.ty F hr hb .nil pass0 hg B.g (pa_cons ha pa_nil he) (by decide) he hpl
end
def MkBt (bt : Addr) (vs : List V) (H1 : Hp) (Q : XK) : Prop := vs.length ≤ 1000 ∧ ∀ a, H1 a = none → spBT bt (.ref a :: (vs ++ [])) (upd H1 a (exo a bt none))
  (fun v H2 => v = .non ∧ ∃ (d : Addr) (fs : List (Str × V)), H2 a = some (exo a bt (some d)) ∧ H2 d = some (exd d fs) ∧ H1 d = none ∧ Q (.ref bt) (some d) (upd (del H2 a) d (.xd fs))) (fun _ _ _ => False)
theorem rd_mko {bt : Addr} {tl : TA} {σ : L2.St} {H : Hp} {Q : XK} (h : tl σ H fun vs H1 => MkBt bt vs H1 Q) : tMkO bt (spBT bt) [] tl σ H Q := h
theorem mkbt {bt : Addr} {i : Int} {S : List Addr} {H1 : Hp} {Q : XK} (hi : i.natAbs < 2 ^ 60) (h : BtE bt i S H1 Q) : MkBt bt [.int i] H1 Q := by
  refine ⟨by show 1 ≤ 1000; decide, fun a ha => ⟨a, i, rfl, hi, upd_same, fun dx n ne => ⟨rfl, dx, btFs i, upd_same, upd_other ne upd_same, ?_, h dx _ upd_same ?_⟩⟩⟩
  · rw [upd_ne ne] at n; exact n
  · rw [upd_ne ne] at n
    intro b o e _
    rw [upd_ne (ne_of_none e n), del_ne (ne_of_none e ha), upd_ne (ne_of_none e ha), upd_ne (ne_of_none e n), upd_ne (ne_of_none e ha)]
    exact e
/-- the class, to be called by a raise -/
structure BtC (P : Program) (w : World) (K : PySem.W.Frag) (mg : Str → Option Value) (base : Heap) (bt : Addr) : Prop where
  ex : ∃ (f : Addr) (fd : FuncData), BtF K mg bt f ∧ FnOk P w K mg base CX0 1 f fd ["self", "place"] (spBT bt) ∧ L2.Binds K fd ["self", "place"] []
theorem ps_bt {X : Cx} {bt : Addr} {W : WX} {p pos pos' : Pos} {e : Expr} {ta : TE} (hc : X.calm = true) (tk : Takes X W) (B : BtC X.prog X.w X.K X.mg X.base bt) (hr : Room 2 X.A) (ha : PE X e ta) (hg : Gl X "BadText" := by rfl)
    (he : starEach [e] X.env = (false, eval e X.env) :: starEach [] X.env := by rfl) (hpl : (backTo pos (starEach [] X.env)).any (·.1) = false := by rfl) :
    PS X (.Raise (some (.Call (.Name "BadText" p) [e] [] pos)) none pos') (fun _ σ H => tMkO bt (spBT bt) [] (tCons ta tNil) σ H fun cls d H' => W cls d σ H') := by
  obtain ⟨f, fd, b, F, hb⟩ := B.ex
  exact ps_raise hc tk (pmk_bt b F hb hr ha hg he hpl)
end Dc

set_option Elab.async false
set_option linter.all false
set_option maxRecDepth 100000
set_option maxHeartbeats 2000000
namespace Dc
open PySem PySem.Spec PyProof.Rows L2
local macro_rules | `(tactic| walk_at "ne") => `(tactic| first | assumption | (refine Ne.symm ?_; assumption) | exact ne_of (by assumption) (by assumption) (by intro q; cases q) | exact ne_of_none (by assumption) (by assumption) | exact Ne.symm (ne_of_none (by assumption) (by assumption)))
local macro_rules | `(tactic| walk_at "hp") => `(tactic| first | assumption | exact upd_same | (refine upd_keep ?_ (by assumption); walk_at "hp") | (refine upd_other ?_ ?_; · walk_at "ne"; · walk_at "hp"))
local macro_rules | `(tactic| walk_at "hl") => `(tactic| first | assumption | exact SqL.of (by walk_at "hp"))
local macro_rules | `(tactic| walk_at "ht") => `(tactic| first | assumption | exact SqT.of (by walk_at "hp"))
local macro_rules | `(tactic| walk_at "rd1") => `(tactic| first
  | ((with_reducible apply rd_var); exact rfl)
  | ((with_reducible apply rd_eq); exact rfl) | ((with_reducible apply rd_ne); exact rfl)
  | with_reducible first
  | refine iteT ?_ | refine iteF ?_ | refine rd_nF ?_ | refine rd_nT ?_ | refine rd_yes ?_ | refine rd_c ?_ | refine rd_op ?_ | refine rd_un ?_ | refine rd_test ?_ | refine rd_B ?_ | refine rd_bl ?_ | refine rd_seq ?_ | refine rd_next ?_ | refine rd_ifs ?_ | refine rd_asg ?_ | refine rd_name ?_ | refine rd_ret ?_ | refine rd_drop ?_
  | refine rd_call ?_ | refine rd_cons ?_ | refine rd_nil ?_ | refine rd_cb ?_ | refine rd_I0 ?_ | refine rd_U ?_ | refine rd_gsub ?_ | refine rd_lst ?_ | refine rd_tup ?_ | refine rd_if ?_ | refine rd_not ?_ | refine rd_rng1 ?_ | refine rd_itup ?_ | refine rd_ilst ?_ | refine rd_bm ?_ | refine rd_bm0 ?_ | refine rd_andV ?_ | refine rd_orV ?_ | refine rd_notV ?_)
local macro_rules | `(tactic| walk_at "rd") => `(tactic| repeat walk_at "rd1")
local macro_rules | `(tactic| walk_at "ci") => `(tactic| first | assumption | (show (0 : Int) < _; first | decide | omega) | exact ⟨by decide, by decide⟩ | exact Or.inr ⟨by decide, by decide⟩ | exact Or.inl ⟨by decide, by decide⟩ | exact ⟨by decide, by decide, by decide⟩ | exact Or.inl ⟨by omega, by omega⟩ | exact Or.inr ⟨by omega, by omega⟩)
local macro_rules | `(tactic| walk_at "ix") => `(tactic| first
  | ((with_reducible apply rd_ixL); (walk_at "hl"); exact rfl)
  | ((with_reducible apply rd_ixT); (walk_at "ht"); exact rfl)
  | ((with_reducible apply rd_lenL); (walk_at "hl"))
  | ((with_reducible apply rd_lenT); (walk_at "ht"))
  | ((with_reducible apply rd_tupOf); (walk_at "hl"))
  | ((with_reducible apply rd_listOf); (walk_at "hl"))
  | (with_reducible refine rd_min2 ?_)
  | ((with_reducible apply rd_I); (walk_at "ci"))
  | ((with_reducible apply rd_setL); (walk_at "hp"); exact rfl))
local macro_rules | `(tactic| walk_at "gs") => `(tactic| repeat first | walk_at "rd1" | walk_at "ix")
local macro_rules | `(tactic| walk_at "go") => `(tactic| repeat first | walk_at "rd1" | walk_at "ix" | with_reducible refine rd_and ?_ | with_reducible refine rd_or ?_)
local macro_rules | `(tactic| walk_at "fo") => `(tactic| (with_reducible refine rd_for ?_))
local macro_rules | `(tactic| walk_at "pm") => `(tactic| repeat first
  | with_reducible first | refine rd_pcons ?_ | refine rd_pstr ?_ | refine rd_pcap ?_ | refine rd_pwild ?_ | refine rd_pnil ?_ | refine rd_por ?_ | refine rd_pno ?_
  | ((with_reducible refine rd_eq rfl ?_); refine ⟨_, rfl, ?_⟩; first | refine rd_T rfl ?_ | refine rd_F (by decide) ?_)
  | dsimp only [List.nil_append, List.singleton_append, List.cons_append, setAll])
local macro_rules | `(tactic| walk_at "pc") => `(tactic| (refine rd_case ?_); (first | (refine rd_phit (SqT.of (by assumption)) rfl ?_) | (refine rd_pmiss (SqT.of (by assumption)) (by simp) ?_)); (walk_at "pm"))

/-! list.count of a list of truth values -/
theorem bools_of : ∀ {bs : List Bool} {us : List Value}, Vals (bs.map V.bl) us → us = bs.map Value.bool
  | [], _, .nil => rfl
  | b :: bs, _, .cons r t => by
    have e := bools_of t
    cases r
    rw [e]
    rfl
def rCntB (K : PySem.W.Frag) : V → List V → Hp → VK → Prop := fun x xs H Q => ∃ (p : Addr) (bs : List Bool) (k : Bool), x = .ref p ∧ xs = [.bl k] ∧ SqL K H p (bs.map V.bl) ∧ Q (.int (bs.count k : Nat)) H
theorem cntB (k : Bool) : ∀ bs : List Bool, (bs.map Value.bool).countP (PyProof.Rows.isBoolOf k) = bs.count k
  | [] => rfl
  | b :: bs => by
    rw [List.map_cons, List.countP_cons, List.count_cons, cntB k bs]
    rfl
theorem mt_countB {X : Cx} : MtR X "list.count" (rCntB X.K) := by
  intro pins s σ H x xs v us Q I rx rxs h
  obtain ⟨p, bs, k, rfl, rfl, hs, q⟩ := h
  cases rx
  obtain ⟨u, rfl, ru⟩ := rxs.one
  cases ru
  obtain ⟨its, rv, ⟨⟨cls, dd, data, sl⟩, n, ho, hc, hdn, hd⟩, hlen⟩ := I.list hs
  simp only at hc hd
  subst hc hd
  have hi := bools_of rv
  refine call_meets PySem.F.slot_list_count ⟨_, ho, rfl⟩ PySem.F.entry_list_count (PySem.F.args_list_count_2 _ _)
    (SeqAt.list_countAt p its.toArray n dd sl (.bool k) (PyProof.Rows.isBoolOf k)) ⟨ho, fun y hy => ?_, ?_⟩
  · have hy : y ∈ its := by simpa using hy
    rw [hi] at hy
    obtain ⟨b, _, rfl⟩ := List.mem_map.mp hy
    exact PySem.SeqAt.EqAt.bool_bool b k
  · have ec : its.toArray.toList.countP (PyProof.Rows.isBoolOf k) = bs.count k := by
      show its.countP _ = _
      rw [hi]
      exact cntB k bs
    refine ⟨.int (bs.count k : Nat), H, I.tok _, ⟨s.toks, ?_⟩, q⟩
    show Value.int ((its.toArray.toList.countP (PyProof.Rows.isBoolOf k) : Nat) : Int) s.toks = Value.int ((bs.count k : Nat) : Int) s.toks
    rw [ec]
theorem pe_dead {X : Cx} {e : Expr} : PE X e (fun _ _ _ => False) := ⟨fun _ _ _ _ _ _ h => h.elim⟩
/-! the refusals, where they stand -/
structure KJ where (de bc bm nw bt : Addr)
structure KB (mg : Str → Option Value) (J : KJ) : Prop where
  de : mg "DrawError" = some (.ref J.de)
  bc : mg "BadChain" = some (.ref J.bc)
  bm : mg "BadMany" = some (.ref J.bm)
  nw : mg "NoWhole" = some (.ref J.nw)
  bt : mg "BadText" = some (.ref J.bt)
  ve : mg "ValueError" = none
/-- D is the refusal i: 0 BadChain, 1 BadMany, 2 NoWhole -/
structure KOne (K : PySem.W.Frag) (J : KJ) (D : Addr) (i : Nat) : Prop where
  ex : ExcC K D
  de : PySem.W.exmOne K (.ref D) (.ref J.de) = some true
  bc : PySem.W.kitOne K (.ref D) (.ref J.bc) = some (decide (i = 0))
  bm : PySem.W.kitOne K (.ref D) (.ref J.bm) = some (decide (i = 1))
  nw : PySem.W.kitOne K (.ref D) (.ref J.nw) = some (decide (i = 2))
  bt : PySem.W.kitOne K (.ref D) (.ref J.bt) = some (decide (i = 3))
  ve : PySem.W.kitOne K (.ref D) (.type "ValueError") = some true
  lt : i = 0 ∨ i = 3
/-- what is told then -/
def KRes (K : PySem.W.Frag) (D0 : Addr) (i : Nat) (d : Option Addr) (H : Hp) (R : VK) : Prop :=
  (i = 0 ∧ d = none ∧ ∀ H'', Fr [] H H'' → R (.str "BadChain") H'') ∨
  (i = 3 ∧ ∃ (dx : Addr) (p : Int), d = some dx ∧ H dx = some (.xd (btFs p)) ∧ XfC K D0 ∧ PySem.W.findIn K (.ref D0) "place" = some none ∧ ∀ H'' t, H'' t = some (.tup [.str "BadText", .int p]) → Fr [] H H'' → R (.ref t) H'')
/-- told by _law_kind: what the work tells, or the word of its refusal, of BadText with its place -/
def TTk (K : PySem.W.Frag) (J : KJ) : (XK → Hp → VK → Prop) → Hp → VK → Prop := fun tl H Q =>
  tl (fun cls d H' => ∃ D i, cls = .ref D ∧ KOne K J D i ∧ KRes K D i d H' Q) H Q
theorem sc__law_kind : FnScope ["_law_work", "e", "_law_kinds", "_law_word"] ["_law_work"] (defScope s__law_kind) := ⟨rfl, rfl, rfl, by decide +kernel, rfl, by decide +kernel, by decide +kernel⟩
theorem takesLen {X : Cx} {W W' : WX} (t : Takes X W) (h : ∀ c d σ H, σ.length = X.N.length → W' c d σ H → W c d σ H) : Takes X W' := fun u s' ⟨a, B, sI, pins, σ, H, cls, d, e, I, nb, up, sky, na, os, ag, w⟩ =>
  t u s' ⟨a, B, sI, pins, σ, H, cls, d, e, I, nb, up, sky, na, os, ag, h _ _ _ _ I.len w⟩
section
variable {J : KJ}
theorem kind_gives {X : Cx} {g : Addr} {cdg : Value} {q : Str} (T : Txt X.K X.mg) (B : KB X.mg J) : LamX.GivesTo X ["_law_work", "e", "_law_kinds", "_law_word"] "_law_kind" (defScope s__law_kind) g cdg (defBody s__law_kind) "_law_work" q (TTk X.K J) := by
  intro f c' s H Q tl act hc h
  refine ⟨_, pss_one (ps_try_as (i := 1) (c := .ref J.de) (tb := fun W D σ H => ∃ Ech : XK, (∀ cls d σ' H', σ'.length = 4 → Ech cls d H' → W cls d σ' H') ∧ σ[0]? = some (some (.ref f)) ∧ H c' = some (LamX.CodeO c' q) ∧ tl Ech H D.rt)
    (ts := fun a cls d D σ H => ∃ D0 i, cls = .ref D0 ∧ KOne X.K J D0 i ∧ σ.length = 4 ∧ σ[1]? = some (some (.ref a)) ∧ KRes X.K D0 i d H D.rt) (Wout := fun _ _ _ _ => False) rfl rfl sc__law_kind.nd rfl rfl ⟨rfl, by decide, .inl B.de⟩ LamX.takes0 (fun W pn xe tk _ => ?_) (fun a oe cls d pn hz hf => ?_)), ?_⟩
  · refine ⟨fun pins s' σ H' D I h' => ?_⟩
    obtain ⟨Ech, hW, h1, h2, h3⟩ := h'
    exact PSs.run (pss_one (ps_ret (act (fun cls d _ H' => Ech cls d H') pn xe Ech _ _ (takesLen tk fun c d σ H hl e => hW c d σ H hl e) (fun _ _ _ _ e => e)))) pins s' σ H' D I ⟨h1, h2, h3⟩
  · refine ⟨fun pins s' σ H' D I h' => ?_⟩
    obtain ⟨D0, i, rfl, hk, hl, h1, h2⟩ := h'
    have hE := hk.ex
    let K := X.K
    obtain ⟨x0, x1, x2, x3, rfl⟩ : ∃ x0 x1 x2 x3, σ = [x0, x1, x2, x3] := by
      match σ, hl with
      | [x0, x1, x2, x3], _ => exact ⟨_, _, _, _, rfl⟩
    obtain rfl : x1 = some (.ref a) := Option.some.inj h1
    rcases h2 with ⟨rfl, rfl, h2⟩ | ⟨rfl, dx, p0, rfl, ed, hX, hno, h2⟩
    · refine PSs.run (X := (cxOf C8.CX0 X.prog X.w X.K X.mg X.base ["_law_work", "e", "_law_kinds", "_law_word"] "_law_kind" (defScope s__law_kind) g cdg X.A X.stack s H C8.E0).nox.suite a ((a, oe) :: pn)) ((pss_cons (ps_set (i := 2) sc__law_kind.nd rfl (Or.inl rfl) (pe_lst (pa_cons (pe_callB (call_isE hE hz hf) (by rfl) T.free_isinstance (by decide +kernel) (pa_cons (pv 1) (pa_cons (pe_glob (v := .ref J.bc) (by rfl) B.bc rfl) pa_nil))) (pa_cons (pe_callB (call_isE hE hz hf) (by rfl) T.free_isinstance (by decide +kernel) (pa_cons (pv 1) (pa_cons (pe_glob (v := .ref J.bm) (by rfl) B.bm rfl) pa_nil))) (pa_cons (pe_callB (call_isE hE hz hf) (by rfl) T.free_isinstance (by decide +kernel) (pa_cons (pv 1) (pa_cons (pe_glob (v := .ref J.nw) (by rfl) B.nw rfl) pa_nil))) (pa_cons (pe_callB (call_isE hE hz hf) (by rfl) T.free_isinstance (by decide +kernel) (pa_cons (pv 1) (pa_cons (pe_glob (v := .ref J.bt) (by rfl) B.bt rfl) pa_nil))) pa_nil))))))
  (pss_cons (ps_if (PW.pt (pw_or (pt_cmpR op_ne (pe_bm PySem.F.plainAttrs_list PySem.F.slot_list_count PySem.F.type_list_count mt_countB (pv 2) (pa_cons pe_bl pa_nil)) pe_int (nomark _)) (pw_or1 (pt_not (pt_val (pe_callB (call_isE hE hz hf) (by rfl) T.free_isinstance (by decide +kernel) (pa_cons (pv 1) (pa_cons (pe_bltn (v := .ty "ValueError") (u := .type "ValueError") (by rfl) B.ve (by decide +kernel) rfl) pa_nil))))))))
    (pss_one (ps_ret pe_str)) pss_nil)
  (pss_cons (ps_set (i := 3) sc__law_kind.nd rfl (Or.inl rfl) (pe_ix (ix_listK K) (pe_lst (pa_cons pe_str (pa_cons pe_str (pa_cons pe_str (pa_cons pe_str pa_nil))))) (pe_bm PySem.F.plainAttrs_list PySem.F.slot_list_index PySem.F.type_list_index mt_index (pv 2) (pa_cons pe_bl pa_nil)) (fun _ _ => rfl)))
  (pss_one (ps_ret (pe_ifExp (pt_cmpR op_eq (pv 3) pe_str (nomark _)) (pe_tup (pa_cons (pv 3) (pa_cons pe_dead pa_nil))) (pv 3)))))))) pins s' _ H' D I ?_
      try dsimp only [cxOf, Cx.nox, Cx.wish]
      refine rd_seq ?_
      refine rd_asg ?_
      walk_at "go"
      refine ⟨_, _, _, rfl, (fun u r => r), hk.bc, ?_⟩
      walk_at "go"
      refine ⟨_, _, _, rfl, (fun u r => r), hk.bm, ?_⟩
      walk_at "go"
      refine ⟨_, _, _, rfl, (fun u r => r), hk.nw, ?_⟩
      walk_at "go"
      refine ⟨_, _, _, rfl, (fun u r => r), hk.bt, ?_⟩
      walk_at "go"
      refine ⟨by show (4 : Nat) ≤ _; decide, fun p np => ?_⟩
      dsimp only [gName, List.set]
      refine rd_seq ?_
      refine rd_ifs ?_
      walk_at "go"
      have ft : Fr [] H' (upd H' p (HO.lst [V.bl (decide (0 = 0)), V.bl (decide (0 = 1)), V.bl (decide (0 = 2)), V.bl (decide (0 = 3))])) := Fr.new np
      have hp : upd H' p (HO.lst [V.bl (decide (0 = 0)), V.bl (decide (0 = 1)), V.bl (decide (0 = 2)), V.bl (decide (0 = 3))]) p = some (.lst ([true, false, false, false].map V.bl)) := upd_same
      generalize upd H' p (HO.lst [V.bl (decide (0 = 0)), V.bl (decide (0 = 1)), V.bl (decide (0 = 2)), V.bl (decide (0 = 3))]) = Hq at ft hp ⊢
      refine ⟨.inl ⟨rfl, _, SqL.of hp⟩, ?_⟩
      walk_at "go"
      refine ⟨_, _, true, rfl, rfl, SqL.of hp, ?_⟩
      walk_at "go"
      rw [if_neg (by clear hp; decide)]
      walk_at "go"
      refine ⟨_, _, _, rfl, (fun u r => r), hk.ve, ?_⟩
      walk_at "go"
      refine ⟨by show (4 : Nat) ≤ _; decide, fun p2 np2 => ?_⟩
      have ft2 := ft.trans (Fr.new (S := []) (o := HO.lst [V.str (Str.ofString "BadChain"), V.str (Str.ofString "BadMany"), V.str (Str.ofString "NoWhole"), V.str (Str.ofString "BadText")]) np2) (fun b hb => by cases hb)
      have hp1 := (Fr.new (S := []) (o := HO.lst [V.str (Str.ofString "BadChain"), V.str (Str.ofString "BadMany"), V.str (Str.ofString "NoWhole"), V.str (Str.ofString "BadText")]) np2).at hp (by simp)
      have hp2 : upd Hq p2 (HO.lst [V.str (Str.ofString "BadChain"), V.str (Str.ofString "BadMany"), V.str (Str.ofString "NoWhole"), V.str (Str.ofString "BadText")]) p2 = some _ := upd_same
      generalize upd Hq p2 (HO.lst [V.str (Str.ofString "BadChain"), V.str (Str.ofString "BadMany"), V.str (Str.ofString "NoWhole"), V.str (Str.ofString "BadText")]) = Hr at ft2 hp1 hp2 ⊢
      refine rd_bm ?_
      walk_at "go"
      refine ⟨.inl ⟨rfl, _, SqL.of hp1⟩, ?_⟩
      walk_at "go"
      refine ⟨_, _, _, 0, .bl true, rfl, rfl, SqL.of hp1, rfl, rfl, rfl, rfl, (fun m z hm hz => absurd hm (by omega)), ?_⟩
      dsimp only
      refine ⟨_, _, _, .str "BadChain", rfl, rfl, SqL.of hp2, rfl, ?_⟩
      dsimp only [gName, List.set]
      refine rd_ret ?_
      refine rd_if ?_
      walk_at "go"
      rw [if_neg (by decide +kernel)]
      walk_at "go"
      exact h2 _ ft2
    · refine PSs.run (X := (cxOf C8.CX0 X.prog X.w X.K X.mg X.base ["_law_work", "e", "_law_kinds", "_law_word"] "_law_kind" (defScope s__law_kind) g cdg X.A X.stack s H C8.E0).nox.suite a ((a, oe) :: pn)) ((pss_cons (ps_set (i := 2) sc__law_kind.nd rfl (Or.inl rfl) (pe_lst (pa_cons (pe_callB (call_isD hE hz hf) (by rfl) T.free_isinstance (by decide +kernel) (pa_cons (pv 1) (pa_cons (pe_glob (v := .ref J.bc) (by rfl) B.bc rfl) pa_nil))) (pa_cons (pe_callB (call_isD hE hz hf) (by rfl) T.free_isinstance (by decide +kernel) (pa_cons (pv 1) (pa_cons (pe_glob (v := .ref J.bm) (by rfl) B.bm rfl) pa_nil))) (pa_cons (pe_callB (call_isD hE hz hf) (by rfl) T.free_isinstance (by decide +kernel) (pa_cons (pv 1) (pa_cons (pe_glob (v := .ref J.nw) (by rfl) B.nw rfl) pa_nil))) (pa_cons (pe_callB (call_isD hE hz hf) (by rfl) T.free_isinstance (by decide +kernel) (pa_cons (pv 1) (pa_cons (pe_glob (v := .ref J.bt) (by rfl) B.bt rfl) pa_nil))) pa_nil))))))
  (pss_cons (ps_if (PW.pt (pw_or (pt_cmpR op_ne (pe_bm PySem.F.plainAttrs_list PySem.F.slot_list_count PySem.F.type_list_count mt_countB (pv 2) (pa_cons pe_bl pa_nil)) pe_int (nomark _)) (pw_or1 (pt_not (pt_val (pe_callB (call_isD hE hz hf) (by rfl) T.free_isinstance (by decide +kernel) (pa_cons (pv 1) (pa_cons (pe_bltn (v := .ty "ValueError") (u := .type "ValueError") (by rfl) B.ve (by decide +kernel) rfl) pa_nil))))))))
    (pss_one (ps_ret pe_str)) pss_nil)
  (pss_cons (ps_set (i := 3) sc__law_kind.nd rfl (Or.inl rfl) (pe_ix (ix_listK K) (pe_lst (pa_cons pe_str (pa_cons pe_str (pa_cons pe_str (pa_cons pe_str pa_nil))))) (pe_bm PySem.F.plainAttrs_list PySem.F.slot_list_index PySem.F.type_list_index mt_index (pv 2) (pa_cons pe_bl pa_nil)) (fun _ _ => rfl)))
  (pss_one (ps_ret (pe_ifExp (pt_cmpR op_eq (pv 3) pe_str (nomark _)) (pe_tup (pa_cons (pv 3) (pa_cons (pe_xf hX hno hz hf (pv 1)) pa_nil))) (pv 3)))))))) pins s' _ H' D I ?_
      try dsimp only [cxOf, Cx.nox, Cx.wish]
      refine rd_seq ?_
      refine rd_asg ?_
      walk_at "go"
      refine ⟨_, _, _, _, rfl, ed, (fun u r => r), hk.bc, ?_⟩
      walk_at "go"
      refine ⟨_, _, _, _, rfl, ed, (fun u r => r), hk.bm, ?_⟩
      walk_at "go"
      refine ⟨_, _, _, _, rfl, ed, (fun u r => r), hk.nw, ?_⟩
      walk_at "go"
      refine ⟨_, _, _, _, rfl, ed, (fun u r => r), hk.bt, ?_⟩
      walk_at "go"
      refine ⟨by show (4 : Nat) ≤ _; decide, fun p np => ?_⟩
      dsimp only [gName, List.set]
      refine rd_seq ?_
      refine rd_ifs ?_
      walk_at "go"
      have ft : Fr [] H' (upd H' p (HO.lst [V.bl (decide (3 = 0)), V.bl (decide (3 = 1)), V.bl (decide (3 = 2)), V.bl (decide (3 = 3))])) := Fr.new np
      have ed := ft.at ed (by simp)
      have hp : upd H' p (HO.lst [V.bl (decide (3 = 0)), V.bl (decide (3 = 1)), V.bl (decide (3 = 2)), V.bl (decide (3 = 3))]) p = some (.lst ([false, false, false, true].map V.bl)) := upd_same
      generalize upd H' p (HO.lst [V.bl (decide (3 = 0)), V.bl (decide (3 = 1)), V.bl (decide (3 = 2)), V.bl (decide (3 = 3))]) = Hq at ft hp ed ⊢
      refine ⟨.inl ⟨rfl, _, SqL.of hp⟩, ?_⟩
      walk_at "go"
      refine ⟨_, _, true, rfl, rfl, SqL.of hp, ?_⟩
      walk_at "go"
      rw [if_neg (by clear hp; decide)]
      walk_at "go"
      refine ⟨_, _, _, _, rfl, ed, (fun u r => r), hk.ve, ?_⟩
      walk_at "go"
      refine ⟨by show (4 : Nat) ≤ _; decide, fun p2 np2 => ?_⟩
      have fq := Fr.new (S := []) (o := HO.lst [V.str (Str.ofString "BadChain"), V.str (Str.ofString "BadMany"), V.str (Str.ofString "NoWhole"), V.str (Str.ofString "BadText")]) np2
      have ft2 := ft.trans fq (fun b hb => by cases hb)
      have hp1 := fq.at hp (by simp)
      have ed := fq.at ed (by simp)
      have hp2 : upd Hq p2 (HO.lst [V.str (Str.ofString "BadChain"), V.str (Str.ofString "BadMany"), V.str (Str.ofString "NoWhole"), V.str (Str.ofString "BadText")]) p2 = some _ := upd_same
      clear fq
      generalize upd Hq p2 (HO.lst [V.str (Str.ofString "BadChain"), V.str (Str.ofString "BadMany"), V.str (Str.ofString "NoWhole"), V.str (Str.ofString "BadText")]) = Hr at ft2 hp1 hp2 ed ⊢
      refine rd_bm ?_
      walk_at "go"
      refine ⟨.inl ⟨rfl, _, SqL.of hp1⟩, ?_⟩
      walk_at "go"
      refine ⟨_, _, _, 3, .bl true, rfl, rfl, SqL.of hp1, rfl, rfl, rfl, rfl, (fun m z hm hz => by
        rcases (by omega : m = 0 ∨ m = 1 ∨ m = 2) with rfl | rfl | rfl <;> (cases hz; rfl)), ?_⟩
      dsimp only
      refine ⟨_, _, _, .str "BadText", rfl, rfl, SqL.of hp2, rfl, ?_⟩
      dsimp only [gName, List.set]
      refine rd_ret ?_
      refine rd_if ?_
      walk_at "go"
      rw [if_pos (by decide +kernel)]
      walk_at "go"
      refine ⟨_, rfl, rfl, rfl, dx, _, .int p0, rfl, ed, rfl, ?_⟩
      walk_at "go"
      refine ⟨by show (2 : Nat) ≤ _; decide, fun t nt => ?_⟩
      exact h2 _ t upd_same (ft2.newN nt)
  · refine ⟨fun cls d H' => ∃ D i, cls = .ref D ∧ KOne X.K J D i ∧ KRes X.K D i d H' Q, fun cls d σ' H' hl h' => ?_, rfl, hc, h⟩
    obtain ⟨D, i, rfl, hk, h2⟩ := h'
    refine ⟨true, hk.de, fun _ a na => ⟨D, i, rfl, hk, by simpa using hl, ?_, h2⟩, fun z => by cases z⟩
    rw [List.getElem?_set_self (by omega)]
end
end Dc

set_option Elab.async false
set_option linter.all false
set_option maxRecDepth 100000
set_option maxHeartbeats 2000000
namespace Dc
open PySem PySem.Spec PyProof.Rows L2
/-- a def that lets nothing out, its code object known -/
theorem ok0C {P : Program} {w : World} {K : PySem.W.Frag} {mg : Str → Option Value} {base : Heap} {x qual : Str} {params : Arguments} {body : List Stmt} {scope : Scope} {f : Addr} {fd : FuncData}
    {N ps : List Str} {k : Nat} {sp : Sp} (F : FunD K x qual params body scope [] [] f fd) (S : FnScope N ps scope) (len : ∀ vs H Q E, sp vs H Q E → vs.length = ps.length)
    (hbody : ∀ (A : Around) (outer : List Env) (s : Shared) (H : Hp) (vs : List V) (Q : VK) (E : XK), Room k (A.deeper (envOfC qual scope s.heap.objs.size f fd.code)) → sp vs H Q E →
      ∃ t, PSs (cxOf CX0 P w K mg base N qual scope f fd.code A outer s H E).nox body t ∧ t { nx := fun _ H' => Q .non H', rt := Q } (start N vs) H) : FnOk P w K mg base CX0 (k + 1) f fd ps sp := by
  obtain ⟨oc, od, dV, kV, doc, pm, an, cdv, ct, osl, rfl, lk, hcd, _, _⟩ := F.ex
  refine fn_of lk hcd S len fun A outer s H vs Q E hr hsp => ?_
  obtain ⟨t, ht, q⟩ := hbody A outer s H vs Q E hr hsp
  exact ⟨t, PSs.nox ht, q⟩
theorem pe_kind {X : Cx} {J : KJ} {T : List (Addr × Str)} {c P : Addr} {params : Arguments} {body : Expr} {scope : Scope} {t : XK → TE} {k : Nat} {p lpos pos : Pos} (I : ∃ f fd, FnP X.K "_law_kind" "_law_kind" s__law_kind f fd ∧ X.mg "_law_kind" = some (.ref f)) (Tx : Txt X.K X.mg) (B : KB X.mg J)
    (TB : LamX.TabB X.base X.mg c P) (hcode : X.env.code = .ref c) (hmT : (P, X.env.qual ++ "<lambda>") ∈ T) (hu : ∀ p ∈ T, p.1 = P → p.2 = X.env.qual ++ "<lambda>") (hr : Room (k + 2) X.A) (L : LamX.LamS X.env.scope scope) (hdef : defaultsOf params X.env = ([], []))
    (hbind : ∀ (q : Str) (cl : List (Str × Addr)) (pm cv ctv : Value), bindArgs (PySem.W.kla_fn "<lambda>" q params body scope cl pm cv ctv) ⟨[], []⟩ = pure [])
    (hbody : ∀ (A : Around) (outer : List Env) (s : Shared) (H : Hp) (E : XK) (f c' : Addr), Room k (A.deeper (LamX.lamEnv X scope s.heap.objs.size f c')) → PE (LamX.lamCx X A outer s H E scope f c') body (t E))
    (hg : Gl X "_law_kind" := by rfl) : PE X (.Call (.Name "_law_kind" p) [.Lambda params body scope lpos] [] pos) (LamX.tLam T (TTk X.K J) t) := by
  obtain ⟨g, fd, F, hm⟩ := I
  have hb : Binds X.K fd ["_law_work"] [] := F.bindsN fun _ _ _ _ _ _ us hl => match us, hl with | [_], _ => rfl
  have hk := F.kp
  obtain ⟨oc, od, dV, kV, doc, pm, an, cdv, ct, osl, rfl, lk, hcd, _, _⟩ := F.ex
  exact LamX.pe_lamcall (a := "_law_work") (Ng := ["_law_work", "e", "_law_kinds", "_law_word"]) hg hm hk lk hcd hb sc__law_kind rfl (Or.inl rfl) (kind_gives Tx B) TB hcode hmT hu hr L hdef hbind hbody
end Dc

set_option Elab.async false
set_option linter.all false
set_option maxRecDepth 100000
set_option maxHeartbeats 2000000
namespace Dc
open PySem PySem.Spec PyProof.Rows L2
local macro_rules | `(tactic| walk_at "ne") => `(tactic| first | assumption | (refine Ne.symm ?_; assumption) | exact ne_of (by assumption) (by assumption) (by intro q; cases q) | exact ne_of_none (by assumption) (by assumption) | exact Ne.symm (ne_of_none (by assumption) (by assumption)))
local macro_rules | `(tactic| walk_at "hp") => `(tactic| first | assumption | exact upd_same | (refine upd_keep ?_ (by assumption); walk_at "hp") | (refine upd_other ?_ ?_; · walk_at "ne"; · walk_at "hp"))
local macro_rules | `(tactic| walk_at "hl") => `(tactic| first | assumption | exact SqL.of (by walk_at "hp"))
local macro_rules | `(tactic| walk_at "ht") => `(tactic| first | assumption | exact SqT.of (by walk_at "hp"))
local macro_rules | `(tactic| walk_at "rd1") => `(tactic| first
  | ((with_reducible apply rd_var); exact rfl)
  | ((with_reducible apply rd_eq); exact rfl) | ((with_reducible apply rd_ne); exact rfl)
  | with_reducible first
  | refine iteT ?_ | refine iteF ?_ | refine rd_nF ?_ | refine rd_nT ?_ | refine rd_yes ?_ | refine rd_c ?_ | refine rd_op ?_ | refine rd_un ?_ | refine rd_test ?_ | refine rd_B ?_ | refine rd_bl ?_ | refine rd_seq ?_ | refine rd_next ?_ | refine rd_ifs ?_ | refine rd_asg ?_ | refine rd_name ?_ | refine rd_ret ?_ | refine rd_drop ?_
  | refine rd_call ?_ | refine rd_cons ?_ | refine rd_nil ?_ | refine rd_cb ?_ | refine rd_I0 ?_ | refine rd_U ?_ | refine rd_gsub ?_ | refine rd_lst ?_ | refine rd_tup ?_ | refine rd_if ?_ | refine rd_not ?_ | refine rd_rng1 ?_ | refine rd_itup ?_ | refine rd_ilst ?_ | refine rd_bm ?_ | refine rd_bm0 ?_ | refine rd_andV ?_ | refine rd_orV ?_ | refine rd_notV ?_)
local macro_rules | `(tactic| walk_at "rd") => `(tactic| repeat walk_at "rd1")
local macro_rules | `(tactic| walk_at "ci") => `(tactic| first | assumption | (show (0 : Int) < _; first | decide | omega) | exact ⟨by decide, by decide⟩ | exact Or.inr ⟨by decide, by decide⟩ | exact Or.inl ⟨by decide, by decide⟩ | exact ⟨by decide, by decide, by decide⟩ | exact Or.inl ⟨by omega, by omega⟩ | exact Or.inr ⟨by omega, by omega⟩)
local macro_rules | `(tactic| walk_at "ix") => `(tactic| first
  | ((with_reducible apply rd_ixL); (walk_at "hl"); exact rfl)
  | ((with_reducible apply rd_ixT); (walk_at "ht"); exact rfl)
  | ((with_reducible apply rd_lenL); (walk_at "hl"))
  | ((with_reducible apply rd_lenT); (walk_at "ht"))
  | ((with_reducible apply rd_tupOf); (walk_at "hl"))
  | ((with_reducible apply rd_listOf); (walk_at "hl"))
  | (with_reducible refine rd_min2 ?_)
  | ((with_reducible apply rd_I); (walk_at "ci"))
  | ((with_reducible apply rd_setL); (walk_at "hp"); exact rfl))
local macro_rules | `(tactic| walk_at "gs") => `(tactic| repeat first | walk_at "rd1" | walk_at "ix")
local macro_rules | `(tactic| walk_at "go") => `(tactic| repeat first | walk_at "rd1" | walk_at "ix" | with_reducible refine rd_and ?_ | with_reducible refine rd_or ?_)
local macro_rules | `(tactic| walk_at "fo") => `(tactic| (with_reducible refine rd_for ?_))
local macro_rules | `(tactic| walk_at "pm") => `(tactic| repeat first
  | with_reducible first | refine rd_pcons ?_ | refine rd_pstr ?_ | refine rd_pcap ?_ | refine rd_pwild ?_ | refine rd_pnil ?_ | refine rd_por ?_ | refine rd_pno ?_
  | ((with_reducible refine rd_eq rfl ?_); refine ⟨_, rfl, ?_⟩; first | refine rd_T rfl ?_ | refine rd_F (by decide) ?_)
  | dsimp only [List.nil_append, List.singleton_append, List.cons_append, setAll])
local macro_rules | `(tactic| walk_at "pc") => `(tactic| (refine rd_case ?_); (first | (refine rd_phit (SqT.of (by assumption)) rfl ?_) | (refine rd_pmiss (SqT.of (by assumption)) (by simp) ?_)); (walk_at "pm"))

/-- two values that look the same, at most n deep -/
def Sm0 (v w : V) : Prop := (∃ i : Int, v = .int i ∧ w = .int i) ∨ (∃ s : Str, v = .str s ∧ w = .str s)
def Sm : Nat → Hp → V → V → Prop
  | 0, _, v, w => Sm0 v w
  | n + 1, H, v, w => Sm0 v w ∨ ∃ (a b : Addr) (xs ys : List V), v = .ref a ∧ w = .ref b ∧ ((H a = some (.lst xs) ∧ H b = some (.lst ys)) ∨ (H a = some (.tup xs) ∧ H b = some (.tup ys))) ∧ xs.length = ys.length ∧ (xs.length : Int) < 2 ^ 62 ∧
      ∀ (i : Nat) (x y : V), xs[i]? = some x → ys[i]? = some y → Sm n H x y
theorem Sm.fr {H H' : Hp} (f : Fr [] H H') : ∀ {n : Nat} {v w : V}, Sm n H v w → Sm n H' v w
  | 0, _, _, h => h
  | n + 1, _, _, .inl h => .inl h
  | n + 1, _, _, .inr ⟨a, b, xs, ys, e1, e2, e3, e4, e5, e6⟩ => .inr ⟨a, b, xs, ys, e1, e2, e3.imp (fun z => ⟨f.at z.1 (by simp), f.at z.2 (by simp)⟩) (fun z => ⟨f.at z.1 (by simp), f.at z.2 (by simp)⟩), e4, e5, fun i x y h1 h2 => (e6 i x y h1 h2).fr f⟩
def spSame (n : Nat) : Sp := fun vs H Q _ => ∃ v w, vs = [v, w] ∧ Sm n H v w ∧ ∀ H', Fr [] H H' → Q (.bl true) H'
theorem rd_nF1 {c A B : Prop} [Decidable c] (h : c) (h2 : B) : if (!decide c) = true then A else B := by rw [if_neg (by rw [decide_eq_true h]; decide)]; exact h2
theorem isi_int_tuple : kitB "int" "tuple" = some false := by decide +kernel
theorem isi_int_list : kitB "int" "list" = some false := by decide +kernel
theorem isi_int_str : kitB "int" "str" = some false := by decide +kernel
theorem isi_str_tuple : kitB "str" "tuple" = some false := by decide +kernel
theorem isi_str_str : kitB "str" "str" = some true := by decide +kernel
theorem isi_tup_list : kitB "tuple" "list" = some false := by decide +kernel
theorem isi_list_tuple : kitB "list" "tuple" = some false := by decide +kernel
theorem isi_tup_tup : kitB "tuple" "tuple" = some true := by decide +kernel
theorem sm0_at {xs : List V} (h : ∀ x ∈ xs, Sm0 x x) {n : Nat} {H : Hp} (i : Nat) (x y : V) (e1 : xs[i]? = some x) (e2 : xs[i]? = some y) : Sm n H x y := by
  rw [e1] at e2
  cases e2
  have := h x (List.mem_of_getElem? e1)
  cases n with
  | zero => exact this
  | succ n => exact .inl this
theorem room1S {k : Nat} {A : Around} (r : Room k A) : A.units + 1 < cLine := by have := r.un; omega
theorem isi_str_list : kitB "str" "list" = some false := by decide +kernel
theorem isi_list_list : kitB "list" "list" = some true := by decide +kernel
theorem sm_ints {H : Hp} {a b : Addr} {xs : List Int} {n : Nat} (h1 : H a = some (.lst (xs.map V.int))) (h2 : H b = some (.lst (xs.map V.int))) (hl : xs.length ≤ 10000) : Sm (n + 1) H (.ref a) (.ref b) :=
  .inr ⟨a, b, _, _, rfl, rfl, .inl ⟨h1, h2⟩, rfl, by rw [List.length_map]; omega, sm0_at (by
    intro x hx
    obtain ⟨i, _, rfl⟩ := List.mem_map.mp hx
    exact .inl ⟨_, rfl, rfl⟩)⟩
theorem sm_pair {H : Hp} {a b : Addr} {x1 x2 y1 y2 : V} {n : Nat} (h1 : H a = some (.lst [x1, x2])) (h2 : H b = some (.lst [y1, y2])) (s1 : Sm n H x1 y1) (s2 : Sm n H x2 y2) : Sm (n + 1) H (.ref a) (.ref b) :=
  .inr ⟨a, b, _, _, rfl, rfl,   .inl ⟨h1, h2⟩, rfl, by simp only [List.length_cons, List.length_nil]; omega, fun i x y e1 e2 => by
    match i, e1, e2 with
    | 0, e1, e2 => cases e1; cases e2; exact s1
    | 1, e1, e2 => cases e1; cases e2; exact s2
    | i + 2, e1, e2 => cases e1⟩
section
variable {P : Program} {w : World} {K : PySem.W.Frag} {mg : Str → Option Value} {base : Heap}
theorem sc__law_same : FnScope ["_law_found", "_law_due", "_law_k"] ["_law_found", "_law_due"] (defScope s__law_same) := ⟨rfl, rfl, rfl, by decide +kernel, rfl, by decide +kernel, by decide +kernel⟩
theorem ok_law_same {n j : Nat} (T : Txt K mg) {f : Addr} {fd : FuncData} (F : FnP K "_law_same" "_law_same" s__law_same f fd) (sp : Sp) (hsp : ∀ m, n = m + 1 → sp = spSame m) (G__law_same : Cal P w K mg base CX0 j "_law_same" ["_law_found", "_law_due"] sp) : FnOk P w K mg base CX0 (j + 1) f fd ["_law_found", "_law_due"] (spSame n) := by
  refine ok0 F sc__law_same (fun vs H Q E h => ?_) (fun cdv A outer s H vs Q E hr h => ?_)
  · obtain ⟨v, w, rfl, _⟩ := h
    rfl
  · obtain ⟨v, w, rfl, hs, k⟩ := h
    have hu := room1S hr
    have hu64 := hr.units
    refine ⟨_, (pss_cons (ps_if (pt_val (pe_callB (call_isiTK K) (by rfl) T.free_isinstance (by decide +kernel) (pa_cons (pv 1) (pa_cons (pe_tup (pa_cons (pe_bltn (v := .ty "tuple") (u := .type "tuple") (by rfl) T.free_tuple (by decide +kernel) rfl) (pa_cons (pe_bltn (v := .ty "list") (u := .type "list") (by rfl) T.free_list (by decide +kernel) rfl) pa_nil))) pa_nil))))
    (pss_cons (ps_if (PW.pt (pw_or (pt_not (pt_val (pe_callB (call_isiTK K) (by rfl) T.free_isinstance (by decide +kernel) (pa_cons (pv 0) (pa_cons (pe_tup (pa_cons (pe_bltn (v := .ty "tuple") (u := .type "tuple") (by rfl) T.free_tuple (by decide +kernel) rfl) (pa_cons (pe_bltn (v := .ty "list") (u := .type "list") (by rfl) T.free_list (by decide +kernel) rfl) pa_nil))) pa_nil))))) (pw_or1 (pt_cmpR op_ne (pe_callB (call_isiK1 K) (by rfl) T.free_isinstance (by decide +kernel) (pa_cons (pv 0) (pa_cons (pe_bltn (v := .ty "list") (u := .type "list") (by rfl) T.free_list (by decide +kernel) rfl) pa_nil))) (pe_callB (call_isiK1 K) (by rfl) T.free_isinstance (by decide +kernel) (pa_cons (pv 1) (pa_cons (pe_bltn (v := .ty "list") (u := .type "list") (by rfl) T.free_list (by decide +kernel) rfl) pa_nil))) (nomark _)))))
      (pss_one (ps_ret pe_bl)) pss_nil)
    (pss_cons (ps_if (pt_cmpR op_ne (pe_callB (call_len1K K) (by rfl) T.free_len (by decide +kernel) (pa_cons (pv 0) pa_nil)) (pe_callB (call_len1K K) (by rfl) T.free_len (by decide +kernel) (pa_cons (pv 1) pa_nil)) (nomark _))
      (pss_one (ps_ret pe_bl)) pss_nil)
    (pss_one (ps_ret (pe_cmpR (op_eqDK K hu64) (pe_lc (own := [("_law_k", 2)]) (g := gName 2) rfl sc__law_same.nd (pi_range1 (by rfl) T.free_range (pa_cons (pe_callB (call_len1K K) (by rfl) T.free_len (by decide +kernel) (pa_cons (pv 1) pa_nil)) pa_nil)) (blkOk_by (N := ["_law_found", "_law_due", "_law_k"]) (sc := defScope s__law_same) (by decide +kernel)) (fun _ _ _ _ _ => pg_name (i := 2) sc__law_same.nd rfl (Or.inl rfl)) (fun _ _ _ _ _ => pts_one (pt_not (pt_val (pe_cal G__law_same (hr.mono (by omega)) pass0 (pa_cons (pe_ix (ix_seqK K) (pv 0) (pv 2) (fun _ _ => rfl)) (pa_cons (pe_ix (ix_seqK K) (pv 1) (pv 2) (fun _ _ => rfl)) pa_nil)))))) (fun _ _ _ _ _ => (pv 2))) (pe_lst pa_nil) (nomark _)))))) pss_nil)
  (pss_cons (ps_if (pt_cmpR op_isN (pv 1) pe_non (nomark _))
    (pss_one (ps_ret (pe_cmpR op_isN (pv 0) pe_non (nomark _)))) pss_nil)
  (pss_cons (ps_if (pt_val (pe_callB (call_isiK1 K) (by rfl) T.free_isinstance (by decide +kernel) (pa_cons (pv 1) (pa_cons (pe_bltn (v := .ty "str") (u := .type "str") (by rfl) T.free_str (by decide +kernel) rfl) pa_nil))))
    (pss_one (ps_ret (pe_and (pe_callB (call_isiK1 K) (by rfl) T.free_isinstance (by decide +kernel) (pa_cons (pv 0) (pa_cons (pe_bltn (v := .ty "str") (u := .type "str") (by rfl) T.free_str (by decide +kernel) rfl) pa_nil))) (pe_one (pe_cmpR op_eq (pv 0) (pv 1) (nomark _)))))) pss_nil)
  (pss_cons (ps_if (PW.pt (pw_or (pt_val (pe_callB (call_isiK1 K) (by rfl) T.free_isinstance (by decide +kernel) (pa_cons (pv 1) (pa_cons (pe_bltn (v := .ty "bool") (u := .type "bool") (by rfl) T.free_bool (by decide +kernel) rfl) pa_nil)))) (pw_or1 (pt_val (pe_callB (call_isiK1 K) (by rfl) T.free_isinstance (by decide +kernel) (pa_cons (pv 0) (pa_cons (pe_bltn (v := .ty "bool") (u := .type "bool") (by rfl) T.free_bool (by decide +kernel) rfl) pa_nil)))))))
    (pss_one (ps_ret (pe_and (pe_callB (call_isiK1 K) (by rfl) T.free_isinstance (by decide +kernel) (pa_cons (pv 1) (pa_cons (pe_bltn (v := .ty "bool") (u := .type "bool") (by rfl) T.free_bool (by decide +kernel) rfl) pa_nil))) (pe_and (pe_callB (call_isiK1 K) (by rfl) T.free_isinstance (by decide +kernel) (pa_cons (pv 0) (pa_cons (pe_bltn (v := .ty "bool") (u := .type "bool") (by rfl) T.free_bool (by decide +kernel) rfl) pa_nil))) (pe_one (pe_cmpR op_eq (pv 0) (pv 1) (nomark _))))))) pss_nil)
  (pss_one (ps_ret (pe_and (pe_callB (call_isiK1 K) (by rfl) T.free_isinstance (by decide +kernel) (pa_cons (pv 0) (pa_cons (pe_bltn (v := .ty "int") (u := .type "int") (by rfl) T.free_int (by decide +kernel) rfl) pa_nil))) (pe_one (pe_cmpR op_eq (pv 0) (pv 1) (nomark _)))))))))), ?_⟩
    try dsimp only [cxOf, Cx.nox, Cx.wish]
    refine rd_at (σ' := [some v, some w, none]) rfl ?_
    have base0 : Sm0 v w ∨ ∃ m, n = m + 1 ∧ ∃ (a b : Addr) (xs ys : List V), v = .ref a ∧ w = .ref b ∧ ((H a = some (.lst xs) ∧ H b = some (.lst ys)) ∨ (H a = some (.tup xs) ∧ H b = some (.tup ys))) ∧ xs.length = ys.length ∧ (xs.length : Int) < 2 ^ 62 ∧
      ∀ (i : Nat) (x y : V), xs[i]? = some x → ys[i]? = some y → Sm m H x y := by
      cases n with
      | zero => exact .inl hs
      | succ m => exact hs.imp id fun z => ⟨m, rfl, z⟩
    rcases base0 with (⟨i, rfl, rfl⟩ | ⟨x, rfl, rfl⟩) | ⟨m, hm, a, b, xs, ys, rfl, rfl, hab, hl, hsz, he⟩
    · walk_at "go"
      refine ⟨by show 2 ≤ sizeLine; decide, fun p hp => ?_⟩
      walk_at "go"
      refine rd_isiT2 upd_same tyx_int isi_int_tuple isi_int_list ?_
      walk_at "go"
      refine iteF ?_
      walk_at "go"
      refine ⟨rfl, ?_⟩
      walk_at "go"
      refine rd_F (by intro z; cases z) ?_
      walk_at "go"
      refine rd_isi tyx_int isi_int_str ?_
      walk_at "go"
      refine rd_isi tyx_int isi_int_bool ?_
      walk_at "go"
      refine rd_isi tyx_int isi_int_bool ?_
      walk_at "go"
      refine rd_isi tyx_int isi_int_int ?_
      walk_at "go"
      have kk := k _ (Fr.new (o := .tup [.ty "tuple", .ty "list"]) hp)
      simpa using kk
    · walk_at "go"
      refine ⟨by show 2 ≤ sizeLine; decide, fun p hp => ?_⟩
      walk_at "go"
      refine rd_isiT2 upd_same (.base (.str _)) isi_str_tuple isi_str_list ?_
      walk_at "go"
      refine iteF ?_
      walk_at "go"
      refine ⟨rfl, ?_⟩
      walk_at "go"
      refine rd_F (by intro z; cases z) ?_
      walk_at "go"
      refine rd_isi (.base (.str _)) isi_str_str ?_
      walk_at "go"
      refine rd_isi (.base (.str _)) isi_str_str ?_
      walk_at "go"
      have kk := k _ (Fr.new (o := .tup [.ty "tuple", .ty "list"]) hp)
      simpa using kk
    · obtain ⟨Ty, b1, b2, tya, tyb, k1, k2, k3⟩ : ∃ (Ty : String) (b1 b2 : Bool), (∀ H', Fr [] H H' → TyX K H' (.ref a) (.type Ty)) ∧ (∀ H', Fr [] H H' → TyX K H' (.ref b) (.type Ty)) ∧ kitB Ty "tuple" = some b1 ∧ kitB Ty "list" = some b2 ∧ (b1 || b2) = true := by
        rcases hab with ⟨ha, hb⟩ | ⟨ha, hb⟩
        · exact ⟨"list", false, true, fun H' f => .base (.lst (f.at ha (by simp))), fun H' f => .base (.lst (f.at hb (by simp))), isi_list_tuple, isi_list_list, rfl⟩
        · exact ⟨"tuple", true, false, fun H' f => .base (.tup (f.at ha (by simp))), fun H' f => .base (.tup (f.at hb (by simp))), isi_tup_tup, isi_tup_list, rfl⟩
      have hlen : ∀ {H'} {Q' : VK} {c : Addr} {zs : List V}, Fr [] H H' → ((H c = some (.lst zs)) ∨ (H c = some (.tup zs))) → Q' (.int zs.length) H' → rLen1 K [.ref c] H' Q' := fun f h q => by
        rcases h with h | h
        · exact rd_lenL (SqL.of (f.at h (by simp))) q
        · exact rd_lenT (SqT.of (f.at h (by simp))) q
      have hix : ∀ {H'} {Q' : VK} {c : Addr} {zs : List V} {i : Nat} {v : V}, Fr [] H H' → ((H c = some (.lst zs)) ∨ (H c = some (.tup zs))) → zs[i]? = some v → Q' v H' → rIx K (.ref c) (.int (0 + (i : Int))) H' Q' := fun f h e q => by
        rcases h with h | h
        · exact .inl ⟨_, _, _, _, rfl, rfl, SqL.of (f.at h (by simp)), at_of (by omega) e, q⟩
        · exact .inr (.inl ⟨_, _, _, _, rfl, rfl, SqT.of (f.at h (by simp)), at_of (by omega) e, q⟩)
      have ha : (H a = some (.lst xs)) ∨ (H a = some (.tup xs)) := hab.imp (·.1) (·.1)
      have hb : (H b = some (.lst ys)) ∨ (H b = some (.tup ys)) := hab.imp (·.2) (·.2)
      obtain rfl := hsp m hm
      walk_at "go"
      refine ⟨by show 2 ≤ sizeLine; decide, fun p hp => ?_⟩
      walk_at "go"
      refine rd_isiT2 upd_same (tyb _ (Fr.new hp)) k1 k2 ?_
      walk_at "go"
      rw [k3]
      refine iteT ?_
      walk_at "go"
      refine ⟨by show 2 ≤ sizeLine; decide, fun p2 hp2 => ?_⟩
      have f2 : Fr [] H (upd (upd H p (.tup [.ty "tuple", .ty "list"])) p2 (.tup [.ty "tuple", .ty "list"])) := (Fr.new hp).newN hp2
      walk_at "go"
      refine rd_isiT2 upd_same (tya _ f2) k1 k2 ?_
      walk_at "go"
      rw [k3]
      refine rd_nT ?_
      generalize upd (upd H p (.tup [.ty "tuple", .ty "list"])) p2 (.tup [.ty "tuple", .ty "list"]) = H2 at *
      walk_at "go"
      refine rd_isi (tya _ f2) k2 ?_
      walk_at "go"
      refine rd_isi (tyb _ f2) k2 ?_
      walk_at "go"
      refine rd_nF1 rfl ?_
      walk_at "go"
      refine hlen f2 ha ?_
      walk_at "go"
      refine hlen f2 hb ?_
      walk_at "go"
      refine rd_nF1 (by rw [hl]) ?_
      walk_at "go"
      show iRng1 (tCons (tCB (rLen1 K) (tCons (tVar 1) tNil)) tNil) _ _ _
      walk_at "go"
      refine hlen f2 hb ?_
      walk_at "go"
      refine ⟨_, rfl, by omega, by omega, fun D hD => ?_⟩
      rw [Int.toNat_natCast]
      refine lc_range (lo := 0) (n := ys.length) (fun i H3 => H3 D = some (.lst []) ∧ Fr [] H H3) ⟨upd_same, f2.newN hD⟩ ?_ ?_
      · rintro i H3 hi ⟨e3, f3⟩
        walk_at "go"
        refine ⟨rfl, ?_⟩
        walk_at "go"
        refine hix f3 ha (List.getElem?_eq_getElem (hl ▸ hi)) ?_
        walk_at "go"
        refine hix f3 hb (List.getElem?_eq_getElem hi) ?_
        walk_at "go"
        refine ⟨_, _, rfl, (he i _ _ (List.getElem?_eq_getElem (hl ▸ hi)) (List.getElem?_eq_getElem hi)).fr f3, fun H4 f4 => ?_⟩
        walk_at "go"
        exact ⟨f4.at e3 (by simp), f3.tr f4⟩
      · rintro H3 ⟨e3, f3⟩
        walk_at "go"
        refine ⟨Nat.zero_le _, fun q hq => ?_⟩
        refine ⟨.list [], .list [], .lst (SqL.of (upd_keep e3 hq)) .nil, .lst (SqL.of upd_same) .nil, by decide +kernel, by decide +kernel, ?_⟩
        exact k _ (f3.newN hq)
theorem sames (T : Txt K mg) {f : Addr} {fd : FuncData} (F : FnP K "_law_same" "_law_same" s__law_same f fd) (g : mg "_law_same" = some (.ref f)) : ∀ n, Cal P w K mg base CX0 (n + 2) "_law_same" ["_law_found", "_law_due"] (spSame n) := by
  intro n
  induction n with
  | zero =>
    have G0 : Cal P w K mg base CX0 1 "_law_same" ["_law_found", "_law_due"] (fun _ _ _ _ => False) := cal_of F g (ok0 F sc__law_same (fun vs H Q E h => h.elim) fun cdv A outer s H vs Q E hr h => h.elim) fun _ _ _ _ _ _ us hl => match us, hl with | [_, _], _ => rfl
    exact cal_of F g (ok_law_same T F _ (fun m e => by cases e) G0) fun _ _ _ _ _ _ us hl => match us, hl with | [_, _], _ => rfl
  | succ n ih => exact cal_of F g (ok_law_same T F _ (fun m e => by cases e; rfl) ih) fun _ _ _ _ _ _ us hl => match us, hl with | [_, _], _ => rfl
end
/-! lists of makers -/
theorem mks_ok : ∀ {c : Ch}, c.ok → ∀ m ∈ c.mks, m.ok
  | .mkr m, h, x, hx => by rw [List.mem_singleton.mp hx]; exact h
  | .st c _, h, x, hx => mks_ok (c := c) h.1 x hx
  | .both c o, h, x, hx => (List.mem_append.mp (show x ∈ c.mks ++ o.mks from hx)).elim (mks_ok h.1 x) (mks_ok h.2 x)
  | .thn c o, h, x, hx => (List.mem_append.mp (show x ∈ c.mks ++ o.mks from hx)).elim (mks_ok h.1 x) (mks_ok h.2 x)
theorem sm_mk {H : Hp} {a b : Addr} {m : Mkr} (ok : m.ok) (h1 : MkAt H a m) (h2 : MkAt H b m) : Sm 2 H (.ref a) (.ref b) := by
  cases m with
  | count x y =>
    refine .inr ⟨a, b, _, _, rfl, rfl, .inr ⟨h1, h2⟩, rfl, by simp only [List.length_cons, List.length_nil]; omega, sm0_at fun v hv => ?_⟩
    simp only [List.mem_cons, List.not_mem_nil, or_false] at hv
    rcases hv with rfl | rfl | rfl
    · exact .inr ⟨_, rfl, rfl⟩
    · exact .inl ⟨_, rfl, rfl⟩
    · exact .inl ⟨_, rfl, rfl⟩
  | row ns =>
    obtain ⟨r, e1, e2⟩ := h1
    obtain ⟨r', e1', e2'⟩ := h2
    refine .inr ⟨a, b, _, _, rfl, rfl, .inr ⟨e1, e1'⟩, rfl, by simp only [List.length_cons, List.length_nil]; omega, fun i x y hx hy => ?_⟩
    match i, hx, hy with
    | 0, hx, hy => cases hx; cases hy; exact .inl (.inr ⟨_, rfl, rfl⟩)
    | 1, hx, hy =>
      cases hx; cases hy
      refine .inr ⟨r, r', _, _, rfl, rfl, .inr ⟨e2, e2'⟩, rfl, ?_, fun i x y hx hy => ?_⟩
      · rw [List.length_map]; have := ok.1; omega
      · rw [hx] at hy
        cases hy
        obtain ⟨z, _, rfl⟩ := List.mem_map.mp (List.mem_of_getElem? hx)
        exact .inl ⟨_, rfl, rfl⟩
    | i + 2, hx, hy => cases hx
theorem sm_mks {H : Hp} {q q' : Addr} {ms ms' : List Addr} {c : Ch} (ok : c.ok) (hn : c.nm ≤ 4) (h : H q = some (.lst (ms.map V.ref))) (h' : H q' = some (.lst (ms'.map V.ref))) (hm : MksAt H ms c.mks) (hm' : MksAt H ms' c.mks) : Sm 3 H (.ref q) (.ref q') := by
  have l1 := hm.1
  have l2 := hm'.1
  rw [Ch.mks_len] at l1 l2
  refine .inr ⟨q, q', _, _, rfl, rfl, .inl ⟨h, h'⟩, by rw [List.length_map, List.length_map, l1, l2], by rw [List.length_map]; omega, fun i x y hx hy => ?_⟩
  rw [List.getElem?_map] at hx hy
  obtain ⟨a, ha, rfl⟩ : ∃ a, ms[i]? = some a ∧ x = .ref a := by
    cases e : ms[i]? with
    | none => rw [e] at hx; cases hx
    | some z => rw [e] at hx; exact ⟨z, rfl, (Option.some.inj hx).symm⟩
  obtain ⟨b, hb, rfl⟩ : ∃ b, ms'[i]? = some b ∧ y = .ref b := by
    cases e : ms'[i]? with
    | none => rw [e] at hy; cases hy
    | some z => rw [e] at hy; exact ⟨z, rfl, (Option.some.inj hy).symm⟩
  obtain ⟨k, e1, e2⟩ := hm.2 i a ha
  obtain ⟨k', e1', e2'⟩ := hm'.2 i b hb
  rw [e1] at e1'
  cases e1'
  exact sm_mk (mks_ok ok k (List.mem_of_getElem? e1)) e2 e2'
end Dc

set_option Elab.async false
set_option linter.all false
set_option maxRecDepth 100000
set_option maxHeartbeats 2000000
namespace Dc
open PySem PySem.Spec PyProof.Rows L2
local macro_rules | `(tactic| walk_at "ne") => `(tactic| first | assumption | (refine Ne.symm ?_; assumption) | exact ne_of (by assumption) (by assumption) (by intro q; cases q) | exact ne_of_none (by assumption) (by assumption) | exact Ne.symm (ne_of_none (by assumption) (by assumption)))
local macro_rules | `(tactic| walk_at "hp") => `(tactic| first | assumption | exact upd_same | (refine upd_keep ?_ (by assumption); walk_at "hp") | (refine upd_other ?_ ?_; · walk_at "ne"; · walk_at "hp"))
local macro_rules | `(tactic| walk_at "hl") => `(tactic| first | assumption | exact SqL.of (by walk_at "hp"))
local macro_rules | `(tactic| walk_at "ht") => `(tactic| first | assumption | exact SqT.of (by walk_at "hp"))
local macro_rules | `(tactic| walk_at "rd1") => `(tactic| first
  | ((with_reducible apply rd_var); exact rfl)
  | ((with_reducible apply rd_eq); exact rfl) | ((with_reducible apply rd_ne); exact rfl)
  | with_reducible first
  | refine iteT ?_ | refine iteF ?_ | refine rd_nF ?_ | refine rd_nT ?_ | refine rd_yes ?_ | refine rd_c ?_ | refine rd_op ?_ | refine rd_un ?_ | refine rd_test ?_ | refine rd_B ?_ | refine rd_bl ?_ | refine rd_seq ?_ | refine rd_next ?_ | refine rd_ifs ?_ | refine rd_asg ?_ | refine rd_name ?_ | refine rd_ret ?_ | refine rd_drop ?_
  | refine rd_call ?_ | refine rd_cons ?_ | refine rd_nil ?_ | refine rd_cb ?_ | refine rd_I0 ?_ | refine rd_U ?_ | refine rd_gsub ?_ | refine rd_lst ?_ | refine rd_tup ?_ | refine rd_if ?_ | refine rd_not ?_ | refine rd_rng1 ?_ | refine rd_itup ?_ | refine rd_ilst ?_ | refine rd_bm ?_ | refine rd_bm0 ?_ | refine rd_andV ?_ | refine rd_orV ?_ | refine rd_notV ?_)
local macro_rules | `(tactic| walk_at "rd") => `(tactic| repeat walk_at "rd1")
local macro_rules | `(tactic| walk_at "ci") => `(tactic| first | assumption | (show (0 : Int) < _; first | decide | omega) | exact ⟨by decide, by decide⟩ | exact Or.inr ⟨by decide, by decide⟩ | exact Or.inl ⟨by decide, by decide⟩ | exact ⟨by decide, by decide, by decide⟩ | exact Or.inl ⟨by omega, by omega⟩ | exact Or.inr ⟨by omega, by omega⟩)
local macro_rules | `(tactic| walk_at "ix") => `(tactic| first
  | ((with_reducible apply rd_ixL); (walk_at "hl"); exact rfl)
  | ((with_reducible apply rd_ixT); (walk_at "ht"); exact rfl)
  | ((with_reducible apply rd_lenL); (walk_at "hl"))
  | ((with_reducible apply rd_lenT); (walk_at "ht"))
  | ((with_reducible apply rd_tupOf); (walk_at "hl"))
  | ((with_reducible apply rd_listOf); (walk_at "hl"))
  | (with_reducible refine rd_min2 ?_)
  | ((with_reducible apply rd_I); (walk_at "ci"))
  | ((with_reducible apply rd_setL); (walk_at "hp"); exact rfl))
local macro_rules | `(tactic| walk_at "gs") => `(tactic| repeat first | walk_at "rd1" | walk_at "ix")
local macro_rules | `(tactic| walk_at "go") => `(tactic| repeat first | walk_at "rd1" | walk_at "ix" | with_reducible refine rd_and ?_ | with_reducible refine rd_or ?_)
local macro_rules | `(tactic| walk_at "fo") => `(tactic| (with_reducible refine rd_for ?_))
local macro_rules | `(tactic| walk_at "pm") => `(tactic| repeat first
  | with_reducible first | refine rd_pcons ?_ | refine rd_pstr ?_ | refine rd_pcap ?_ | refine rd_pwild ?_ | refine rd_pnil ?_ | refine rd_por ?_ | refine rd_pno ?_
  | ((with_reducible refine rd_eq rfl ?_); refine ⟨_, rfl, ?_⟩; first | refine rd_T rfl ?_ | refine rd_F (by decide) ?_)
  | dsimp only [List.nil_append, List.singleton_append, List.cons_append, setAll])
local macro_rules | `(tactic| walk_at "pc") => `(tactic| (refine rd_case ?_); (first | (refine rd_phit (SqT.of (by assumption)) rfl ?_) | (refine rd_pmiss (SqT.of (by assumption)) (by simp) ?_)); (walk_at "pm"))

theorem pe_cstr {X : Cx} {x s : Str} {pos : Pos} (h : ∃ t, X.mg x = some (.str s t)) (hg : Gl X x := by rfl) (hd : (x == ("__debug__" : Str)) = false := by decide) : PE X (.Name x pos) (tC (.str s)) := by
  obtain ⟨t, e⟩ := h
  exact pe_glob hg e ⟨t, rfl⟩ hd
theorem tl_minus : TL.tl ("-" : Str) = [45] := by decide +kernel
theorem subAt_minus (w : Str) : Builtin.Str.subAt w "-" 0 = decide ((TL.tl w).head? = some 45) := by
  unfold Builtin.Str.subAt
  have e1 : ("-" : Str).cps = #[45] := by decide +kernel
  rw [e1]
  have e2 : (w.cps.extract 0 (0 + ("-" : Str).length) == #[45]) = decide ((w.cps.extract 0 (0 + ("-" : Str).length)).toList = [45]) := by
    by_cases h : w.cps.extract 0 (0 + ("-" : Str).length) = #[45]
    · rw [h]; decide
    · have h2 : ¬ (w.cps.extract 0 (0 + ("-" : Str).length)).toList = [45] := fun z => h (by rw [← Array.toList_inj]; exact z)
      rw [decide_eq_false h2]
      exact beq_false_of_ne h
  rw [e2, Array.toList_extract, show ("-" : Str).length = 1 by decide +kernel]
  show decide (List.take 1 (w.cps.toList.drop 0) = [45]) = decide (w.cps.toList.head? = some 45)
  rw [List.drop_zero]
  cases w.cps.toList with
  | nil => decide
  | cons a r => simp
theorem tl_unm (w : Str) : TL.tl (Txt.removeprefix w "-") = unm (TL.tl w) := by
  unfold Txt.removeprefix Txt.affix
  rw [subAt_minus]
  have l1 : ("-" : Str).length = 1 := by decide +kernel
  by_cases h : (TL.tl w).head? = some 45
  · rw [decide_eq_true h, if_pos rfl]
    obtain ⟨r, e⟩ : ∃ r, TL.tl w = 45 :: r := by
      cases q : TL.tl w with
      | nil => rw [q] at h; cases h
      | cons a r => rw [q] at h; cases h; exact ⟨r, rfl⟩
    dsimp only
    have lw : w.length = r.length + 1 := by rw [TL.len_tl, e, List.length_cons]
    have : ¬ ((w.length - ("-" : Str).length == w.length) = true) := by
      rw [beq_iff_eq, l1, lw]; omega
    rw [if_neg this, TL.tl_strSub, e, l1, lw]
    show ((45 :: r).drop 1).take (r.length + 1 - 1) = r
    simp
  · rw [decide_eq_false h, if_neg Bool.false_ne_true]
    dsimp only
    rcases unm_cases (TL.tl w) with ⟨r, e, _⟩ | ⟨e, _⟩
    · rw [e] at h; exact absurd rfl h
    · exact e.symm
theorem unm_len (w : Str) : (Txt.removeprefix w "-").length ≤ w.length := by
  rw [TL.len_tl, TL.len_tl, tl_unm]
  rcases unm_cases (TL.tl w) with ⟨r, e, e1, _⟩ | ⟨e, _⟩
  · rw [e1, e, List.length_cons]; omega
  · rw [e]; exact Nat.le_refl _
theorem tl_zero : TL.tl ("0" : Str) = [48] := by decide +kernel
theorem tl_figs : TL.tl ("0123456789" : Str) = [48, 49, 50, 51, 52, 53, 54, 55, 56, 57] := by decide +kernel
theorem fig_in (c : Nat) : decide (c ∈ ("0123456789" : Str).cps.toList) = figB c := by
  show decide (c ∈ TL.tl ("0123456789" : Str)) = _
  rw [tl_figs]
  unfold figB
  rw [← Bool.decide_and]
  refine decide_eq_decide.mpr ?_
  simp only [List.mem_cons, List.not_mem_nil, or_false]
  omega
theorem eq_zero {w : Str} : w = "0" ↔ TL.tl w = [48] := ⟨fun h => by rw [h]; exact tl_zero, fun h => TL.ext_tl (by rw [h, tl_zero])⟩
def spIsNum : Sp := fun vs H Q _ => ∃ w : Str, vs = [.str w] ∧ w.length ≤ 1000000 ∧ ∀ H', Fr [] H H' → Q (.bl (numW w)) H'
section
variable {P : Program} {w : World} {K : PySem.W.Frag} {mg : Str → Option Value} {base : Heap} {f : Addr} {fd : FuncData}
theorem sc_is_number_word : FnScope ["word", "figures", "sign"] ["word"] (defScope s_is_number_word) := ⟨rfl, rfl, rfl, by decide +kernel, rfl, by decide +kernel, by decide +kernel⟩
theorem ok_is_number_word (T : Txt K mg) (F : FnP K "is_number_word" "is_number_word" s_is_number_word f fd) : FnOk P w K mg base CX0 1 f fd ["word"] spIsNum := by
  refine ok0 F sc_is_number_word (fun vs H Q E h => ?_) (fun cdv A outer s H vs Q E hr h => ?_)
  · obtain ⟨w, rfl, _⟩ := h
    rfl
  · obtain ⟨w, rfl, hw, k⟩ := h
    refine ⟨_, (pss_cons (ps_if (pt_cmpR op_eq (pv 0) pe_str (nomark _))
    (pss_one (ps_ret pe_bl)) pss_nil)
  (pss_cons (ps_set (i := 1) sc_is_number_word.nd rfl (Or.inl rfl) (pe_bm PySem.F.plainAttrs_str PySem.F.slot_str_removeprefix PySem.F.type_str_removeprefix mt_removeprefix (pv 0) (pa_cons pe_str pa_nil)))
  (pss_cons (ps_if (PW.pt (pw_or (pt_not (pt_chain op_le op_le pe_int (pe_callB call_len_str (by rfl) T.free_len (by decide +kernel) (pa_cons (pv 1) pa_nil)) (pe_cint T.c_FIGURES_AT_MOST))) (pw_or1 (pt_cmpR op_eq (pe_ix ix_str (pv 1) pe_int (fun _ _ => rfl)) pe_str (nomark _)))))
    (pss_one (ps_ret pe_bl)) pss_nil)
  (pss_one (ps_ret (pe_callB (cr_allK K rfl) (by rfl) T.free_all (by decide +kernel) (pa_cons (pe_lc (own := [("sign", 2)]) (g := gName 2) rfl sc_is_number_word.nd (pi_str (pv 1)) (blkOk_by (N := ["word", "figures", "sign"]) (sc := defScope s_is_number_word) (by decide +kernel)) (fun _ _ _ _ _ => pg_name (i := 2) sc_is_number_word.nd rfl (Or.inl rfl)) (fun _ _ _ _ _ => pts_nil) (fun _ _ _ _ _ => (pe_cmpR op_in_sign (pv 2) (pe_cstr T.c_FIGURES) (by rfl)))) pa_nil))))))), ?_⟩
    try dsimp only [cxOf, Cx.nox, Cx.wish]
    refine rd_at (σ' := [some (.str w), none, none]) rfl ?_
    have sl : w.length ≤ sizeLine := Nat.le_trans hw (by decide)
    have nd : numW w = numB' (TL.tl w) := rfl
    unfold numB' at nd
    walk_at "go"
    refine rd_dec (fun c => ?_) (fun c => ?_)
    · walk_at "go"
      have c : w = "0" := V.str.inj c
      rw [c] at k
      rw [show numW "0" = true by decide +kernel] at k
      exact k H (Fr.refl _ _)
    have c0 : ¬ TL.tl w = [48] := fun z => c (congrArg V.str (eq_zero.mpr z))
    rw [decide_eq_false c0, Bool.false_or] at nd
    walk_at "go"
    refine ⟨rfl, ?_⟩
    walk_at "go"
    refine ⟨w, "-", rfl, rfl, sl, ?_⟩
    have fl := unm_len w
    have ft := tl_unm w
    generalize Txt.removeprefix w "-" = z at *
    walk_at "go"
    have zs : z.length ≤ sizeLine := Nat.le_trans fl sl
    have zl : z.length = (unm (TL.tl w)).length := by rw [TL.len_tl, ft]
    refine rd_chain ?_
    walk_at "go"
    refine ⟨z, rfl, zs, ?_⟩
    walk_at "go"
    refine rd_dec (fun c1 => ?_) (fun c1 => ?_)
    rotate_left
    · walk_at "go"
      rw [show digB (unm (TL.tl w)) = false from Bool.eq_false_iff.mpr fun q => c1 (by have := (digB_iff.mp q).1; omega), Bool.false_and] at nd
      rw [nd] at k
      exact k H (Fr.refl _ _)
    walk_at "go"
    refine rd_ndec (fun c2 => ?_) (fun c2 => ?_)
    · walk_at "go"
      rw [show digB (unm (TL.tl w)) = false from Bool.eq_false_iff.mpr fun q => c2 (by have := (digB_iff.mp q).2.1; omega), Bool.false_and] at nd
      rw [nd] at k
      exact k H (Fr.refl _ _)
    walk_at "go"
    obtain ⟨a, r, ez⟩ : ∃ a r, TL.tl z = a :: r := by
      cases q : TL.tl z with
      | nil => rw [TL.len_tl, q] at c1; exact absurd c1 (by decide)
      | cons a r => exact ⟨a, r, rfl⟩
    refine ⟨z, 0, a, rfl, rfl, zs, by show atI (TL.tl z) 0 = some a; rw [ez]; exact atI_nat (xs := a :: r) (j := 0) rfl, ?_⟩
    walk_at "go"
    have hd : (unm (TL.tl w)).head? = some a := by rw [← ft, ez]; rfl
    refine rd_dec (fun c3 => ?_) (fun c3 => ?_)
    · walk_at "go"
      have c3 := congrArg TL.tl (V.str.inj c3)
      rw [tl_zero] at c3
      have : a = 48 := (List.cons.inj c3).1
      rw [hd, this, show decide (some 48 ≠ some 48) = false by decide, Bool.and_false] at nd
      rw [nd] at k
      exact k H (Fr.refl _ _)
    have c4 : a ≠ 48 := fun z => c3 (by rw [z]; congr 1)
    rw [hd, show decide (some a ≠ some 48) = true by simpa using c4, Bool.and_true] at nd
    walk_at "go"
    refine ⟨_, rfl, z, rfl, fun D hD => ?_⟩
    have zc : z.cps.toList = unm (TL.tl w) := ft
    have zn : z.cps.size = z.cps.toList.length := (Array.length_toList).symm
    refine lc_it (walk_str (z := z)) (fun i H1 => H1 D = some (.lst (((z.cps.toList.take i).map figB).map V.bl)) ∧ Fr [] H H1) ⟨upd_same, Fr.new hD⟩ (fun i H1 _ _ => trivial) ?_ ?_
    · rintro i y H1 H2 hi ⟨e1, f1⟩ ⟨rfl, c, hc, rfl⟩
      rw [← Array.getElem?_toList] at hc
      walk_at "go"
      refine ⟨rfl, ?_⟩
      walk_at "go"
      refine ⟨c, "0123456789", rfl, rfl, _, e1, by rw [List.length_map, List.length_map, List.length_take]; exact Nat.lt_of_le_of_lt (show min i z.cps.toList.length ≤ 30 by have e9 : z.cps.toList.length = (unm (TL.tl w)).length := congrArg List.length zc; omega) (by decide), ?_, f1.trans (Fr.put (S := [D]) (by simp) (nt e1)) fun b hb => ?_⟩
      · rw [upd_same, List.take_succ, hc, List.map_append, List.map_append, fig_in]
        rfl
      · rw [List.mem_singleton] at hb
        rw [hb]; exact .inr hD
    · rintro H1 ⟨e1, f1⟩
      rw [zn, List.take_length] at e1
      walk_at "go"
      refine ⟨D, _, rfl, SqL.of e1, ?_⟩
      have q : (z.cps.toList.map figB).all id = numW w := by
        rw [List.all_map, nd, zc]
        unfold digB
        rw [← zl, decide_eq_true (by omega), decide_eq_true (by omega)]
        rfl
      rw [q]
      exact k _ f1
end
end Dc

set_option Elab.async false
set_option linter.all false
set_option maxRecDepth 100000
set_option maxHeartbeats 2000000
namespace Dc
open PySem PySem.Spec PyProof.Rows L2
/-! ### a comprehension whose element may raise -/
theorem note_alike {e : Value} {c d : Env} (h : c.frame = d.frame) : noteFrame e c = noteFrame e d := by
  unfold noteFrame PySem.frameOf
  rw [h]
/-- an exception over X, the block at C standing yet -/
def Air (X : Cx) (pins : List (Addr × Obj)) (σ : L2.St) (C : Addr) (E : XK) (u : Value) (s' : Shared) : Prop :=
  ∃ (a : Addr) (B : Heap) (sI : Shared) (H : Hp) (cls : Value) (d : Option Addr) (m : Str → Option Value), u = .ref a ∧ Inv X pins σ H sI ∧ (∀ b o, sI.heap.get? b = some o → b ∉ frs X.stack → B.get? b = some o) ∧ sI.heap.UpToSlots s'.heap ∧
    PySem.HandSPX.FlyingZ B X.stack a (Zc cls d) s'.heap ∧ H a = none ∧ s'.os = sI.os ∧ AllBare s'.gens ∧ E cls d H ∧ a ≠ C ∧ sI.heap.get? C = none ∧ B.get? C = none ∧ C ∉ frs X.stack ∧ s'.heap.Ns C m
theorem ff_less {B B1 h : Heap} (hB : ∀ b, B.get? b = none → B1.get? b = none) : ∀ {l : List Env}, h.FunFrames B l → h.FunFrames B1 l
  | [], _ => trivial
  | _ :: _, ⟨hk, ⟨L, o, hf, hn, ho, hd⟩, hr⟩ => ⟨hk, ⟨L, o, hf, hB L hn, ho, hd⟩, ff_less hB hr⟩
theorem ff_but {B h h' : Heap} {C : Addr} (k : ∀ b, b ≠ C → h'.get? b = h.get? b) : ∀ {l : List Env}, C ∉ frs l → h.FunFrames B l → h'.FunFrames B l
  | [], _, _ => trivial
  | env :: l, hC, ⟨hk, ⟨L, o, hf, hn, ho, hd⟩, hr⟩ =>
    have hL : L ∈ frs (env :: l) := List.mem_filterMap.mpr ⟨env, List.mem_cons_self, hf⟩
    ⟨hk, ⟨L, o, hf, hn, (k L fun z => hC (z ▸ hL)).trans ho, hd⟩, ff_but k (fun z => hC (by
      obtain ⟨e, he, q⟩ := List.mem_filterMap.mp z
      exact List.mem_filterMap.mpr ⟨e, List.mem_cons_of_mem _ he, q⟩)) hr⟩
section
variable {X : Cx} {pins : List (Addr × Obj)} {σ : L2.St} {H : Hp} {s s' : Shared} {E : XK} {W : WX} {C : Addr}
theorem Air.of_call {u : Value} {m : Str → Option Value} (I : Inv X pins σ H s) (hC : FpOk X pins H C) (hm : s.heap.Ns C m) (c : L2.CX X.prog X.w X.stack H s E u s') : Air X pins σ C E u s' := by
  obtain ⟨a, B, H', cls, d, rfl, fl, hok, ub, na, os, ag, hE⟩ := c
  have hCs : C ∉ frs X.stack := fun z => by
    rcases List.mem_cons.mp (I.stkSub C z) with q | q
    · exact hC.2.1 q
    · exact hC.2.2.1 q
  obtain ⟨oC, es, ep, eC, rC⟩ := hm
  have bC := ub.keep C oC eC hC.1 hCs
  have st : B.StaysIn s'.heap := fl.1
  have sC := st C oC bC
  have aC : a ≠ C := fun z => by
    have := fl.2.1
    rw [z, bC] at this
    cases this
  have nC : H' C = none := ub.free C oC eC hC.1
  obtain ⟨B1, b1, b2⟩ := restrict B fun b => decide (b ≠ C)
  have bB : ∀ b, b ≠ C → B1.get? b = B.get? b := fun b hb => b1 b (decide_eq_true hb)
  have bN : B1.get? C = none := b2 C (by simp)
  have bS : ∀ b o, B1.get? b = some o → B.get? b = some o ∧ b ≠ C := fun b o e => by
    by_cases hb : b = C
    · rw [hb, bN] at e; cases e
    · exact ⟨(bB b hb).symm.trans e, hb⟩
  have bL : ∀ b, B.get? b = none → B1.get? b = none := fun b e => by
    cases q : B1.get? b with
    | none => rfl
    | some o => have := (bS b o q).1; rw [e] at this; cases this
  obtain ⟨G, g1, g2⟩ := restrict s'.heap fun b => (B1.get? b).isSome || decide (b ∈ frs X.stack)
  have gB : ∀ b o, B.get? b = some o → b ≠ C → G.get? b = some o := fun b o e hb => by
    rw [g1 b (by simp [bB b hb, e])]
    exact st b o e
  have gF : ∀ b, b ∈ frs X.stack → G.get? b = s'.heap.get? b := fun b hb => g1 b (by simp [hb])
  have gC : G.get? C = none := g2 C (by simp [bN, hCs])
  have og : ∀ b o, G.get? b = some o → s'.heap.get? b = some o ∧ ((B1.get? b).isSome = true ∨ b ∈ frs X.stack) := fun b o e => by
    cases q : ((B1.get? b).isSome || decide (b ∈ frs X.stack)) with
    | false => rw [g2 b q] at e; cases e
    | true =>
      rw [g1 b q] at e
      exact ⟨e, by simpa [Bool.or_eq_true] using q⟩
  obtain ⟨f1, f2, f3, oe, vs, T, oT, ts, t1, t2, t3, t4, t5, t6, t7, t8, t9⟩ := fl
  refine ⟨a, B1, { s with heap := G, gens := s'.gens, drawn := s'.drawn, toks := s'.toks }, H', cls, d, _, rfl, ?_, fun b o e hb => ?_, Heap.UpToSlots.of_keeps fun b o e => (og b o e).1,
    ⟨fun b o e => st b o (bS b o e).1, bL a f2, ff_less bL f3, oe, vs, T, oT, ts, t1, t2, t3, t4, bL T t5, t6, t7, t8, t9⟩, na, os, ag, hE, aC, gC, bN, hCs, ⟨oC, es, ep, sC, rC⟩⟩
  · refine I.call (ch := [C]) ⟨fun b o e n hb hc => gB b o (ub.keep b o e n hb) (by simpa using hc), fun b o e n hb _ => ?_, fun b o e n _ => ub.free b o e n, fun b o e hc => ?_, ub.tups, ub.frzs, ub.tbls⟩ (fun b o q => (hok b o q).stay (fun c v hc r => gB c v r fun z => ?_) (fun _ r => r) fun _ _ r => r) ag fun b hb => ?_
    · obtain ⟨sl, q⟩ := ub.slot b o e hb
      exact ⟨sl, by rw [gF b hb]; exact q⟩
    · by_cases hb : b ∈ frs X.stack
      · obtain ⟨sl, q⟩ := ub.slot b o e hb
        exact ⟨_, by rw [gF b hb]; exact q⟩
      · obtain ⟨o', q⟩ := ub.there b o e hb
        exact ⟨o', gB b o' q (by simpa using hc)⟩
    · rw [z] at hc
      rcases hc with hc | hc
      · rw [hc, q] at nC; cases nC
      · rw [nC] at hc; cases hc
    · rw [List.mem_singleton.mp hb]
      exact ⟨hC.2.2.2.1, hC.2.1, hC.2.2.2.2.1, hC.2.2.2.2.2⟩
  · obtain ⟨e', h⟩ := og b o e
    rcases h with h | h
    · obtain ⟨o', q⟩ := Option.isSome_iff_exists.mp h
      have z := st b o' (bS b o' q).1
      rw [e'] at z; cases z
      exact q
    · exact absurd h hb
/-- out of the block -/
theorem Air.out {u : Value} {cenv : Env} (tk : Takes X W) (hW : ∀ cls d σ H, E cls d H → W cls d σ H) (hs : X.stack = X.env :: X.outer) (hf : X.env.frame = some X.env.locals) (hl : cenv.locals = C) (hcf : cenv.frame = X.env.frame) (x : Air X pins σ C E u s') :
    notedBy (model X.prog X.w) X.A cenv (CompFails (model X.prog X.w) X.A X.xe cenv) u s' := by
  obtain ⟨a, B, sI, H, cls, d, m, rfl, I, nb, up, fl, na, os, ag, w, aC, iC, bC, hCs, hns⟩ := x
  have hfr : X.A.frames = some (X.env :: X.outer) := by rw [I.ok.frames, hs]
  rw [hs] at fl
  unfold notedBy
  rw [note_alike hcf]
  refine PySem.HandSPX.looks_onZ Zc.steady hfr hf fl fun h1 hd up1 => ?_
  unfold CompFails
  rw [hl]
  obtain ⟨oC, es, ep, eC, dC, rC⟩ := hns
  obtain ⟨sl, eC1⟩ := up1 C oC eC (fun vs z => by rw [dC] at z; cases z)
  refine ⟨m, ⟨_, es, ep, eC1, dC, rC⟩, fun h' m' _ hsb => ?_⟩
  obtain ⟨d1, d2, d3, oe, vs, T, oT, ts, t1, t2, t3, t4, t5, t6, t7, t8, t9⟩ := hd
  have TC : T ≠ C := fun z => by
    rw [z] at t7
    rw [eC1] at t7
    cases t7
    have t8' : oC.data = .fields ts := t8
    rw [dC] at t8'
    cases t8'
  have kp : ∀ b, b ≠ C → h'.get? b = h1.get? b := fun b hb => hsb.2 b hb
  rw [hs] at hCs
  have hd' : PySem.HandSPX.HeldZ B (X.env :: X.outer) a (Zc cls d) X.env.locals h' := ⟨fun b o e => (kp b fun z => by rw [z, bC] at e; cases e).trans (d1 b o e), d2, ff_but kp hCs d3, oe, vs, T, oT, ts, (kp a aC).trans t1, t2, t3, t4, t5, t6, (kp T TC).trans t7, t8, t9⟩
  unfold PySem.passOn
  refine wpAny_bind (wpAny_field (s := { s' with heap := h' }) ((kp a aC).trans t1) t3 t4 ?_)
  rw [if_neg (show ¬ ((Value.ref T == Value.none) = true) from by simp)]
  rw [hcf, hf]
  refine wpAny_bind (PySem.HandSPX.setFlight_onZ (s := { s' with heap := h' }) hd' fun h2 hd2 up2 => wpAny_throw ?_)
  refine tk _ _ ⟨a, B, sI, pins, σ, H, cls, d, rfl, I, nb, fun b o e hn => ?_, .inr (.inr (by rw [hs]; exact hd2)), na, os, ag, hW _ _ _ _ w⟩
  obtain ⟨sl1, e1⟩ := up b o e hn
  obtain ⟨sl2, e2⟩ := up1 b _ e1 hn
  exact up2 b { o with slots := sl2 } ((kp b fun z => by rw [z, iC] at e; cases e).trans e2) hn
end
/-- the block's context, with its wish -/
abbrev Cx.blx (X : Cx) (s : Shared) (H : Hp) (scope : Scope) (cenv : Env) (fp : List Addr) (R : Value → Shared → Prop) : Cx := Cx.wish (X.blk s H scope cenv fp) R
section
variable {X : Cx} {W : WX} {E : XK}
theorem pe_lcx {elt tg iter : Expr} {scope : Scope} {own : List (Str × Nat)} {pos : Pos} {wi : TI} {g : TG} {te : TE} (hc : X.calm = true) (hN : X.N.Nodup) (tk : Takes X W) (hW : ∀ cls d σ H, E cls d H → W cls d σ H) (hs : X.stack = X.env :: X.outer) (hf : X.env.frame = some X.env.locals)
    (hi : PI X tg iter wi) (ok : BlkOk X.N X.env.scope scope own)
    (hg : ∀ (s : Shared) (H : Hp) (C : Addr) (cl : List (Str × Addr)) (fp : List Addr), PG (X.blk s H scope (compEnvC scope cl C X.env) fp) tg g)
    (he : ∀ (s : Shared) (H : Hp) (C : Addr) (cl : List (Str × Addr)) (fp : List Addr) (R : Value → Shared → Prop), Passes (L2.CX X.prog X.w) (Cx.blx X s H scope (compEnvC scope cl C X.env) fp R) E → PE (Cx.blx X s H scope (compEnvC scope cl C X.env) fp R) elt te)
    (hfi : ∀ x, foldedSetIterable iter X.env x = pure x := by intro _; rfl) :
    PE X (.ListComp elt [⟨tg, iter, [], 0⟩] scope pos) (tLc wi g tYes te (own.map (·.2))) := by
  refine ⟨fun pins s σ H Q I hread => ?_⟩
  rw [eval_ListComp]
  have captured : ∀ y ∈ scope.names, y.2 = .free → ∃ c, X.env.cells.lookup y.1 = some c := fun y hy e => (ok.free y hy e).elim (fun k => I.ok.has _ (.inl k)) fun k => I.ok.has _ (.inr k)
  refine comprehension_at (use := none) rfl hfi (closure_ok captured) ok.kind (fun y hy e => (ok.uniq y hy).trans (congrArg some e)) (thn (hi.run pins s σ H _ I hread) fun xv sa hx => thn hx fun itv sb hb => ?_)
  obtain ⟨it, fp, tn, J, Hb, rfl, Ib, T, stb, fb, q⟩ := hb
  refine wpAny_newObj_type (newEnv_comp ?_) (Nat.zero_le _)
  generalize eD : sb.heap.objs.size = D
  have noD : Hb D = none := Ib.hok.fresh (Nat.le_of_eq eD)
  obtain ⟨Wv, ⟨m0, w0⟩, turn⟩ := q D noD
  generalize esc : ({ sb with heap := sb.heap.push { cls := .type "list", data := .seq ([] : List Value).toArray } } : Shared) = sc
  obtain ⟨Hc, eHc⟩ : ∃ Hc, Hc = upd Hb D (.lst []) := ⟨_, rfl⟩
  have hpc : sc.heap = sb.heap.push { cls := .type "list", data := .seq ([] : List Value).toArray } := by rw [← esc]
  have Ic : Inv X pins σ Hc sc := by
    rw [← esc, eHc]
    refine Ib.laid (t' := sb.toks) (fun b o e => Heap.get?_push_of_some _ e) (Nat.le_of_eq eD) ⟨Nat.zero_le _, [], 0, .nil, ?_⟩
    rw [← eD]
    exact Heap.get?_push_size _ rfl
  have young : ∀ b ∈ fp, b < sb.heap.objs.size := fun b hb => let ⟨_, e, _⟩ := T.obj _ _ stb b hb; Heap.lt_size e
  have fc : ∀ b ∈ fp, FpOk X pins Hc b ∧ b < sc.heap.objs.size := fun b hb => by
    have lt := young b hb
    refine ⟨⟨?_, (fb b hb).2⟩, by rw [hpc, Heap.size_push]; exact Nat.lt_succ_of_lt lt⟩
    rw [eHc, upd_ne (fun z => Nat.ne_of_lt lt (z.trans eD.symm))]
    exact (fb b hb).1
  have stc : tn 0 sc.heap := T.keep _ _ _ stb fun b _ o e => by rw [hpc]; exact Heap.get?_push_of_some _ e
  have Id := block_start Ic ok hN fc
  have pg := hg sc Hc sc.heap.objs.size (cellsFrom (sc.heap.objs.size + 1) scope.names (cloFrom X.env.cells scope.names [])) fp
  have he' := he sc Hc sc.heap.objs.size (cellsFrom (sc.heap.objs.size + 1) scope.names (cloFrom X.env.cells scope.names [])) fp
  have nfp : ∀ b ∈ fp, Hc b = none := fun b hb => (fc b hb).1.1
  show codeAny _ _ (.compStart _ 0 (.ref it) (.ref D) (compEnvC scope (cellsFrom (sc.heap.objs.size + 1) scope.names (cloFrom X.env.cells scope.names [])) sc.heap.objs.size X.env)) (compEnds (model X.prog X.w) X.A X.xe none _ (.ref D) (compEnvC scope (cellsFrom (sc.heap.objs.size + 1) scope.names (cloFrom X.env.cells scope.names [])) sc.heap.objs.size X.env)) { sc with heap := pushCells (sc.heap.push { cls := .type "dict", data := .dict #[] }) scope.names }
  generalize ece : compEnvC scope (cellsFrom (sc.heap.objs.size + 1) scope.names (cloFrom X.env.cells scope.names [])) sc.heap.objs.size X.env = ce at Id pg he' ⊢
  have cL : ce.locals = sc.heap.objs.size := by rw [← ece]; rfl
  have cF : ce.frame = X.env.frame := by rw [← ece]; rfl
  rw [← eHc] at w0
  generalize esd : ({ sc with heap := pushCells (sc.heap.push { cls := .type "dict", data := .dict #[] }) scope.names } : Shared) = sd at Id ⊢
  have std : tn 0 sd.heap := T.keep _ _ _ stc fun b _ o e => by rw [← esd]; exact pushCells_keeps _ _ _ _ (Heap.get?_push_of_some _ e)
  -- from the block back to the def
  have back : ∀ {pins' : List (Addr × Obj)} {σ' : L2.St} {H' : Hp} {s' : Shared} {R : Value → Shared → Prop}, Inv (Cx.blx X sc Hc scope ce fp R) pins' σ' H' s' → Inv X pins σ H' s' ∧ FpOk X pins H' sc.heap.objs.size ∧ ∃ m, s'.heap.Ns sc.heap.objs.size m := fun {pins' σ' H' s' R} I' => by
    refine ⟨Ic.call' (ch := fp) I'.os I'.base I'.hok I'.bare fun b hb => ⟨(fc b hb).1.2.2.2.1, (fc b hb).1.2.1, (fc b hb).1.2.2.2.2.1, (fc b hb).1.2.2.2.2.2⟩, Ic.fpOk (Nat.le_refl _) (cL ▸ I'.free), ?_⟩
    obtain ⟨m, hn, _⟩ := I'.loc
    exact ⟨m, cL ▸ hn⟩
  have pe := he' (Air X pins σ sc.heap.objs.size E) fun pins' σ' H' s1 e s' I' c => by
    obtain ⟨b1, b2, m, b3⟩ := back I'
    exact Air.of_call b1 b2 b3 c
  have out : ∀ e s', Air X pins σ sc.heap.objs.size E e s' → notedBy (model X.prog X.w) X.A ce (CompFails (model X.prog X.w) X.A X.xe ce) e s' := fun e s' x => x.out tk hW hs hf cL cF
  have stat : ∀ {σ' : L2.St} {H' : Hp} {s' : Shared}, Inv (X.blk sc Hc scope ce fp) [] σ' H' s' → (∀ b ∈ fp, H' b = none) → ∀ b ∈ fp, FpOk (X.blk sc Hc scope ce fp) [] H' b := fun {σ' H' s'} I' hn b hb =>
    ⟨hn b hb, (I'.ok.exf b hb).1, I'.ok.exfs b hb, Or.inl hb, (I'.ok.exf b hb).2, fun p hp => nomatch hp⟩
  have loop : codeAny (model X.prog X.w) X.A (.compLoop (.ListComp elt [⟨tg, iter, [], 0⟩] scope pos) 0 (.ref it) (.ref D) ce) (compEnds (model X.prog X.w) X.A X.xe none (EP X pins σ Q) (.ref D) ce) sd := by
    refine compLoop_any (fun n s' => ∃ i H', Inv (X.blk sc Hc scope ce fp) [] (wipe σ (own.map (·.2))) H' s' ∧ tn i s'.heap ∧ (∀ b ∈ fp, H' b = none) ∧ Wv i n H') ?_ m0 ⟨0, Hc, Id, std, nfp, w0⟩
    rintro n se ⟨i, He, Ie, ste, ne, we⟩
    rcases turn i n He we with ⟨stop, qq⟩ | ⟨go, Nx, hNx, step⟩
    · refine thnF (T.done (X.blk sc Hc scope ce fp) rfl rfl rfl hc i [] se _ He (fun _ _ => False) Ie (stat Ie ne) ste stop) fun r sf hsf => ?_
      obtain ⟨rfl, If⟩ := hsf
      obtain ⟨Ig, ⟨f0, f1, f2, f3, f4, f5⟩, m, hm⟩ := back (If.wish fun _ _ => False)
      refine ⟨m, cL.symm ▸ hm, fun h'' sb => ⟨.ref D, He, Ig.turned (t' := sf.toks) (fun b o hb e => (sb.2 b (by rw [cL]; exact hb)).trans e) f0 f1 f3 f4 f5, rfl, qq⟩⟩
    · refine thnF (T.item (X.blk sc Hc scope ce fp) rfl rfl rfl hc i [] se _ He (fun _ _ => False) Ie (stat Ie ne) ste go) fun r sf hsf => ?_
      obtain ⟨u, rfl, hsf⟩ := hsf
      refine thnF hsf fun _ sg hsg => ?_
      obtain ⟨x, Hg, Ig, rg, yg, stg, ng⟩ := hsg
      have Ih := Ig.pinned (stat Ig ng) (T.obj _ _ stg)
      refine thnF (pg.run _ sg _ Hg x u _ Ih rg (step x Hg yg)) fun _ sh hsh => ?_
      obtain ⟨σh, Hh, Ii, hw, qh⟩ := hsh
      refine wpAny_tests_nil ?_
      simp only [if_true]
      have qh : te σh Hh fun y H4 => ∃ acc, H4 D = some (.lst acc) ∧ acc.length < sizeLine ∧ Nx (upd H4 D (.lst (acc ++ [y]))) := qh
      refine wpAny_mono (pe.run _ sh σh Hh _ (Ii.wish _) qh) (fun z si hsi => ?_) out
      obtain ⟨yv, Hj, Ij, rj, acc, hDj, hzj, nx⟩ := hsi
      refine app_ok (X := X.blk sc Hc scope ce fp) Ij.unwish hDj hzj rj fun sk Ik => ?_
      obtain ⟨m', hm, w'⟩ := hNx _ nx
      have pin' : ∀ b ∈ fp, ∀ o, sg.heap.get? b = some o → sk.heap.get? b = some o ∧ upd Hj D (.lst (acc ++ [yv])) b = none := fun b hb o e =>
        have z := Ik.pin (b, o) (List.mem_append_right _ (List.mem_append_right _ (mem_pinsAt hb e)))
        ⟨z.1, z.2.1⟩
      have len : (wipe σ (own.map (·.2))).length = σh.length := by rw [← hw, wipe_length]
      refine ⟨m', hm, i + 1, _, (Ik.unpinned (pins := [])).weak len (fun j v e => (wipe_some (hw.symm ▸ e)).1), T.keep _ _ _ stg fun b hb o e => (pin' b hb o e).1, fun b hb => ?_, w'⟩
      obtain ⟨o, e, _⟩ := T.obj _ _ stg b hb
      exact (pin' b hb o e).2
  exact codeAny_compStart_list loop (T.self X.A 0 _ _ _ std loop)
end
end Dc

set_option Elab.async false
set_option linter.all false
set_option maxRecDepth 100000
set_option maxHeartbeats 2000000
namespace Dc
open PySem PySem.Spec PyProof.Rows L2
local macro_rules | `(tactic| walk_at "ne") => `(tactic| first | assumption | (refine Ne.symm ?_; assumption) | exact ne_of (by assumption) (by assumption) (by intro q; cases q) | exact ne_of_none (by assumption) (by assumption) | exact Ne.symm (ne_of_none (by assumption) (by assumption)))
local macro_rules | `(tactic| walk_at "hp") => `(tactic| first | assumption | exact upd_same | (refine upd_keep ?_ (by assumption); walk_at "hp") | (refine upd_other ?_ ?_; · walk_at "ne"; · walk_at "hp"))
local macro_rules | `(tactic| walk_at "hl") => `(tactic| first | assumption | exact SqL.of (by walk_at "hp"))
local macro_rules | `(tactic| walk_at "ht") => `(tactic| first | assumption | exact SqT.of (by walk_at "hp"))
local macro_rules | `(tactic| walk_at "rd1") => `(tactic| first
  | ((with_reducible apply rd_var); exact rfl)
  | ((with_reducible apply rd_eq); exact rfl) | ((with_reducible apply rd_ne); exact rfl)
  | with_reducible first
  | refine iteT ?_ | refine iteF ?_ | refine rd_nF ?_ | refine rd_nT ?_ | refine rd_yes ?_ | refine rd_c ?_ | refine rd_op ?_ | refine rd_un ?_ | refine rd_test ?_ | refine rd_B ?_ | refine rd_bl ?_ | refine rd_seq ?_ | refine rd_next ?_ | refine rd_ifs ?_ | refine rd_asg ?_ | refine rd_name ?_ | refine rd_ret ?_ | refine rd_drop ?_
  | refine rd_call ?_ | refine rd_cons ?_ | refine rd_nil ?_ | refine rd_cb ?_ | refine rd_I0 ?_ | refine rd_U ?_ | refine rd_gsub ?_ | refine rd_lst ?_ | refine rd_tup ?_ | refine rd_if ?_ | refine rd_not ?_ | refine rd_rng1 ?_ | refine rd_itup ?_ | refine rd_ilst ?_ | refine rd_bm ?_ | refine rd_bm0 ?_ | refine rd_andV ?_ | refine rd_orV ?_ | refine rd_notV ?_)
local macro_rules | `(tactic| walk_at "rd") => `(tactic| repeat walk_at "rd1")
local macro_rules | `(tactic| walk_at "ci") => `(tactic| first | assumption | (show (0 : Int) < _; first | decide | omega) | exact ⟨by decide, by decide⟩ | exact Or.inr ⟨by decide, by decide⟩ | exact Or.inl ⟨by decide, by decide⟩ | exact ⟨by decide, by decide, by decide⟩ | exact Or.inl ⟨by omega, by omega⟩ | exact Or.inr ⟨by omega, by omega⟩)
local macro_rules | `(tactic| walk_at "ix") => `(tactic| first
  | ((with_reducible apply rd_ixL); (walk_at "hl"); exact rfl)
  | ((with_reducible apply rd_ixT); (walk_at "ht"); exact rfl)
  | ((with_reducible apply rd_lenL); (walk_at "hl"))
  | ((with_reducible apply rd_lenT); (walk_at "ht"))
  | ((with_reducible apply rd_tupOf); (walk_at "hl"))
  | ((with_reducible apply rd_listOf); (walk_at "hl"))
  | (with_reducible refine rd_min2 ?_)
  | ((with_reducible apply rd_I); (walk_at "ci"))
  | ((with_reducible apply rd_setL); (walk_at "hp"); exact rfl))
local macro_rules | `(tactic| walk_at "gs") => `(tactic| repeat first | walk_at "rd1" | walk_at "ix")
local macro_rules | `(tactic| walk_at "go") => `(tactic| repeat first | walk_at "rd1" | walk_at "ix" | with_reducible refine rd_and ?_ | with_reducible refine rd_or ?_)
local macro_rules | `(tactic| walk_at "fo") => `(tactic| (with_reducible refine rd_for ?_))
local macro_rules | `(tactic| walk_at "pm") => `(tactic| repeat first
  | with_reducible first | refine rd_pcons ?_ | refine rd_pstr ?_ | refine rd_pcap ?_ | refine rd_pwild ?_ | refine rd_pnil ?_ | refine rd_por ?_ | refine rd_pno ?_
  | ((with_reducible refine rd_eq rfl ?_); refine ⟨_, rfl, ?_⟩; first | refine rd_T rfl ?_ | refine rd_F (by decide) ?_)
  | dsimp only [List.nil_append, List.singleton_append, List.cons_append, setAll])
local macro_rules | `(tactic| walk_at "pc") => `(tactic| (refine rd_case ?_); (first | (refine rd_phit (SqT.of (by assumption)) rfl ?_) | (refine rd_pmiss (SqT.of (by assumption)) (by simp) ?_)); (walk_at "pm"))

/-! ### the words of a text, taken one by one -/
structure WdF (K : PySem.W.Frag) (wc : Addr) : Prop where
  c : Cls K wc
  words : NoAttr K wc "words"
  place : NoAttr K wc "place"
structure WdAt (wc : Addr) (H : Hp) (a dx l : Addr) (ws : List Str) (i : Int) : Prop where
  ins : H a = some (.ins wc dx [("words", .ref l), ("place", .int i)])
  lst : H l = some (.lst (ws.map V.str))
theorem WdAt.ne {wc : Addr} {H : Hp} {a dx l : Addr} {ws : List Str} {i : Int} (h : WdAt wc H a dx l ws i) : a ≠ l := fun z => by
  have := h.ins
  rw [z, h.lst] at this
  cases this
theorem WdAt.fr {wc : Addr} {H H' : Hp} {a dx l : Addr} {ws : List Str} {i : Int} {S : List Addr} (h : WdAt wc H a dx l ws i) (f : Fr S H H') (ha : a ∉ S) (hl : l ∉ S) : WdAt wc H' a dx l ws i := ⟨f.at h.ins ha, f.at h.lst hl⟩
def wdAt (ws : List Str) (n : Nat) : Str := ws.getD n ""
/-- sizes of texts and lists that are read -/
def SzW (ws : List Str) : Prop := ws.length ≤ 1000000 ∧ ∀ x ∈ ws, x.length ≤ 1000000
theorem SzW.at {ws : List Str} (h : SzW ws) (n : Nat) : (wdAt ws n).length ≤ 1000000 := by
  unfold wdAt
  rw [List.getD_eq_getElem?_getD]
  cases e : ws[n]? with
  | none => exact Nat.zero_le _
  | some x => exact h.2 x (List.mem_of_getElem? e)
theorem wd_drop {ws : List Str} {n : Nat} (h : n < ws.length) : ws.drop n = wdAt ws n :: ws.drop (n + 1) := by
  unfold wdAt
  rw [List.drop_eq_getElem_cons h, List.getD_eq_getElem?_getD, List.getElem?_eq_getElem h]
  rfl
theorem wd_end {ws : List Str} {n : Nat} (h : ws.length ≤ n) : wdAt ws n = "" := by
  unfold wdAt
  rw [List.getD_eq_getElem?_getD, List.getElem?_eq_none h]
  rfl
/-- what is wanted of the word at n, which may be the one behind the last -/
theorem bad_at {ws : List Str} {n : Nat} {t : Wt} {st : List Wt} (hn : n ≤ ws.length) (h : stepW t (wdAt ws n) = none) : badW (t :: st) (ws.drop n) = some 0 := by
  by_cases hl : n < ws.length
  · rw [wd_drop hl]; exact badW_stop h
  · rw [List.drop_of_length_le (by omega)]; rfl
theorem good_at {ws : List Str} {n : Nat} {t : Wt} {st more : List Wt} (hn : n ≤ ws.length) (h : stepW t (wdAt ws n) = some more) : n < ws.length ∧ badW (t :: st) (ws.drop n) = (badW (more ++ st) (ws.drop (n + 1))).map (· + 1) := by
  by_cases hl : n < ws.length
  · exact ⟨hl, by rw [wd_drop hl]; exact badW_step h⟩
  · rw [wd_end (by omega)] at h
    rw [show stepW t "" = none by cases t <;> decide +kernel] at h
    cases h
def spWords (wc : Addr) : Sp := fun vs H Q _ => ∃ (a dx : Addr) (t : Str), vs = [.ref a, .str t] ∧ t.length ≤ 100000 ∧ H a = some (.ins wc dx []) ∧ ∀ H' l, WdAt wc H' a dx l (Txt.split t " ") (-1) → H l = none → Fr [a] H H' → Q .non H'
def spTake (wc : Addr) : Sp := fun vs H Q _ => ∃ (a dx l : Addr) (ws : List Str) (n : Nat), vs = [.ref a] ∧ WdAt wc H a dx l ws (n - 1) ∧ n ≤ ws.length ∧ ws.length ≤ 1000000 ∧ ∀ H', WdAt wc H' a dx l ws n → Fr [a] H H' → Q (.str (wdAt ws n)) H'
def spNumOf (wc bt : Addr) : Sp := fun vs H Q E => ∃ (a dx l : Addr) (ws : List Str) (n : Nat) (x : Str), vs = [.ref a, .str x] ∧ WdAt wc H a dx l ws n ∧ n ≤ 1000000 ∧ x.length ≤ 1000000 ∧ (numW x = true → ∀ H', Fr [] H H' → Q (.int (w2n x)) H') ∧ (numW x = false → BtE bt n [] H E)
def spEnd (wc bt : Addr) : Sp := fun vs H Q E => ∃ (a dx l : Addr) (ws : List Str) (n : Nat), vs = [.ref a] ∧ WdAt wc H a dx l ws (n - 1) ∧ n ≤ 1000000 ∧ (¬ n < ws.length → Q .non H) ∧ (n < ws.length → BtE bt n [] H E)
def spNums (wc bt : Addr) : Sp := fun vs H Q E => ∃ (a dx l : Addr) (ws : List Str) (n k : Nat), vs = [.ref a, .int k] ∧ WdAt wc H a dx l ws (n - 1) ∧ n ≤ ws.length ∧ k ≤ 2 ∧ SzW ws ∧ (∀ j, (∀ st, badW (List.replicate k .num ++ st) (ws.drop n) = some j) → BtE bt (n + j : Nat) [a] H E) ∧
  ∀ (ns : List Int) H' p, ns.length = k → (∀ x ∈ ns, numOk x) → n + k ≤ ws.length → ws.drop n = ns.map n2w ++ ws.drop (n + k) → WdAt wc H' a dx l ws ((n + k : Nat) - 1) → H' p = some (.tup (ns.map V.int)) → Fr [a] H H' → Q (.ref p) H'
def spRow (wc bt : Addr) : Sp := fun vs H Q E => ∃ (a dx l : Addr) (ws : List Str) (n : Nat), vs = [.ref a] ∧ WdAt wc H a dx l ws (n - 1) ∧ n ≤ ws.length ∧ SzW ws ∧ (∀ j, (∀ st, badW (.nums :: st) (ws.drop n) = some j) → BtE bt (n + j : Nat) [a] H E) ∧
  ∀ (ns : List Int) H' p m, (∀ x ∈ ns, numOk x) → m = n + ns.length + 1 → m ≤ ws.length → ws.drop n = ns.map n2w ++ ((";" : Str) :: ws.drop m) → WdAt wc H' a dx l ws ((m : Nat) - 1) → H' p = some (.tup (ns.map V.int)) → Fr [a] H H' → Q (.ref p) H'
def spMk (wc bt : Addr) : Sp := fun vs H Q E => ∃ (a dx l : Addr) (ws : List Str) (n : Nat), vs = [.ref a] ∧ WdAt wc H a dx l ws (n - 1) ∧ n ≤ ws.length ∧ SzW ws ∧ (∀ j, (∀ st, badW (.mk :: st) (ws.drop n) = some j) → BtE bt (n + j : Nat) [a] H E) ∧
  ∀ (k : Mkr) H' p m, k.num → m = n + k.words.length → m ≤ ws.length → ws.drop n = k.words ++ ws.drop m → WdAt wc H' a dx l ws ((m : Nat) - 1) → MkAt H' p k → Fr [a] H H' → Q (.ref p) H'
section
variable {P : Program} {w : World} {K : PySem.W.Frag} {mg : Str → Option Value} {base : Heap} {f : Addr} {fd : FuncData} {wc bt : Addr}
theorem sc_Words___init__ : FnScope ["self", "text"] ["self", "text"] (defScope s_Words___init__) := ⟨rfl, rfl, rfl, by decide +kernel, rfl, by decide +kernel, by decide +kernel⟩
theorem ok_Words___init__ (T : Txt K mg) (W : WdF K wc) (F : FnP K "__init__" "Words.__init__" s_Words___init__ f fd) : FnOk P w K mg base CX0 1 f fd ["self", "text"] (spWords wc) := by
  refine ok0 F sc_Words___init__ (fun vs H Q E h => ?_) (fun cdv A outer s H vs Q E hr h => ?_)
  · obtain ⟨a, dx, t, rfl, _⟩ := h
    rfl
  · obtain ⟨a, dx, t, rfl, ht, e, k⟩ := h
    refine ⟨_, (pss_cons (ps_fld (pv 0) (pe_bm PySem.F.plainAttrs_str PySem.F.slot_str_split PySem.F.type_str_split mt_split (pv 1) (pa_cons pe_str pa_nil)) rfl)
  (pss_one (ps_fld (pv 0) (pe_un un_neg pe_int) rfl))), ?_⟩
    try dsimp only [cxOf, Cx.nox, Cx.wish]
    refine rd_at (σ' := [some (.ref a), some (.str t)]) rfl ?_
    walk_at "go"
    refine rd_fset ?_
    walk_at "go"
    refine ⟨rfl, ?_⟩
    walk_at "go"
    refine ⟨t, " ", rfl, rfl, by decide +kernel, Nat.le_trans (show t.length + 2 ≤ 200000 by omega) (by decide), fun l hl => ?_⟩
    have e1 : upd H l (.lst ((Txt.split t " ").map V.str)) a = some (.ins wc dx []) := upd_keep e hl
    have f1 : Fr [] H (upd H l (.lst ((Txt.split t " ").map V.str))) := Fr.new hl
    have el : upd H l (.lst ((Txt.split t " ").map V.str)) l = some (.lst ((Txt.split t " ").map V.str)) := upd_same
    generalize upd H l (.lst ((Txt.split t " ").map V.str)) = H1 at *
    walk_at "go"
    refine rd_st e1 W.c W.words (by show 0 < 1000; omega) ?_
    have e2 : upd H1 a (.ins wc dx [("words", .ref l)]) a = some (.ins wc dx [("words", .ref l)]) := upd_same
    dsimp only
    walk_at "go"
    refine rd_fset ?_
    walk_at "go"
    refine rd_st e2 W.c W.place (by show 1 < 1000; omega) ?_
    have nel : l ≠ a := fun z => by rw [z, e1] at el; cases el
    refine k _ l ⟨upd_same.trans rfl, ?_⟩ hl (((f1.mono fun b hb => by cases hb).putN (.inl (by simp)) (nt e1)).putN (.inl (by simp)) (nt e2))
    exact upd_other nel (upd_other nel el)
theorem sc_Words_take : FnScope ["self"] ["self"] (defScope s_Words_take) := ⟨rfl, rfl, rfl, by decide +kernel, rfl, by decide +kernel, by decide +kernel⟩
theorem ok_Words_take (T : Txt K mg) (W : WdF K wc) (F : FnP K "take" "Words.take" s_Words_take f fd) : FnOk P w K mg base CX0 1 f fd ["self"] (spTake wc) := by
  refine ok0 F sc_Words_take (fun vs H Q E h => ?_) (fun cdv A outer s H vs Q E hr h => ?_)
  · obtain ⟨a, dx, l, ws, n, rfl, _⟩ := h
    rfl
  · obtain ⟨a, dx, l, ws, n, rfl, hw, hn, hl, k⟩ := h
    refine ⟨_, (pss_cons (ps_fldaug (pv 0) pe_int in_add)
  (pss_cons (ps_if (pt_cmpR op_eq (pe_fld (pv 0) rfl) (pe_callB (call_len1K K) (by rfl) T.free_len (by decide +kernel) (pa_cons (pe_fld (pv 0) rfl) pa_nil)) (nomark _))
    (pss_one (ps_ret pe_str)) pss_nil)
  (pss_one (ps_ret (pe_ix (ix_listK K) (pe_fld (pv 0) rfl) (pe_fld (pv 0) rfl) (fun _ _ => rfl)))))), ?_⟩
    try dsimp only [cxOf, Cx.nox, Cx.wish]
    refine rd_at (σ' := [some (.ref a)]) rfl ?_
    walk_at "go"
    refine rd_faug rfl hw.ins W.c W.place rfl ?_
    walk_at "go"
    refine ⟨_, _, rfl, rfl, dx, _, hw.ins, by show 2 < 1000; omega, ?_⟩
    have en : (n : Int) - 1 + 1 = n := by omega
    rw [show putF "place" (V.int ((n : Int) - 1 + 1)) ([("words", .ref l), ("place", .int ((n : Int) - 1))] : List (Str × V)) = ([("words", .ref l), ("place", .int n)] : List (Str × V)) by rw [en]; rfl]
    have h2 : WdAt wc (upd H a (.ins wc dx [("words", .ref l), ("place", .int n)])) a dx l ws n := ⟨upd_same, upd_other hw.ne.symm hw.lst⟩
    have fr := k _ h2 (Fr.put (S := [a]) (by simp) (nt hw.ins))
    generalize upd H a (.ins wc dx [("words", .ref l), ("place", .int n)]) = H1 at *
    dsimp only
    walk_at "go"
    refine rd_sf rfl h2.ins W.c W.place rfl ?_
    walk_at "go"
    refine rd_sf rfl h2.ins W.c W.words rfl ?_
    walk_at "go"
    refine rd_lenL (SqL.of h2.lst) ?_
    walk_at "go"
    refine rd_dec (fun c => ?_) (fun c => ?_)
    · walk_at "go"
      have c := V.int.inj c
      rw [List.length_map] at c
      rw [wd_end (by omega)] at fr
      exact fr
    · walk_at "go"
      refine rd_sf rfl h2.ins W.c W.words rfl ?_
      walk_at "go"
      refine rd_sf rfl h2.ins W.c W.place rfl ?_
      have hlt : n < ws.length := by
        by_cases z : n = ws.length
        · exact absurd (by rw [z, List.length_map]) c
        · omega
      refine rd_ixL (SqL.of h2.lst) (v := .str (wdAt ws n)) (atI_nat (by rw [List.getElem?_map, List.getElem?_eq_getElem hlt]; unfold wdAt; rw [List.getD_eq_getElem?_getD, List.getElem?_eq_getElem hlt]; rfl)) ?_
      exact fr
theorem sc_Words_number_of : FnScope ["self", "word"] ["self", "word"] (defScope s_Words_number_of) := ⟨rfl, rfl, rfl, by decide +kernel, rfl, by decide +kernel, by decide +kernel⟩
theorem ok_Words_number_of (T : Txt K mg) (W : WdF K wc) (BT : BtC P w K mg base bt) (F : FnP K "number_of" "Words.number_of" s_Words_number_of f fd) (G_is_number_word : Cal P w K mg base CX0 1 "is_number_word" ["word"] spIsNum) : FnOk P w K mg base (L2.CX P w) 3 f fd ["self", "word"] (spNumOf wc bt) := by
  refine okX F sc_Words_number_of (fun vs H Q E h => ?_) (fun cdv A outer s H vs Q E hr h px tk po => ?_)
  · obtain ⟨a, dx, l, ws, n, x, rfl, _⟩ := h
    rfl
  · obtain ⟨a, dx, l, ws, n, x, rfl, hw, hn, hx, k1, k2⟩ := h
    refine ⟨_, (pss_cons (ps_if (pt_not (pt_val (pe_cal G_is_number_word (hr.mono (by omega)) pass0 (pa_cons (pv 1) pa_nil))))
    (pss_one (ps_bt rfl tk BT (hr.mono (by omega)) (pe_fld (pv 0) rfl))) pss_nil)
  (pss_one (ps_ret (pe_callTy call_int_str (by rfl) T.free_int (by decide +kernel) (pa_cons (pv 1) pa_nil))))), ?_⟩
    try dsimp only [cxOf, Cx.nox, Cx.wish]
    refine rd_at (σ' := [some (.ref a), some (.str x)]) rfl ?_
    walk_at "go"
    refine ⟨x, rfl, hx, fun H1 f1 => ?_⟩
    refine ⟨_, rfl, ?_⟩
    cases hb : numW x with
    | true =>
      walk_at "go"
      obtain ⟨q1, q2⟩ := int_w2n hb
      exact ⟨x, w2n x, rfl, q1, by omega, k1 hb H1 f1⟩
    | false =>
      walk_at "go"
      refine rd_mko ?_
      walk_at "go"
      have hw1 := hw.fr f1 (by simp) (by simp)
      refine rd_sf rfl hw1.ins W.c W.place rfl ?_
      walk_at "go"
      exact mkbt (by omega) ((k2 hb).mono f1)
theorem sc_Words_check_end : FnScope ["self"] ["self"] (defScope s_Words_check_end) := ⟨rfl, rfl, rfl, by decide +kernel, rfl, by decide +kernel, by decide +kernel⟩
theorem ok_Words_check_end (T : Txt K mg) (W : WdF K wc) (BT : BtC P w K mg base bt) (F : FnP K "check_end" "Words.check_end" s_Words_check_end f fd) : FnOk P w K mg base (L2.CX P w) 3 f fd ["self"] (spEnd wc bt) := by
  refine okX F sc_Words_check_end (fun vs H Q E h => ?_) (fun cdv A outer s H vs Q E hr h px tk po => ?_)
  · obtain ⟨a, dx, l, ws, n, rfl, _⟩ := h
    rfl
  · obtain ⟨a, dx, l, ws, n, rfl, hw, hn, k1, k2⟩ := h
    have en : (n : Int) - 1 + 1 = n := by omega
    refine ⟨_, (pss_one (ps_if (pt_cmpR op_lt (pe_op op_add (pe_fld (pv 0) rfl) pe_int) (pe_callB (call_len1K K) (by rfl) T.free_len (by decide +kernel) (pa_cons (pe_fld (pv 0) rfl) pa_nil)) (nomark _))
    (pss_one (ps_bt rfl tk BT (hr.mono (by omega)) (pe_op op_add (pe_fld (pv 0) rfl) pe_int))) pss_nil)), ?_⟩
    try dsimp only [cxOf, Cx.nox, Cx.wish]
    refine rd_at (σ' := [some (.ref a)]) rfl ?_
    walk_at "go"
    refine rd_sf rfl hw.ins W.c W.place rfl ?_
    walk_at "go"
    refine rd_sf rfl hw.ins W.c W.words rfl ?_
    walk_at "go"
    refine rd_lenL (SqL.of hw.lst) ?_
    walk_at "go"
    rw [en, List.length_map]
    refine rd_dec (fun c => ?_) (fun c => ?_)
    · walk_at "go"
      refine rd_mko ?_
      walk_at "go"
      refine rd_sf rfl hw.ins W.c W.place rfl ?_
      walk_at "go"
      rw [en]
      exact mkbt (by omega) (k2 (by omega))
    · walk_at "go"
      exact k1 (by omega)
end
end Dc

set_option Elab.async false
set_option linter.all false
set_option maxRecDepth 100000
set_option maxHeartbeats 2000000
namespace Dc
open PySem PySem.Spec PyProof.Rows L2
/-! ### texts and their words -/
def spT (t : Str) : List Str := Txt.split t " "
def cnt (t : Str) : Nat := (TL.tl t).count 32
theorem tl_sp : TL.tl (" " : Str) = [32] := by decide +kernel
theorem sp_kind : (" " : Str).cps.all (· < 256) = true := by decide +kernel
theorem spT_tl (t : Str) : (spT t).map TL.tl = TL.spl [32] 0 [] (TL.tl t) := by
  have := TL.split_spl t " " (by rw [tl_sp]; simp) (TL.kind_ok sp_kind)
  rw [tl_sp] at this
  exact this
theorem pre32 (c : Nat) (r : List Nat) : TL.pre [32] (c :: r) = decide (c = 32) := by
  unfold TL.pre
  show ([c] == [32]) = _
  by_cases h : c = 32
  · rw [h]; decide
  · rw [decide_eq_false h]; simp [h]
theorem spl32 (c : Nat) (r acc : List Nat) : TL.spl [32] 0 acc (c :: r) = if c = 32 then acc :: TL.spl [32] 0 [] r else TL.spl [32] 0 (acc ++ [c]) r := by
  by_cases h : c = 32
  · rw [if_pos h, TL.spl_hit (by rw [pre32]; exact decide_eq_true h)]; rfl
  · rw [if_neg h, TL.spl_miss (by rw [pre32]; exact decide_eq_false h)]
theorem spl_free : ∀ (l acc : List Nat), 32 ∉ acc → ∀ p ∈ TL.spl [32] 0 acc l, 32 ∉ p
  | [], acc, h, p, hp => by rw [TL.spl_nil, List.mem_singleton] at hp; rw [hp]; exact h
  | c :: r, acc, h, p, hp => by
    rw [spl32] at hp
    by_cases hc : c = 32
    · rw [if_pos hc] at hp
      rcases List.mem_cons.mp hp with rfl | hp
      · exact h
      · exact spl_free r [] (by simp) p hp
    · rw [if_neg hc] at hp
      refine spl_free r _ (fun z => ?_) p hp
      rcases List.mem_append.mp z with z | z
      · exact h z
      · exact hc (List.mem_singleton.mp z).symm
theorem spl_len : ∀ (l acc : List Nat), (TL.spl [32] 0 acc l).length = l.count 32 + 1
  | [], acc => by rw [TL.spl_nil]; rfl
  | c :: r, acc => by
    rw [spl32]
    by_cases hc : c = 32
    · rw [if_pos hc, List.length_cons, spl_len r, hc, List.count_cons_self]
    · rw [if_neg hc, spl_len r, List.count_cons_of_ne hc]
theorem spT_free {t x : Str} (h : x ∈ spT t) : 32 ∉ TL.tl x := spl_free _ [] (by simp) _ (by rw [← spT_tl]; exact List.mem_map_of_mem h)
theorem spT_len (t : Str) : (spT t).length = cnt t + 1 := by
  have := congrArg List.length (spT_tl t)
  rw [List.length_map, spl_len] at this
  exact this
theorem spT_join (t : Str) : Txt.join " " (spT t) = t := by rw [TL.join_eq]; exact StrLaws.join_split t " "
theorem joinL_len : ∀ {ps : List (List Nat)}, ps ≠ [] → (TL.joinL [32] ps).length + 1 = (ps.map List.length).sum + ps.length
  | [], h => absurd rfl h
  | [p], _ => by simp [TL.joinL]
  | p :: q :: r, _ => by
    have := joinL_len (ps := q :: r) (by simp)
    show (p ++ ([32] ++ TL.joinL [32] (q :: r))).length + 1 = _
    rw [List.length_append, List.length_append, List.map_cons, List.sum_cons, List.length_cons (a := p)]
    simp only [List.length_singleton]
    omega
theorem joinL_cnt : ∀ {ps : List (List Nat)}, ps ≠ [] → (TL.joinL [32] ps).count 32 + 1 = (ps.map (List.count 32)).sum + ps.length
  | [], h => absurd rfl h
  | [p], _ => by simp [TL.joinL]
  | p :: q :: r, _ => by
    have := joinL_cnt (ps := q :: r) (by simp)
    show (p ++ ([32] ++ TL.joinL [32] (q :: r))).count 32 + 1 = _
    rw [List.count_append, List.count_append, List.map_cons, List.sum_cons, List.length_cons (a := p)]
    simp only [List.count_singleton_self]
    omega
theorem join_tl (ps : List Str) : TL.tl (Txt.join " " ps) = TL.joinL [32] (ps.map TL.tl) := by rw [TL.join_eq, TL.tl_join, tl_sp]
theorem join_len {ps : List Str} (h : ps ≠ []) : (Txt.join " " ps).length + 1 = (ps.map (·.length)).sum + ps.length := by
  have := joinL_len (ps := ps.map TL.tl) (by simpa using h)
  rw [TL.len_tl, join_tl, this, List.length_map, List.map_map]
  congr 2
theorem join_cnt {ps : List Str} (h : ps ≠ []) : cnt (Txt.join " " ps) + 1 = (ps.map cnt).sum + ps.length := by
  have := joinL_cnt (ps := ps.map TL.tl) (by simpa using h)
  unfold cnt
  rw [join_tl, this, List.length_map, List.map_map]
  rfl
theorem spT_ne (t : Str) : spT t ≠ [] := fun z => by
  have := spT_len t
  rw [z] at this
  cases this
theorem sum_mem {l : List Nat} {x : Nat} (h : x ∈ l) : x ≤ l.sum := by
  induction l with
  | nil => cases h
  | cons a r ih =>
    rw [List.sum_cons]
    rcases List.mem_cons.mp h with rfl | h
    · omega
    · have := ih h; omega
theorem spT_sum (t : Str) : t.length + 1 = ((spT t).map (·.length)).sum + (spT t).length := by
  have := join_len (spT_ne t)
  rw [spT_join] at this
  exact this
theorem spT_sz {t : Str} (h : t.length ≤ 900000) : SzW (spT t) := by
  have := spT_sum t
  refine ⟨by omega, fun x hx => ?_⟩
  have q := sum_mem (List.mem_map_of_mem (f := (·.length)) hx)
  have : 1 ≤ (spT t).length := by rw [spT_len]; omega
  omega
/-! ### a chain's text, cut into its words -/
theorem n2w_free (i : Int) : 32 ∉ TL.tl (n2w i) := by
  cases i with
  | ofNat a => rw [show TL.tl (n2w (Int.ofNat a)) = _ from tl_pos a]; exact TL.numL_free (.inl (by decide))
  | negSucc a =>
    rw [tl_neg]
    intro h
    rcases List.mem_cons.mp h with h | h
    · cases h
    · exact TL.numL_free (.inl (by decide)) h
theorem mk_free {m : Mkr} {x : Str} (h : x ∈ m.words) : 32 ∉ TL.tl x := by
  cases m with
  | count b s =>
    simp only [Mkr.words, List.mem_cons, List.not_mem_nil, or_false] at h
    rcases h with rfl | rfl | rfl
    · decide +kernel
    · exact n2w_free _
    · exact n2w_free _
  | row ns =>
    simp only [Mkr.words, List.mem_cons, List.mem_append, List.mem_map, List.not_mem_nil, or_false] at h
    rcases h with rfl | ⟨n, hn, rfl⟩ | rfl
    · decide +kernel
    · exact n2w_free _
    · decide +kernel
theorem ws_free : ∀ {c : Ch} {x : Str}, x ∈ c.ws → 32 ∉ TL.tl x
  | .mkr m, x, hx => mk_free (m := m) hx
  | .st c k, x, hx => by
    rcases List.mem_append.mp (show x ∈ c.ws ++ _ from hx) with q | q
    · exact ws_free q
    · rcases List.mem_cons.mp q with rfl | q
      · cases k <;> (simp only [Kd.name]; decide +kernel)
      · obtain ⟨n, hn, rfl⟩ := List.mem_map.mp q
        exact n2w_free n
  | .both c o, x, hx => by
    rcases List.mem_append.mp (show x ∈ c.ws ++ _ from hx) with q | q
    · exact ws_free q
    · rcases List.mem_cons.mp q with rfl | q
      · decide +kernel
      · rcases List.mem_append.mp q with q | q
        · exact ws_free q
        · rw [List.mem_singleton.mp q]; decide +kernel
  | .thn c o, x, hx => by
    rcases List.mem_append.mp (show x ∈ c.ws ++ _ from hx) with q | q
    · exact ws_free q
    · rcases List.mem_cons.mp q with rfl | q
      · decide +kernel
      · rcases List.mem_append.mp q with q | q
        · exact ws_free q
        · rw [List.mem_singleton.mp q]; decide +kernel
theorem words_free {c : Ch} {x : Str} (h : x ∈ c.words) : 32 ∉ TL.tl x := by
  rcases List.mem_append.mp h with q | q
  · exact ws_free q
  · rw [List.mem_singleton.mp q]; decide +kernel
theorem words_ne (c : Ch) : c.words ≠ [] := fun z => by
  have := congrArg List.length z
  unfold Ch.words at this
  rw [List.length_append, List.length_singleton] at this
  cases this
theorem spT_text (c : Ch) : spT c.text = c.words := TL.split_join tl_sp sp_kind (words_ne c) fun p hp => words_free hp
theorem text_len {c : Ch} (ok : c.ok) (hn : c.nm ≤ 4) (hs : c.ns ≤ 12) : c.text.length ≤ 20000 ∧ cnt c.text ≤ 445 := by
  have h1 : ∀ x ∈ c.words, x.length ≤ 31 := fun x hx => by
    rcases List.mem_append.mp hx with q | q
    · exact Ch.ws_31 ok x q
    · rw [List.mem_singleton.mp q]; decide +kernel
  have h2 := sum_31 h1
  have h3 := Ch.ws_len ok
  have h4 : c.words.length = c.ws.length + 1 := by show (c.ws ++ [(".":Str)]).length = _; rw [List.length_append]; rfl
  have h5 := spT_sum c.text
  have h6 := spT_len c.text
  rw [spT_text] at h5 h6
  omega
end Dc

set_option Elab.async false
set_option linter.all false
set_option maxRecDepth 100000
set_option maxHeartbeats 2000000
namespace Dc
open PySem PySem.Spec PyProof.Rows L2
local macro_rules | `(tactic| walk_at "ne") => `(tactic| first | assumption | (refine Ne.symm ?_; assumption) | exact ne_of (by assumption) (by assumption) (by intro q; cases q) | exact ne_of_none (by assumption) (by assumption) | exact Ne.symm (ne_of_none (by assumption) (by assumption)))
local macro_rules | `(tactic| walk_at "hp") => `(tactic| first | assumption | exact upd_same | (refine upd_keep ?_ (by assumption); walk_at "hp") | (refine upd_other ?_ ?_; · walk_at "ne"; · walk_at "hp"))
local macro_rules | `(tactic| walk_at "hl") => `(tactic| first | assumption | exact SqL.of (by walk_at "hp"))
local macro_rules | `(tactic| walk_at "ht") => `(tactic| first | assumption | exact SqT.of (by walk_at "hp"))
local macro_rules | `(tactic| walk_at "rd1") => `(tactic| first
  | ((with_reducible apply rd_var); exact rfl)
  | ((with_reducible apply rd_eq); exact rfl) | ((with_reducible apply rd_ne); exact rfl)
  | with_reducible first
  | refine iteT ?_ | refine iteF ?_ | refine rd_nF ?_ | refine rd_nT ?_ | refine rd_yes ?_ | refine rd_c ?_ | refine rd_op ?_ | refine rd_un ?_ | refine rd_test ?_ | refine rd_B ?_ | refine rd_bl ?_ | refine rd_seq ?_ | refine rd_next ?_ | refine rd_ifs ?_ | refine rd_asg ?_ | refine rd_name ?_ | refine rd_ret ?_ | refine rd_drop ?_
  | refine rd_call ?_ | refine rd_cons ?_ | refine rd_nil ?_ | refine rd_cb ?_ | refine rd_I0 ?_ | refine rd_U ?_ | refine rd_gsub ?_ | refine rd_lst ?_ | refine rd_tup ?_ | refine rd_if ?_ | refine rd_not ?_ | refine rd_rng1 ?_ | refine rd_itup ?_ | refine rd_ilst ?_ | refine rd_bm ?_ | refine rd_bm0 ?_ | refine rd_andV ?_ | refine rd_orV ?_ | refine rd_notV ?_)
local macro_rules | `(tactic| walk_at "rd") => `(tactic| repeat walk_at "rd1")
local macro_rules | `(tactic| walk_at "ci") => `(tactic| first | assumption | (show (0 : Int) < _; first | decide | omega) | exact ⟨by decide, by decide⟩ | exact Or.inr ⟨by decide, by decide⟩ | exact Or.inl ⟨by decide, by decide⟩ | exact ⟨by decide, by decide, by decide⟩ | exact Or.inl ⟨by omega, by omega⟩ | exact Or.inr ⟨by omega, by omega⟩)
local macro_rules | `(tactic| walk_at "ix") => `(tactic| first
  | ((with_reducible apply rd_ixL); (walk_at "hl"); exact rfl)
  | ((with_reducible apply rd_ixT); (walk_at "ht"); exact rfl)
  | ((with_reducible apply rd_lenL); (walk_at "hl"))
  | ((with_reducible apply rd_lenT); (walk_at "ht"))
  | ((with_reducible apply rd_tupOf); (walk_at "hl"))
  | ((with_reducible apply rd_listOf); (walk_at "hl"))
  | (with_reducible refine rd_min2 ?_)
  | ((with_reducible apply rd_I); (walk_at "ci"))
  | ((with_reducible apply rd_setL); (walk_at "hp"); exact rfl))
local macro_rules | `(tactic| walk_at "gs") => `(tactic| repeat first | walk_at "rd1" | walk_at "ix")
local macro_rules | `(tactic| walk_at "go") => `(tactic| repeat first | walk_at "rd1" | walk_at "ix" | with_reducible refine rd_and ?_ | with_reducible refine rd_or ?_)
local macro_rules | `(tactic| walk_at "fo") => `(tactic| (with_reducible refine rd_for ?_))
local macro_rules | `(tactic| walk_at "pm") => `(tactic| repeat first
  | with_reducible first | refine rd_pcons ?_ | refine rd_pstr ?_ | refine rd_pcap ?_ | refine rd_pwild ?_ | refine rd_pnil ?_ | refine rd_por ?_ | refine rd_pno ?_
  | ((with_reducible refine rd_eq rfl ?_); refine ⟨_, rfl, ?_⟩; first | refine rd_T rfl ?_ | refine rd_F (by decide) ?_)
  | dsimp only [List.nil_append, List.singleton_append, List.cons_append, setAll])
local macro_rules | `(tactic| walk_at "pc") => `(tactic| (refine rd_case ?_); (first | (refine rd_phit (SqT.of (by assumption)) rfl ?_) | (refine rd_pmiss (SqT.of (by assumption)) (by simp) ?_)); (walk_at "pm"))

theorem BtE.less {bt : Addr} {i : Int} {S : List Addr} {H : Hp} {E : XK} (h : BtE bt i S H E) : BtE bt i [] H E := fun dx H' e f => h dx H' e (f.mono fun b hb => by cases hb)
theorem BtE.at_ {bt : Addr} {i j : Int} {S : List Addr} {H : Hp} {E : XK} (h : BtE bt i S H E) (e : i = j) : BtE bt j S H E := e ▸ h
theorem bad_nums_at {ws : List Str} {n k i : Nat} {ns : List Int} (hi : i < k) (hl : ns.length = i) (ok : ∀ x ∈ ns, numOk x) (hd : ws.drop n = ns.map n2w ++ ws.drop (n + i)) (hn : n + i ≤ ws.length) (hb : numW (wdAt ws (n + i)) = false) (st : List Wt) :
    badW (List.replicate k .num ++ st) (ws.drop n) = some i := by
  obtain ⟨r, rfl⟩ : ∃ r, k = ns.length + (r + 1) := ⟨k - i - 1, by omega⟩
  rw [hd, ← List.replicate_append_replicate, List.append_assoc, bad_nums ok]
  have e : stepW .num (wdAt ws (n + i)) = none := by show (if numW _ = true then _ else _) = _; rw [hb]; rfl
  rw [List.replicate_succ, List.cons_append, bad_at hn e, hl]
  show some (0 + i) = some i
  rw [Nat.zero_add]
theorem drop_num {ws : List Str} {n i : Nat} {ns : List Int} (hd : ws.drop n = ns.map n2w ++ ws.drop (n + i)) (hw : numW (wdAt ws (n + i)) = true) (hn : n + i ≤ ws.length) : n + i < ws.length ∧ ws.drop n = (ns ++ [w2n (wdAt ws (n + i))]).map n2w ++ ws.drop (n + (i + 1)) := by
  have hl : n + i < ws.length := by
    by_cases h : n + i < ws.length
    · exact h
    · rw [wd_end (by omega), show numW "" = false by decide +kernel] at hw
      cases hw
  refine ⟨hl, ?_⟩
  rw [List.map_append, List.append_assoc, List.map_singleton, n2w_w2n hw, List.singleton_append, ← Nat.add_assoc, ← wd_drop hl]
  exact hd
section
variable {P : Program} {w : World} {K : PySem.W.Frag} {mg : Str → Option Value} {base : Heap} {f : Addr} {fd : FuncData} {wc bt : Addr}
theorem sc_Words_take_numbers : FnScope ["self", "many", "_"] ["self", "many"] (defScope s_Words_take_numbers) := ⟨rfl, rfl, rfl, by decide +kernel, rfl, by decide +kernel, by decide +kernel⟩
theorem ok_Words_take_numbers (T : Txt K mg) (W : WdF K wc) (F : FnP K "take_numbers" "Words.take_numbers" s_Words_take_numbers f fd) (G_take : CalM P w K mg base CX0 1 wc "take" ["self"] (spTake wc)) (G_number_of : CalM P w K mg base (L2.CX P w) 3 wc "number_of" ["self", "word"] (spNumOf wc bt)) :
    FnOk P w K mg base (L2.CX P w) 4 f fd ["self", "many"] (spNums wc bt) := by
  refine okX F sc_Words_take_numbers (fun vs H Q E h => ?_) (fun cdv A outer s H vs Q E hr h px tk po => ?_)
  · obtain ⟨a, dx, l, ws, n, k, rfl, _⟩ := h
    rfl
  · obtain ⟨a, dx, l, ws, n, k, rfl, hw, hn, hk, sz, kE, kQ⟩ := h
    refine ⟨_, (pss_one (ps_ret (pe_callTy (call_tupOfK K) (by rfl) T.free_tuple (by decide +kernel) (pa_cons (pe_lcx (own := [("_", 2)]) (g := gName 2) (E := E) rfl sc_Words_take_numbers.nd tk (fun _ _ _ _ h => h) rfl rfl (pi_range1 (by rfl) T.free_range (pa_cons (pv 1) pa_nil)) (blkOk_by (N := ["self", "many", "_"]) (sc := defScope s_Words_take_numbers) (by decide +kernel)) (fun _ _ _ _ _ => pg_name (i := 2) sc_Words_take_numbers.nd rfl (Or.inl rfl)) (fun _ _ _ _ _ _ px => (pe_cm (pv 0) G_number_of (hr.mono (by omega)) px (pa_cons (pe_cm0 (pv 0) G_take (hr.mono (by omega)) pass0) pa_nil)))) pa_nil)))), ?_⟩
    try dsimp only [cxOf, Cx.nox, Cx.wish]
    refine rd_at (σ' := [some (.ref a), some (.int k), none]) rfl ?_
    walk_at "go"
    refine ⟨_, rfl, k, rfl, by omega, by omega, fun D hD => ?_⟩
    rw [Int.toNat_natCast]
    have nDa : D ≠ a := fun z => by rw [z, hw.ins] at hD; cases hD
    have nDl : D ≠ l := fun z => by rw [z, hw.lst] at hD; cases hD
    refine lc_it walk_range (fun i H1 => ∃ ns : List Int, ns.length = i ∧ (∀ x ∈ ns, numOk x) ∧ n + i ≤ ws.length ∧ ws.drop n = ns.map n2w ++ ws.drop (n + i) ∧ WdAt wc H1 a dx l ws ((n + i : Nat) - 1) ∧ H1 D = some (.lst (ns.map V.int)) ∧ Fr [a] H H1)
      ⟨[], rfl, by simp, hn, by simp, hw.fr (Fr.new (S := []) hD) (by simp) (by simp), upd_same, Fr.new hD⟩ (fun i H1 _ _ => trivial) ?_ ?_
    · rintro i y H1 H2 hi ⟨ns, hl, ok, hni, hd, hw1, e1, f1⟩ ⟨rfl, rfl⟩
      walk_at "go"
      refine ⟨rfl, ?_⟩
      walk_at "go"
      refine rd_meth ?_
      walk_at "go"
      refine rd_m hw1.ins rfl ?_
      walk_at "go"
      refine rd_meth ?_
      walk_at "go"
      refine rd_m hw1.ins rfl ?_
      walk_at "go"
      refine ⟨a, dx, l, ws, n + i, rfl, hw1, hni, sz.1, fun H3 hw3 f3 => ?_⟩
      walk_at "go"
      refine ⟨a, dx, l, ws, n + i, wdAt ws (n + i), rfl, hw3, by have := sz.1; omega, sz.at _, fun hb H4 f4 => ?_, fun hb => ?_⟩
      · obtain ⟨q1, q2⟩ := drop_num hd hb hni
        have e3 := f3.at e1 (by simpa using nDa)
        have e4 := f4.at e3 (by simp)
        refine ⟨_, e4, by rw [List.length_map, hl]; exact Nat.lt_of_le_of_lt (show i ≤ 2 by omega) (by decide), ns ++ [w2n (wdAt ws (n + i))], by rw [List.length_append, hl]; rfl, fun x hx => ?_, by omega, q2, ?_, ?_, ?_⟩
        · rcases List.mem_append.mp hx with hx | hx
          · exact ok x hx
          · rw [List.mem_singleton.mp hx]; exact numOk_w2n hb
        · have hw4 := hw3.fr f4 (by simp) (by simp)
          have : ((n + (i + 1) : Nat) : Int) - 1 = (n + i : Nat) := by omega
          rw [this]
          exact hw4.fr (Fr.put (S := [D]) (by simp) (nt e4)) (by simpa using nDa.symm) (by simpa using nDl.symm)
        · rw [upd_same, List.map_append]; rfl
        · exact (f1.tr (f3.tr (f4.mono fun b hb => by cases hb))).putN (.inr hD) (nt e4)
      · exact ((kE i (bad_nums_at hi hl ok hd hni hb)).mono (f1.tr f3)).less
    · rintro H1 ⟨ns, hl, ok, hni, hd, hw1, e1, f1⟩
      walk_at "go"
      intro p hp
      exact kQ ns _ p hl ok hni hd (hw1.fr (Fr.new (S := []) hp) (by simp) (by simp)) upd_same (f1.newN hp)
theorem sc_Words_take_row : FnScope ["self", "numbers", "word"] ["self"] (defScope s_Words_take_row) := ⟨rfl, rfl, rfl, by decide +kernel, rfl, by decide +kernel, by decide +kernel⟩
theorem ok_Words_take_row (T : Txt K mg) (W : WdF K wc) (F : FnP K "take_row" "Words.take_row" s_Words_take_row f fd) (G_take : CalM P w K mg base CX0 1 wc "take" ["self"] (spTake wc)) (G_number_of : CalM P w K mg base (L2.CX P w) 3 wc "number_of" ["self", "word"] (spNumOf wc bt)) :
    FnOk P w K mg base (L2.CX P w) 4 f fd ["self"] (spRow wc bt) := by
  refine okX F sc_Words_take_row (fun vs H Q E h => ?_) (fun cdv A outer s H vs Q E hr h px tk po => ?_)
  · obtain ⟨a, dx, l, ws, n, rfl, _⟩ := h
    rfl
  · obtain ⟨a, dx, l, ws, n, rfl, hw, hn, sz, kE, kQ⟩ := h
    refine ⟨_, (pss_cons (ps_set (i := 1) sc_Words_take_row.nd rfl (Or.inl rfl) (pe_lst pa_nil))
  (pss_cons (ps_set (i := 2) sc_Words_take_row.nd rfl (Or.inl rfl) (pe_cm0 (pv 0) G_take (hr.mono (by omega)) pass0))
  (pss_cons (ps_while po (pt_cmpR op_ne (pv 2) pe_str (nomark _))
    (pss_cons (ps_expr (pe_bm PySem.F.plainAttrs_list PySem.F.slot_list_append PySem.F.type_list_append mt_append (pv 1) (pa_cons (pe_cm (pv 0) G_number_of (hr.mono (by omega)) px (pa_cons (pv 2) pa_nil)) pa_nil)))
    (pss_one (ps_set (i := 2) sc_Words_take_row.nd rfl (Or.inl rfl) (pe_cm0 (pv 0) G_take (hr.mono (by omega)) pass0)))))
  (pss_one (ps_ret (pe_callTy (call_tupOfK K) (by rfl) T.free_tuple (by decide +kernel) (pa_cons (pv 1) pa_nil))))))), ?_⟩
    try dsimp only [cxOf, Cx.nox, Cx.wish]
    refine rd_at (σ' := [some (.ref a), none, none]) rfl ?_
    walk_at "go"
    refine ⟨Nat.zero_le _, fun D hD => ?_⟩
    have nDa : D ≠ a := fun z => by rw [z, hw.ins] at hD; cases hD
    have nDl : D ≠ l := fun z => by rw [z, hw.lst] at hD; cases hD
    have f0 : Fr [a] H (upd H D (.lst [])) := Fr.new hD
    have e0 : upd H D (.lst []) D = some (.lst (([] : List Int).map V.int)) := upd_same
    have hw0 := hw.fr (Fr.new (S := []) (o := .lst []) hD) (by simp) (by simp)
    generalize upd H D (.lst []) = H0 at *
    walk_at "go"
    refine rd_meth ?_
    walk_at "go"
    refine rd_m hw0.ins rfl ?_
    walk_at "go"
    refine ⟨a, dx, l, ws, n, rfl, hw0, hn, sz.1, fun H1 hw1 f1 => ?_⟩
    walk_at "go"
    have e1 := f1.at e0 (by simpa using nDa)
    replace f0 := f0.tr f1
    clear f1 hw0
    refine ⟨fun μ σ H' => ∃ (ns : List Int), (∀ x ∈ ns, numOk x) ∧ n + ns.length ≤ ws.length ∧ ws.drop n = ns.map n2w ++ ws.drop (n + ns.length) ∧ σ = [some (.ref a), some (.ref D), some (.str (wdAt ws (n + ns.length)))] ∧ WdAt wc H' a dx l ws (n + ns.length : Nat) ∧ H' D = some (.lst (ns.map V.int)) ∧ Fr [a] H H' ∧ μ = ws.length - ns.length,
      ⟨_, [], by simp, by simpa using hn, by simp, rfl, hw1, e1, f0, rfl⟩, ?_⟩
    clear hw1 e1 f0 e0 H1 H0
    rintro μ σ H1 ⟨ns, ok, hni, hd, rfl, hw1, e1, f1, rfl⟩
    walk_at "go"
    refine rd_ndec (fun c => ?_) (fun c => ?_)
    · have cs : ¬ wdAt ws (n + ns.length) = ";" := fun z => c (by rw [z])
      refine ⟨fun σ' H' => ∃ μ', μ' < ws.length - ns.length ∧ _, fun σ' H' z => z, ?_⟩
      walk_at "go"
      refine ⟨tyl e1, ?_⟩
      walk_at "go"
      refine rd_meth ?_
      walk_at "go"
      refine rd_m hw1.ins rfl ?_
      walk_at "go"
      refine ⟨a, dx, l, ws, n + ns.length, wdAt ws (n + ns.length), rfl, hw1, by have := sz.1; omega, sz.at _, fun hb H2 f2 => ?_, fun hb => ?_⟩
      rotate_left
      · refine ((kE ns.length fun st => ?_).mono f1).less
        have e : stepW .nums (wdAt ws (n + ns.length)) = none := by show (if wdAt ws (n + ns.length) = ";" then _ else if numW _ = true then _ else _) = _; rw [if_neg cs, hb]; rfl
        have := bad_rowp (st := st) (r := ws.drop (n + ns.length)) ok
        rw [hd, this, bad_at hni e]
        show some (0 + ns.length) = _
        rw [Nat.zero_add]
      obtain ⟨q1, q2⟩ := drop_num hd hb hni
      have e2 := f2.at e1 (by simp)
      walk_at "go"
      refine rd_append e2 (by rw [List.length_map]; exact Nat.lt_of_le_of_lt (show ns.length ≤ 1000000 by have := sz.1; omega) (by decide)) ?_
      have hw2 := hw1.fr f2 (by simp) (by simp)
      have hw3 : WdAt wc (upd H2 D (.lst (ns.map V.int ++ [V.int (w2n (wdAt ws (n + ns.length)))]))) a dx l ws (((n + ns.length + 1 : Nat) : Int) - 1) := by
        rw [show ((n + ns.length + 1 : Nat) : Int) - 1 = (n + ns.length : Nat) by omega]
        exact hw2.fr (Fr.put (S := [D]) (by simp) (nt e2)) (by simpa using nDa.symm) (by simpa using nDl.symm)
      have e3 : upd H2 D (.lst (ns.map V.int ++ [V.int (w2n (wdAt ws (n + ns.length)))])) D = some (.lst ((ns ++ [w2n (wdAt ws (n + ns.length))]).map V.int)) := by rw [upd_same, List.map_append]; rfl
      have f3 := (f1.tr (f2.mono fun b hb => by cases hb)).putN (o := .lst (ns.map V.int ++ [V.int (w2n (wdAt ws (n + ns.length)))])) (.inr hD) (nt e2)
      generalize upd H2 D (.lst (ns.map V.int ++ [V.int (w2n (wdAt ws (n + ns.length)))])) = H3 at *
      walk_at "go"
      refine rd_meth ?_
      walk_at "go"
      refine rd_m hw3.ins rfl ?_
      walk_at "go"
      refine ⟨a, dx, l, ws, n + ns.length + 1, rfl, hw3, q1, sz.1, fun H4 hw4 f4 => ?_⟩
      walk_at "go"
      have el : (ns ++ [w2n (wdAt ws (n + ns.length))]).length = ns.length + 1 := by rw [List.length_append]; rfl
      refine ⟨ws.length - (ns.length + 1), by omega, ns ++ [w2n (wdAt ws (n + ns.length))], fun x hx => ?_, by rw [el]; exact q1, by rw [el]; exact q2, ?_, ?_, f4.at e3 (by simpa using nDa), f3.tr f4, by rw [el]⟩
      · rcases List.mem_append.mp hx with hx | hx
        · exact ok x hx
        · rw [List.mem_singleton.mp hx]; exact numOk_w2n hb
      · rw [el]; rfl
      · rw [el]; exact hw4
    · have cs : wdAt ws (n + ns.length) = ";" := V.str.inj c
      have hl : n + ns.length < ws.length := by
        by_cases h : n + ns.length < ws.length
        · exact h
        · rw [wd_end (by omega)] at cs
          exact absurd cs (by decide +kernel)
      walk_at "go"
      intro p hp
      refine kQ ns _ p (n + ns.length + 1) ok rfl hl (by rw [hd, wd_drop hl, cs]) ?_ upd_same (f1.newN hp)
      rw [show ((n + ns.length + 1 : Nat) : Int) - 1 = (n + ns.length : Nat) by omega]
      exact hw1.fr (Fr.new (S := []) hp) (by simp) (by simp)
theorem sc_Words_take_maker : FnScope ["self", "word"] ["self"] (defScope s_Words_take_maker) := ⟨rfl, rfl, rfl, by decide +kernel, rfl, by decide +kernel, by decide +kernel⟩
theorem ok_Words_take_maker (T : Txt K mg) (W : WdF K wc) (BT : BtC P w K mg base bt) (F : FnP K "take_maker" "Words.take_maker" s_Words_take_maker f fd) (G_take : CalM P w K mg base CX0 1 wc "take" ["self"] (spTake wc)) (G_take_numbers : CalM P w K mg base (L2.CX P w) 4 wc "take_numbers" ["self", "many"] (spNums wc bt))
    (G_take_row : CalM P w K mg base (L2.CX P w) 4 wc "take_row" ["self"] (spRow wc bt)) : FnOk P w K mg base (L2.CX P w) 5 f fd ["self"] (spMk wc bt) := by
  refine okX F sc_Words_take_maker (fun vs H Q E h => ?_) (fun cdv A outer s H vs Q E hr h px tk po => ?_)
  · obtain ⟨a, dx, l, ws, n, rfl, _⟩ := h
    rfl
  · obtain ⟨a, dx, l, ws, n, rfl, hw, hn, sz, kE, kQ⟩ := h
    refine ⟨_, (pss_cons (ps_set (i := 1) sc_Words_take_maker.nd rfl (Or.inl rfl) (pe_cm0 (pv 0) G_take (hr.mono (by omega)) pass0))
  (pss_cons (ps_if (pt_cmpR op_eq (pv 1) pe_str (nomark _))
    (pss_one (ps_ret (pe_op (op_catAK K) (pe_tup (pa_cons pe_str pa_nil)) (pe_cm (pv 0) G_take_numbers (hr.mono (by omega)) px (pa_cons pe_int pa_nil))))) pss_nil)
  (pss_cons (ps_if (pt_cmpR op_eq (pv 1) pe_str (nomark _))
    (pss_one (ps_ret (pe_tup (pa_cons pe_str (pa_cons (pe_cm0 (pv 0) G_take_row (hr.mono (by omega)) px) pa_nil))))) pss_nil)
  (pss_one (ps_bt rfl tk BT (hr.mono (by omega)) (pe_fld (pv 0) rfl)))))), ?_⟩
    try dsimp only [cxOf, Cx.nox, Cx.wish]
    refine rd_at (σ' := [some (.ref a), none]) rfl ?_
    walk_at "go"
    refine rd_meth ?_
    walk_at "go"
    refine rd_m hw.ins rfl ?_
    walk_at "go"
    refine ⟨a, dx, l, ws, n, rfl, hw, hn, sz.1, fun H1 hw1 f1 => ?_⟩
    have st : ∀ {t : Wt}, stepW t (wdAt ws n) ≠ none → n + 1 ≤ ws.length := fun {t} h => by
      by_cases hl : n < ws.length
      · exact hl
      · rw [wd_end (by omega)] at h
        exact absurd (show stepW t "" = none by cases t <;> decide +kernel) h
    walk_at "go"
    refine rd_dec (fun c => ?_) (fun c => ?_)
    · have c : wdAt ws n = "count" := V.str.inj c
      have e : stepW .mk (wdAt ws n) = some [.num, .num, .sts] := by rw [c]; decide +kernel
      have hl := st (t := .mk) (by rw [e]; exact fun z => by cases z)
      walk_at "go"
      refine ⟨by show 1 ≤ sizeLine; decide, fun q hq => ?_⟩
      have f2 : Fr [] H1 (upd H1 q (.tup [.str "count"])) := Fr.new hq
      have eq : upd H1 q (.tup [.str "count"]) q = some (.tup [.str "count"]) := upd_same
      generalize upd H1 q (.tup [.str "count"]) = H2 at *
      have hw2 := hw1.fr f2 (by simp) (by simp)
      walk_at "go"
      refine rd_meth ?_
      walk_at "go"
      refine rd_m hw2.ins rfl ?_
      walk_at "go"
      refine ⟨a, dx, l, ws, n + 1, 2, rfl, by rw [show ((n + 1 : Nat) : Int) - 1 = n by omega]; exact hw2, hl, by decide, sz, fun j hj => ?_, fun ns H3 p hl2 ok hn2 hd hw3 e3 f3 => ?_⟩
      · refine BtE.at_ ((kE (j + 1) fun st => ?_).mono (f1.tr (f2.mono fun b hb => by cases hb))) (by omega)
        rw [(good_at (st := st) hn e).2, show ([.num, .num, .sts] ++ st : List Wt) = List.replicate 2 .num ++ (.sts :: st) from rfl, hj]
        rfl
      · obtain ⟨b, s', rfl⟩ : ∃ b s', ns = [b, s'] := match ns, hl2 with | [b, s'], _ => ⟨b, s', rfl⟩
        have e2 := f3.tp eq
        refine catA_join e2 e3 (by simp) fun r H4 f4 e4 => ?_
        have f14 := (f1.tr (f2.mono fun b hb => by cases hb)).tr (f3.tr (f4.mono fun b hb => by cases hb))
        have ew : (Mkr.count b s').words = ("count" : Str) :: ([b, s'].map n2w) := rfl
        refine kQ (.count b s') H4 r (n + 3) ⟨ok b (by simp), ok s' (by simp)⟩ rfl (by omega) ?_ ?_ e4 f14
        · rw [wd_drop (by omega), c, hd, ew]; rfl
        · rw [show ((n + 3 : Nat) : Int) - 1 = ((n + 1 + 2 : Nat) : Int) - 1 by omega]
          exact hw3.fr f4 (by simp) (by simp)
    walk_at "go"
    refine rd_dec (fun c2 => ?_) (fun c2 => ?_)
    · have c2 : wdAt ws n = "row" := V.str.inj c2
      have e : stepW .mk (wdAt ws n) = some [.nums, .sts] := by rw [c2]; decide +kernel
      have hl := st (t := .mk) (by rw [e]; exact fun z => by cases z)
      walk_at "go"
      refine rd_meth ?_
      walk_at "go"
      refine rd_m hw1.ins rfl ?_
      walk_at "go"
      refine ⟨a, dx, l, ws, n + 1, rfl, by rw [show ((n + 1 : Nat) : Int) - 1 = n by omega]; exact hw1, hl, sz, fun j hj => ?_, fun ns H3 p m ok hm hn2 hd hw3 e3 f3 => ?_⟩
      · refine BtE.at_ ((kE (j + 1) fun st => ?_).mono f1) (by omega)
        rw [(good_at (st := st) hn e).2, show ([.nums, .sts] ++ st : List Wt) = .nums :: (.sts :: st) from rfl, hj]
        rfl
      · walk_at "go"
        refine ⟨by show 2 ≤ sizeLine; decide, fun q hq => ?_⟩
        refine kQ (.row ns) _ q m ok ?_ hn2 ?_ (hw3.fr (Fr.new (S := []) hq) (by simp) (by simp)) ⟨p, upd_same, upd_keep e3 hq⟩ ((f1.tr f3).newN hq)
        · show m = n + (("row" : Str) :: (ns.map n2w ++ [(";" : Str)])).length
          simp; omega
        · rw [wd_drop (by omega), c2, hd]
          show _ = ("row" : Str) :: ((ns.map n2w ++ [(";" : Str)]) ++ ws.drop m)
          rw [List.append_assoc]; rfl
    walk_at "go"
    dsimp only
    refine rd_mko ?_
    walk_at "go"
    refine rd_sf rfl hw1.ins W.c W.place rfl ?_
    walk_at "go"
    have e : stepW .mk (wdAt ws n) = none := by
      show (if wdAt ws n = "count" then _ else if wdAt ws n = "row" then _ else none) = none
      rw [if_neg (fun z => c (by rw [z])), if_neg (fun z => c2 (by rw [z]))]
    exact mkbt (S := [a]) (by have := sz.1; omega) ((kE 0 fun st => bad_at hn e).mono f1)
end
end Dc

set_option Elab.async false
set_option linter.all false
set_option maxRecDepth 100000
set_option maxHeartbeats 2000000
namespace Dc
open PySem PySem.Spec PyProof.Rows L2
local macro_rules | `(tactic| walk_at "ne") => `(tactic| first | assumption | (refine Ne.symm ?_; assumption) | exact ne_of (by assumption) (by assumption) (by intro q; cases q) | exact ne_of_none (by assumption) (by assumption) | exact Ne.symm (ne_of_none (by assumption) (by assumption)))
local macro_rules | `(tactic| walk_at "hp") => `(tactic| first | assumption | exact upd_same | (refine upd_keep ?_ (by assumption); walk_at "hp") | (refine upd_other ?_ ?_; · walk_at "ne"; · walk_at "hp"))
local macro_rules | `(tactic| walk_at "hl") => `(tactic| first | assumption | exact SqL.of (by walk_at "hp"))
local macro_rules | `(tactic| walk_at "ht") => `(tactic| first | assumption | exact SqT.of (by walk_at "hp"))
local macro_rules | `(tactic| walk_at "rd1") => `(tactic| first
  | ((with_reducible apply rd_var); exact rfl)
  | ((with_reducible apply rd_eq); exact rfl) | ((with_reducible apply rd_ne); exact rfl)
  | with_reducible first
  | refine iteT ?_ | refine iteF ?_ | refine rd_nF ?_ | refine rd_nT ?_ | refine rd_yes ?_ | refine rd_c ?_ | refine rd_op ?_ | refine rd_un ?_ | refine rd_test ?_ | refine rd_B ?_ | refine rd_bl ?_ | refine rd_seq ?_ | refine rd_next ?_ | refine rd_ifs ?_ | refine rd_asg ?_ | refine rd_name ?_ | refine rd_ret ?_ | refine rd_drop ?_
  | refine rd_call ?_ | refine rd_cons ?_ | refine rd_nil ?_ | refine rd_cb ?_ | refine rd_I0 ?_ | refine rd_U ?_ | refine rd_gsub ?_ | refine rd_lst ?_ | refine rd_tup ?_ | refine rd_if ?_ | refine rd_not ?_ | refine rd_rng1 ?_ | refine rd_itup ?_ | refine rd_ilst ?_ | refine rd_bm ?_ | refine rd_bm0 ?_ | refine rd_andV ?_ | refine rd_orV ?_ | refine rd_notV ?_)
local macro_rules | `(tactic| walk_at "rd") => `(tactic| repeat walk_at "rd1")
local macro_rules | `(tactic| walk_at "ci") => `(tactic| first | assumption | (show (0 : Int) < _; first | decide | omega) | exact ⟨by decide, by decide⟩ | exact Or.inr ⟨by decide, by decide⟩ | exact Or.inl ⟨by decide, by decide⟩ | exact ⟨by decide, by decide, by decide⟩ | exact Or.inl ⟨by omega, by omega⟩ | exact Or.inr ⟨by omega, by omega⟩)
local macro_rules | `(tactic| walk_at "ix") => `(tactic| first
  | ((with_reducible apply rd_ixL); (walk_at "hl"); exact rfl)
  | ((with_reducible apply rd_ixT); (walk_at "ht"); exact rfl)
  | ((with_reducible apply rd_lenL); (walk_at "hl"))
  | ((with_reducible apply rd_lenT); (walk_at "ht"))
  | ((with_reducible apply rd_tupOf); (walk_at "hl"))
  | ((with_reducible apply rd_listOf); (walk_at "hl"))
  | (with_reducible refine rd_min2 ?_)
  | ((with_reducible apply rd_I); (walk_at "ci"))
  | ((with_reducible apply rd_setL); (walk_at "hp"); exact rfl))
local macro_rules | `(tactic| walk_at "gs") => `(tactic| repeat first | walk_at "rd1" | walk_at "ix")
local macro_rules | `(tactic| walk_at "go") => `(tactic| repeat first | walk_at "rd1" | walk_at "ix" | with_reducible refine rd_and ?_ | with_reducible refine rd_or ?_)
local macro_rules | `(tactic| walk_at "fo") => `(tactic| (with_reducible refine rd_for ?_))
local macro_rules | `(tactic| walk_at "pm") => `(tactic| repeat first
  | with_reducible first | refine rd_pcons ?_ | refine rd_pstr ?_ | refine rd_pcap ?_ | refine rd_pwild ?_ | refine rd_pnil ?_ | refine rd_por ?_ | refine rd_pno ?_
  | ((with_reducible refine rd_eq rfl ?_); refine ⟨_, rfl, ?_⟩; first | refine rd_T rfl ?_ | refine rd_F (by decide) ?_)
  | dsimp only [List.nil_append, List.singleton_append, List.cons_append, setAll])
local macro_rules | `(tactic| walk_at "pc") => `(tactic| (refine rd_case ?_); (first | (refine rd_phit (SqT.of (by assumption)) rfl ?_) | (refine rd_pmiss (SqT.of (by assumption)) (by simp) ?_)); (walk_at "pm"))

/-! ### chains that are begun -/
structure BgF (K : PySem.W.Frag) (gc : Addr) : Prop where
  c : Cls K gc
  word : NoAttr K gc "word"
  maker : NoAttr K gc "maker"
  stages : NoAttr K gc "stages"
/-- one begun: its object, its list of stages; its word, its maker, its stages so far -/
structure Ob where
  (o dx mkr ss : Addr)
  w : Str
  m : Mkr
  as : List Addr
  gs : List Sg
structure OpAt (gc : Addr) (H : Hp) (b : Ob) : Prop where
  ins : H b.o = some (.ins gc b.dx [("word", .str b.w), ("maker", .ref b.mkr), ("stages", .ref b.ss)])
  mak : MkAt H b.mkr b.m
  lst : H b.ss = some (.lst (b.as.map V.ref))
  sgs : SgsAt H b.as b.gs
theorem OpAt.fr {gc : Addr} {H H' : Hp} {b : Ob} {S : List Addr} (h : OpAt gc H b) (f : Fr S H H') (h1 : b.o ∉ S) (h2 : b.ss ∉ S) : OpAt gc H' b := ⟨f.at h.ins h1, h.mak.fr f, f.at h.lst h2, h.sgs.fr f⟩
theorem OpAt.ch {gc : Addr} {H : Hp} {b : Ob} {p t : Addr} (h : OpAt gc H b) (hp : H p = some (.tup [.ref b.mkr, .ref t])) (ht : H t = some (.tup (b.as.map V.ref))) : ChAt H p (Ch.of b.m b.gs) :=
  ⟨b.mkr, t, b.as, hp, ht, sts_fold (c := .mkr b.m) (as0 := []) h.sgs ⟨rfl, h.mak⟩⟩
def spBegun (gc : Addr) : Sp := fun vs H Q _ => ∃ (x dx mk : Addr) (t : Str), vs = [.ref x, .str t, .ref mk] ∧ H x = some (.ins gc dx []) ∧
  ∀ H' ss, H' x = some (.ins gc dx [("word", .str t), ("maker", .ref mk), ("stages", .ref ss)]) → H' ss = some (.lst []) → H ss = none → Fr [x] H H' → Q .non H'
def spBgChain (gc : Addr) : Sp := fun vs H Q _ => ∃ b : Ob, vs = [.ref b.o] ∧ OpAt gc H b ∧ ∀ H' p, ChAt H' p (Ch.of b.m b.gs) → H p = none → Fr [] H H' → Q (.ref p) H'
section
variable {P : Program} {w : World} {K : PySem.W.Frag} {mg : Str → Option Value} {base : Heap} {f : Addr} {fd : FuncData} {gc : Addr}
theorem sc_Begun___init__ : FnScope ["self", "word", "maker"] ["self", "word", "maker"] (defScope s_Begun___init__) := ⟨rfl, rfl, rfl, by decide +kernel, rfl, by decide +kernel, by decide +kernel⟩
theorem ok_Begun___init__ (T : Txt K mg) (W : BgF K gc) (F : FnP K "__init__" "Begun.__init__" s_Begun___init__ f fd) : FnOk P w K mg base CX0 1 f fd ["self", "word", "maker"] (spBegun gc) := by
  refine ok0 F sc_Begun___init__ (fun vs H Q E h => ?_) (fun cdv A outer s H vs Q E hr h => ?_)
  · obtain ⟨x, dx, mk, t, rfl, _⟩ := h
    rfl
  · obtain ⟨x, dx, mk, t, rfl, e, k⟩ := h
    refine ⟨_, (pss_cons (ps_fld (pv 0) (pv 1) rfl)
  (pss_cons (ps_fld (pv 0) (pv 2) rfl)
  (pss_one (ps_fld (pv 0) (pe_lst pa_nil) rfl)))), ?_⟩
    try dsimp only [cxOf, Cx.nox, Cx.wish]
    refine rd_at (σ' := [some (.ref x), some (.str t), some (.ref mk)]) rfl ?_
    walk_at "go"
    refine rd_fset ?_
    walk_at "go"
    refine rd_st e W.c W.word (by show 0 < 1000; omega) ?_
    have e1 : upd H x (.ins gc dx [("word", .str t)]) x = some (.ins gc dx [("word", .str t)]) := upd_same
    have f1 : Fr [x] H (upd H x (.ins gc dx [("word", .str t)])) := Fr.put (by simp) (nt e)
    dsimp only
    walk_at "go"
    refine rd_fset ?_
    walk_at "go"
    refine rd_st e1 W.c W.maker (by show 1 < 1000; omega) ?_
    have e2 : upd (upd H x (.ins gc dx [("word", .str t)])) x (.ins gc dx [("word", .str t), ("maker", .ref mk)]) x = some (.ins gc dx [("word", .str t), ("maker", .ref mk)]) := upd_same
    have f2 : Fr [x] H (upd (upd H x (.ins gc dx [("word", .str t)])) x (.ins gc dx [("word", .str t), ("maker", .ref mk)])) := f1.putN (.inl (by simp)) (nt e1)
    dsimp only
    rw [show putF "maker" (V.ref mk) ([("word", .str t)] : List (Str × V)) = ([("word", .str t), ("maker", .ref mk)] : List (Str × V)) from rfl, show putF "word" (V.str t) [] = ([("word", .str t)] : List (Str × V)) from rfl]
    generalize upd (upd H x (.ins gc dx [("word", .str t)])) x (.ins gc dx [("word", .str t), ("maker", .ref mk)]) = H2 at *
    walk_at "go"
    refine rd_fset ?_
    walk_at "go"
    refine ⟨Nat.zero_le _, fun ss hs => ?_⟩
    have nx : ss ≠ x := fun z => by rw [z, e2] at hs; cases hs
    have e3 : upd H2 ss (.lst []) x = some (.ins gc dx [("word", .str t), ("maker", .ref mk)]) := upd_keep e2 hs
    walk_at "go"
    refine rd_st e3 W.c W.stages (by show 2 < 1000; omega) ?_
    refine k _ ss (upd_same.trans rfl) (upd_other nx upd_same) (f2.free (by simpa using nx) hs) ((f2.newN hs).putN (.inl (by simp)) (nt e3))
theorem sc_Begun_chain : FnScope ["self"] ["self"] (defScope s_Begun_chain) := ⟨rfl, rfl, rfl, by decide +kernel, rfl, by decide +kernel, by decide +kernel⟩
theorem ok_Begun_chain (T : Txt K mg) (W : BgF K gc) (F : FnP K "chain" "Begun.chain" s_Begun_chain f fd) : FnOk P w K mg base CX0 1 f fd ["self"] (spBgChain gc) := by
  refine ok0 F sc_Begun_chain (fun vs H Q E h => ?_) (fun cdv A outer s H vs Q E hr h => ?_)
  · obtain ⟨b, rfl, _⟩ := h
    rfl
  · obtain ⟨b, rfl, hb, k⟩ := h
    refine ⟨_, (pss_one (ps_ret (pe_tup (pa_cons (pe_fld (pv 0) rfl) (pa_cons (pe_callTy (call_tupOfK K) (by rfl) T.free_tuple (by decide +kernel) (pa_cons (pe_fld (pv 0) rfl) pa_nil)) pa_nil))))), ?_⟩
    try dsimp only [cxOf, Cx.nox, Cx.wish]
    refine rd_at (σ' := [some (.ref b.o)]) rfl ?_
    walk_at "go"
    refine rd_sf rfl hb.ins W.c W.maker rfl ?_
    walk_at "go"
    refine rd_sf rfl hb.ins W.c W.stages rfl ?_
    walk_at "go"
    refine rd_tupOf (SqL.of hb.lst) fun t ht => ?_
    walk_at "go"
    refine ⟨by show 2 ≤ sizeLine; decide, fun p hp => ?_⟩
    have f1 : Fr [] H (upd H t (.tup (b.as.map V.ref))) := Fr.new ht
    have hb1 := hb.fr f1 (by simp) (by simp)
    have et : upd H t (.tup (b.as.map V.ref)) t = some (.tup (b.as.map V.ref)) := upd_same
    have hp0 := f1.free (by simp) hp
    generalize upd H t (.tup (b.as.map V.ref)) = H1 at *
    refine k _ p (OpAt.ch (hb1.fr (Fr.new (S := []) hp) (by simp) (by simp)) upd_same (upd_keep et hp)) hp0 (f1.newN hp)
end
end Dc

set_option Elab.async false
set_option linter.all false
set_option maxRecDepth 100000
set_option maxHeartbeats 4000000
namespace Dc
open PySem PySem.Spec PyProof.Rows L2
local macro_rules | `(tactic| walk_at "ne") => `(tactic| first | assumption | (refine Ne.symm ?_; assumption) | exact ne_of (by assumption) (by assumption) (by intro q; cases q) | exact ne_of_none (by assumption) (by assumption) | exact Ne.symm (ne_of_none (by assumption) (by assumption)))
local macro_rules | `(tactic| walk_at "hp") => `(tactic| first | assumption | exact upd_same | (refine upd_keep ?_ (by assumption); walk_at "hp") | (refine upd_other ?_ ?_; · walk_at "ne"; · walk_at "hp"))
local macro_rules | `(tactic| walk_at "hl") => `(tactic| first | assumption | exact SqL.of (by walk_at "hp"))
local macro_rules | `(tactic| walk_at "ht") => `(tactic| first | assumption | exact SqT.of (by walk_at "hp"))
local macro_rules | `(tactic| walk_at "rd1") => `(tactic| first
  | ((with_reducible apply rd_var); exact rfl)
  | ((with_reducible apply rd_eq); exact rfl) | ((with_reducible apply rd_ne); exact rfl)
  | with_reducible first
  | refine iteT ?_ | refine iteF ?_ | refine rd_nF ?_ | refine rd_nT ?_ | refine rd_yes ?_ | refine rd_c ?_ | refine rd_op ?_ | refine rd_un ?_ | refine rd_test ?_ | refine rd_B ?_ | refine rd_bl ?_ | refine rd_seq ?_ | refine rd_next ?_ | refine rd_ifs ?_ | refine rd_asg ?_ | refine rd_name ?_ | refine rd_ret ?_ | refine rd_drop ?_
  | refine rd_call ?_ | refine rd_cons ?_ | refine rd_nil ?_ | refine rd_cb ?_ | refine rd_I0 ?_ | refine rd_U ?_ | refine rd_gsub ?_ | refine rd_lst ?_ | refine rd_tup ?_ | refine rd_if ?_ | refine rd_not ?_ | refine rd_rng1 ?_ | refine rd_itup ?_ | refine rd_ilst ?_ | refine rd_bm ?_ | refine rd_bm0 ?_ | refine rd_andV ?_ | refine rd_orV ?_ | refine rd_notV ?_)
local macro_rules | `(tactic| walk_at "rd") => `(tactic| repeat walk_at "rd1")
local macro_rules | `(tactic| walk_at "ci") => `(tactic| first | assumption | (show (0 : Int) < _; first | decide | omega) | exact ⟨by decide, by decide⟩ | exact Or.inr ⟨by decide, by decide⟩ | exact Or.inl ⟨by decide, by decide⟩ | exact ⟨by decide, by decide, by decide⟩ | exact Or.inl ⟨by omega, by omega⟩ | exact Or.inr ⟨by omega, by omega⟩)
local macro_rules | `(tactic| walk_at "ix") => `(tactic| first
  | ((with_reducible apply rd_ixL); (walk_at "hl"); exact rfl)
  | ((with_reducible apply rd_ixT); (walk_at "ht"); exact rfl)
  | ((with_reducible apply rd_lenL); (walk_at "hl"))
  | ((with_reducible apply rd_lenT); (walk_at "ht"))
  | ((with_reducible apply rd_tupOf); (walk_at "hl"))
  | ((with_reducible apply rd_listOf); (walk_at "hl"))
  | (with_reducible refine rd_min2 ?_)
  | ((with_reducible apply rd_I); (walk_at "ci"))
  | ((with_reducible apply rd_setL); (walk_at "hp"); exact rfl))
local macro_rules | `(tactic| walk_at "gs") => `(tactic| repeat first | walk_at "rd1" | walk_at "ix")
local macro_rules | `(tactic| walk_at "go") => `(tactic| repeat first | walk_at "rd1" | walk_at "ix" | with_reducible refine rd_and ?_ | with_reducible refine rd_or ?_)
local macro_rules | `(tactic| walk_at "fo") => `(tactic| (with_reducible refine rd_for ?_))
local macro_rules | `(tactic| walk_at "pm") => `(tactic| repeat first
  | with_reducible first | refine rd_pcons ?_ | refine rd_pstr ?_ | refine rd_pcap ?_ | refine rd_pwild ?_ | refine rd_pnil ?_ | refine rd_por ?_ | refine rd_pno ?_
  | ((with_reducible refine rd_eq rfl ?_); refine ⟨_, rfl, ?_⟩; first | refine rd_T rfl ?_ | refine rd_F (by decide) ?_)
  | dsimp only [List.nil_append, List.singleton_append, List.cons_append, setAll])
local macro_rules | `(tactic| walk_at "pc") => `(tactic| (refine rd_case ?_); (first | (refine rd_phit (SqT.of (by assumption)) rfl ?_) | (refine rd_pmiss (SqT.of (by assumption)) (by simp) ?_)); (walk_at "pm"))

/-! ### the written dict of how many numbers -/
def rInKD (K : PySem.W.Frag) (d : Addr) : R2 := fun x y H Q => ∃ (z : Str) (r : Option Value), x = .str z ∧ y = .ref d ∧ PySem.W.nsIn K d z = some r ∧ Q (.bl r.isSome) H
def rIxKD (K : PySem.W.Frag) (d : Addr) : R2 := fun x y H Q => ∃ (z : Str) (u : Value) (v : V), x = .ref d ∧ y = .str z ∧ PySem.W.nsIn K d z = some (some u) ∧ RelV v u ∧ Q v H
theorem op_in_kdK {X : Cx} {K : PySem.W.Frag} {w : World} {d : Addr} {es : Array DictEntry} {n : Nat} (D : KDict K w d es n) (e : X.K = K := by rfl) (ew : X.w = w := by rfl) : OpR X (compareOp .In) (rInKD K d) := by
  subst e ew
  exact op_in_kd D
theorem ix_kdK {X : Cx} {K : PySem.W.Frag} {w : World} {d : Addr} {es : Array DictEntry} {n : Nat} (D : KDict K w d es n) (e : X.K = K := by rfl) (ew : X.w = w := by rfl) : IxR X (rIxKD K d) := by
  subst e ew
  intro value slice pins s σ H x y v u Q I rx ry h hs
  obtain ⟨z, u0, v0, rfl, rfl, e, r, q⟩ := h
  exact ix_kdict value slice pins s σ H (.ref d) (.str z) v u Q I rx ry ⟨d, z, v0, rfl, rfl, ⟨es, n, u0, D.at_, D.lit, e, r⟩, q⟩ hs
/-- what NUMBERS_OF says -/
structure DicF (K : PySem.W.Frag) (w : World) (mg : Str → Option Value) : Prop where
  ex : ∃ (d : Addr) (es : Array DictEntry) (n : Nat), mg "NUMBERS_OF" = some (.ref d) ∧ KDict K w d es n ∧ ∀ z : Str, (∀ k, kdSize z = some k → ∃ t, PySem.W.nsIn K d z = some (some (.int (k : Int) t))) ∧ (kdSize z = none → PySem.W.nsIn K d z = some none)
/-! ### what is open, as words -/
def wd1 (x : Str) : List Str := if x = "" then [] else [x]
def opW (b : Ob) : List Str := wd1 b.w ++ (b.m.words ++ sgsW b.gs)
def opsW (l : List Ob) : List Str := (l.map opW).flatten
def Inner (b : Ob) : Prop := b.w = "both" ∨ b.w = "then"
/-- the outermost has no word, those within have one -/
def WOk : List Ob → Prop
  | [] => True
  | b :: r => b.w = "" ∧ ∀ x ∈ r, Inner x
def Ob.num (b : Ob) : Prop := b.m.num ∧ ∀ g ∈ b.gs, g.num
theorem opsW_app (l m : List Ob) : opsW (l ++ m) = opsW l ++ opsW m := by unfold opsW; rw [List.map_append, List.flatten_append]
theorem opsW_one (b : Ob) : opsW [b] = opW b := by unfold opsW; simp
theorem wok_app {l : List Ob} {b : Ob} (h : WOk l) (hl : l ≠ []) (hb : Inner b) : WOk (l ++ [b]) := by
  cases l with
  | nil => exact absurd rfl hl
  | cons a r => exact ⟨h.1, fun x hx => by
      rcases List.mem_append.mp hx with hx | hx
      · exact h.2 x hx
      · rw [List.mem_singleton.mp hx]; exact hb⟩
theorem wok_pop {l : List Ob} {b : Ob} (h : WOk (l ++ [b])) : WOk l ∧ (l = [] → b.w = "") ∧ (l ≠ [] → Inner b) := by
  cases l with
  | nil => exact ⟨trivial, fun _ => h.1, fun z => absurd rfl z⟩
  | cons a r => exact ⟨⟨h.1, fun x hx => h.2 x (by simp [hx])⟩, fun z => (by cases z), fun _ => h.2 b (by simp)⟩
theorem wok_last {l : List Ob} {b b' : Ob} (h : WOk (l ++ [b])) (e : b'.w = b.w) : WOk (l ++ [b']) := by
  cases l with
  | nil => exact ⟨e.trans h.1, fun x hx => by cases hx⟩
  | cons a r => exact ⟨h.1, fun x hx => by
      rcases List.mem_append.mp hx with hx | hx
      · exact h.2 x (by simp [hx])
      · rw [List.mem_singleton.mp hx]
        have := h.2 b (by simp)
        unfold Inner at *
        rw [e]; exact this⟩
/-- all that are open, apart -/
structure Opn (gc : Addr) (H : Hp) (B wl : Addr) (l : List Ob) : Prop where
  at_ : ∀ b ∈ l, OpAt gc H b
  nd : (B :: wl :: l.map (·.ss)).Nodup
  num : ∀ b ∈ l, b.num
  wok : WOk l
theorem nd_app {α : Type} {l : List α} {a : α} (h : l.Nodup) (n : a ∉ l) : (l ++ [a]).Nodup := by
  rw [List.nodup_append]
  exact ⟨h, by simp, fun x hx y hy z => n (by rw [List.mem_singleton] at hy; rw [← hy, ← z]; exact hx)⟩
theorem Opn.fr {gc : Addr} {H H' : Hp} {B wl : Addr} {l : List Ob} {S : List Addr} (h : Opn gc H B wl l) (f : Fr S H H') (hS : ∀ b ∈ l, b.o ∉ S ∧ b.ss ∉ S) : Opn gc H' B wl l := ⟨fun b hb => (h.at_ b hb).fr f (hS b hb).1 (hS b hb).2, h.nd, h.num, h.wok⟩
theorem Opn.oss {gc : Addr} {H : Hp} {B wl : Addr} {l : List Ob} (h : Opn gc H B wl l) {b x : Ob} (hb : b ∈ l) (hx : x ∈ l) : b.o ≠ x.ss := fun z => by
  have := (h.at_ b hb).ins
  rw [z, (h.at_ x hx).lst] at this
  cases this
end Dc

set_option Elab.async false
set_option linter.all false
set_option maxRecDepth 100000
set_option maxHeartbeats 4000000
namespace Dc
open PySem PySem.Spec PyProof.Rows L2
local macro_rules | `(tactic| walk_at "ne") => `(tactic| first | assumption | (refine Ne.symm ?_; assumption) | exact ne_of (by assumption) (by assumption) (by intro q; cases q) | exact ne_of_none (by assumption) (by assumption) | exact Ne.symm (ne_of_none (by assumption) (by assumption)))
local macro_rules | `(tactic| walk_at "hp") => `(tactic| first | assumption | exact upd_same | (refine upd_keep ?_ (by assumption); walk_at "hp") | (refine upd_other ?_ ?_; · walk_at "ne"; · walk_at "hp"))
local macro_rules | `(tactic| walk_at "hl") => `(tactic| first | assumption | exact SqL.of (by walk_at "hp"))
local macro_rules | `(tactic| walk_at "ht") => `(tactic| first | assumption | exact SqT.of (by walk_at "hp"))
local macro_rules | `(tactic| walk_at "rd1") => `(tactic| first
  | ((with_reducible apply rd_var); exact rfl)
  | ((with_reducible apply rd_eq); exact rfl) | ((with_reducible apply rd_ne); exact rfl)
  | with_reducible first
  | refine iteT ?_ | refine iteF ?_ | refine rd_nF ?_ | refine rd_nT ?_ | refine rd_yes ?_ | refine rd_c ?_ | refine rd_op ?_ | refine rd_un ?_ | refine rd_test ?_ | refine rd_B ?_ | refine rd_bl ?_ | refine rd_seq ?_ | refine rd_next ?_ | refine rd_ifs ?_ | refine rd_asg ?_ | refine rd_name ?_ | refine rd_ret ?_ | refine rd_drop ?_
  | refine rd_call ?_ | refine rd_cons ?_ | refine rd_nil ?_ | refine rd_cb ?_ | refine rd_I0 ?_ | refine rd_U ?_ | refine rd_gsub ?_ | refine rd_lst ?_ | refine rd_tup ?_ | refine rd_if ?_ | refine rd_not ?_ | refine rd_rng1 ?_ | refine rd_itup ?_ | refine rd_ilst ?_ | refine rd_bm ?_ | refine rd_bm0 ?_ | refine rd_andV ?_ | refine rd_orV ?_ | refine rd_notV ?_)
local macro_rules | `(tactic| walk_at "rd") => `(tactic| repeat walk_at "rd1")
local macro_rules | `(tactic| walk_at "ci") => `(tactic| first | assumption | (show (0 : Int) < _; first | decide | omega) | exact ⟨by decide, by decide⟩ | exact Or.inr ⟨by decide, by decide⟩ | exact Or.inl ⟨by decide, by decide⟩ | exact ⟨by decide, by decide, by decide⟩ | exact Or.inl ⟨by omega, by omega⟩ | exact Or.inr ⟨by omega, by omega⟩)
local macro_rules | `(tactic| walk_at "ix") => `(tactic| first
  | ((with_reducible apply rd_ixL); (walk_at "hl"); exact rfl)
  | ((with_reducible apply rd_ixT); (walk_at "ht"); exact rfl)
  | ((with_reducible apply rd_lenL); (walk_at "hl"))
  | ((with_reducible apply rd_lenT); (walk_at "ht"))
  | ((with_reducible apply rd_tupOf); (walk_at "hl"))
  | ((with_reducible apply rd_listOf); (walk_at "hl"))
  | (with_reducible refine rd_min2 ?_)
  | ((with_reducible apply rd_I); (walk_at "ci"))
  | ((with_reducible apply rd_setL); (walk_at "hp"); exact rfl))
local macro_rules | `(tactic| walk_at "gs") => `(tactic| repeat first | walk_at "rd1" | walk_at "ix")
local macro_rules | `(tactic| walk_at "go") => `(tactic| repeat first | walk_at "rd1" | walk_at "ix" | with_reducible refine rd_and ?_ | with_reducible refine rd_or ?_)
local macro_rules | `(tactic| walk_at "fo") => `(tactic| (with_reducible refine rd_for ?_))
local macro_rules | `(tactic| walk_at "pm") => `(tactic| repeat first
  | with_reducible first | refine rd_pcons ?_ | refine rd_pstr ?_ | refine rd_pcap ?_ | refine rd_pwild ?_ | refine rd_pnil ?_ | refine rd_por ?_ | refine rd_pno ?_
  | ((with_reducible refine rd_eq rfl ?_); refine ⟨_, rfl, ?_⟩; first | refine rd_T rfl ?_ | refine rd_F (by decide) ?_)
  | dsimp only [List.nil_append, List.singleton_append, List.cons_append, setAll])
local macro_rules | `(tactic| walk_at "pc") => `(tactic| (refine rd_case ?_); (first | (refine rd_phit (SqT.of (by assumption)) rfl ?_) | (refine rd_pmiss (SqT.of (by assumption)) (by simp) ?_)); (walk_at "pm"))

theorem mk_begun {gc mk x dx : Addr} {t : Str} {m : Mkr} {H1 : Hp} {R : Hp → Prop} {E : XK} (hm : MkAt H1 mk m) (hx : H1 x = none) (hdx : H1 dx = none) (ne : dx ≠ x) (k : ∀ (b : Ob) H', b.o = x → b.mkr = mk → b.w = t → b.m = m → b.as = [] → b.gs = [] → OpAt gc H' b → H1 b.ss = none → Fr [] H1 H' → R H') :
    spBegun gc (.ref x :: ([.str t, .ref mk] ++ [])) (upd (upd H1 dx (.own x)) x (.ins gc dx [])) (fun v H2 => v = .non ∧ R H2) E := by
  refine ⟨x, dx, mk, t, rfl, upd_same, fun H' ss e1 e2 ns f => ⟨rfl, ?_⟩⟩
  have n1 : ss ≠ x := fun z => by rw [z, upd_same] at ns; cases ns
  rw [upd_ne n1] at ns
  have n2 : ss ≠ dx := fun z => by rw [z, upd_same] at ns; cases ns
  rw [upd_ne n2] at ns
  have f0 : Fr [] H1 H' := by
    refine Fr.trans (H1 := upd (upd H1 dx (.own x)) x (.ins gc dx [])) ((Fr.new hdx).newN ?_) f fun b hb => by rw [List.mem_singleton.mp hb]; exact .inr hx
    rw [upd_ne (Ne.symm ne)]; exact hx
  exact k ⟨x, dx, mk, ss, t, m, [], []⟩ H' rfl rfl rfl rfl rfl rfl ⟨e1, hm.fr f0, e2, trivial⟩ ns f0
def Ob.add (b : Ob) (x : Addr) (g : Sg) : Ob := { b with as := b.as ++ [x], gs := b.gs ++ [g] }
theorem Opn.push {gc : Addr} {H : Hp} {B wl : Addr} {l : List Ob} {b : Ob} {x : Addr} {g : Sg} (h : Opn gc H B wl (l ++ [b])) (hx : SgAt H x g) (hg : g.num) :
    Opn gc (upd H b.ss (.lst ((b.as ++ [x]).map V.ref))) B wl (l ++ [b.add x g]) ∧ Fr [b.ss] H (upd H b.ss (.lst ((b.as ++ [x]).map V.ref))) := by
  have hb := h.at_ b (by simp)
  have f : Fr [b.ss] H (upd H b.ss (.lst ((b.as ++ [x]).map V.ref))) := Fr.put (by simp) (nt hb.lst)
  have nd := h.nd
  rw [List.map_append, List.map_singleton] at nd
  have nss : ∀ c ∈ l, c.ss ≠ b.ss := fun c hc z => by
    have n2 := (List.nodup_cons.mp (List.nodup_cons.mp nd).2).2
    rw [List.nodup_append] at n2
    exact n2.2.2 _ (List.mem_map_of_mem (f := (·.ss)) hc) _ (by simp) z
  refine ⟨⟨fun c hc => ?_, ?_, fun c hc => ?_, wok_last h.wok rfl⟩, f⟩
  · rcases List.mem_append.mp hc with hc | hc
    · exact (h.at_ c (by simp [hc])).fr f (by simpa using h.oss (by simp [hc]) (by simp)) (by simpa using nss c hc)
    · rw [List.mem_singleton.mp hc]
      have no : b.o ∉ [b.ss] := by simpa using h.oss (b := b) (x := b) (by simp) (by simp)
      exact ⟨f.at hb.ins no, hb.mak.fr f, upd_same, (hb.sgs.fr f).app ⟨hx.fr f, trivial⟩⟩
  · rw [List.map_append, List.map_singleton]; exact nd
  · rcases List.mem_append.mp hc with hc | hc
    · exact h.num c (by simp [hc])
    · rw [List.mem_singleton.mp hc]
      have := h.num b (by simp)
      refine ⟨this.1, fun y hy => ?_⟩
      rcases List.mem_append.mp hy with hy | hy
      · exact this.2 y hy
      · rw [List.mem_singleton.mp hy]; exact hg
theorem opW_add (b : Ob) (x : Addr) (g : Sg) : opW (b.add x g) = opW b ++ g.ws := by
  unfold opW Ob.add
  dsimp only
  rw [sgsW_app, show sgsW [g] = g.ws by rw [sgsW_cons]; show g.ws ++ [] = _; rw [List.append_nil], List.append_assoc, List.append_assoc]
theorem not_wd {wc gc a dx : Addr} {l : Addr} {H : Hp} {ws : List Str} {i : Int} {b : Ob} (h : WdAt wc H a dx l ws i) (hb : OpAt gc H b) : b.o ≠ a ∧ b.ss ≠ a := by
  refine ⟨fun z => ?_, fun z => ?_⟩
  · have e := hb.ins
    rw [z, h.ins] at e
    have e := (HO.ins.inj (Option.some.inj e)).2.2
    have : ("words" : Str) = "word" := (Prod.mk.inj (List.cons.inj e).1).1
    exact absurd this (by decide +kernel)
  · have e := hb.lst
    rw [z, h.ins] at e
    cases e
def spChainOf (wc bt : Addr) : Sp := fun vs H Q E => ∃ (a dx l : Addr) (ws : List Str), vs = [.ref a] ∧ WdAt wc H a dx l ws (-1) ∧ SzW ws ∧ (∀ i, placeW ws = some i → BtE bt (i : Nat) [a] H E) ∧
  ∀ c H' p, placeW ws = none → c.words = ws → c.num → ChAt H' p c → Fr [a] H H' → Q (.ref p) H'
/-- what holds ahead of each word of a stage -/
structure LI (wc gc a dx wl B : Addr) (ws : List Str) (H : Hp) (v3 : Option V) (H' : Hp) (n : Nat) (l : List Ob) : Prop where
  lst : H' B = some (.lst (l.map fun b => V.ref b.o))
  wd : WdAt wc H' a dx wl ws ((n : Int) - 1)
  le : n ≤ ws.length
  len : l.length ≤ n
  asl : ∀ b ∈ l, b.as.length ≤ n
  fr : Fr [a] H H'
  pl : placeW ws = (badW (List.replicate l.length .sts) (ws.drop n)).map (· + n)
  opn : Opn gc H' B wl l
  new : ∀ b ∈ l, H b.ss = none
  newB : H B = none
  words : l ≠ [] → ws = opsW l ++ ws.drop n
  fin : l = [] → ∃ b : Ob, v3 = some (.ref b.o) ∧ OpAt gc H' b ∧ b.num ∧ ws = (Ch.of b.m b.gs).words ++ ws.drop n
theorem LI.stage {wc gc a dx wl B : Addr} {ws : List Str} {H H5 : Hp} {v3 : Option V} {m n : Nat} {l : List Ob} {b : Ob} {r : Addr} {g : Sg} (op : Opn gc H5 B wl (l ++ [b])) (eB : H5 B = some (.lst ((l ++ [b]).map fun b => V.ref b.o))) (wd : WdAt wc H5 a dx wl ws ((m : Int) - 1)) (le : m ≤ ws.length) (fr : Fr [a] H H5)
    (hn : n < m) (len : l.length + 1 ≤ n) (asl : ∀ c ∈ l ++ [b], c.as.length ≤ n) (new : ∀ c ∈ l ++ [b], H c.ss = none) (newB : H B = none) (words : ws = opsW (l ++ [b]) ++ (g.ws ++ ws.drop m)) (pl : placeW ws = (badW (.sts :: List.replicate l.length .sts) (ws.drop m)).map (· + m)) (hx : SgAt H5 r g) (hg : g.num) :
    LI wc gc a dx wl B ws H v3 (upd H5 b.ss (.lst ((b.as ++ [r]).map V.ref))) m (l ++ [b.add r g]) := by
  obtain ⟨op', f⟩ := op.push hx hg
  have nd := op.nd
  have nB : B ≠ b.ss := fun z => (List.nodup_cons.mp nd).1 (by rw [z]; simp)
  have nw : wl ≠ b.ss := fun z => (List.nodup_cons.mp (List.nodup_cons.mp nd).2).1 (by rw [z]; simp)
  have na : a ≠ b.ss := fun z => (not_wd wd (op.at_ b (by simp))).2 z.symm
  refine ⟨?_, wd.fr f (by simpa using na) (by simpa using nw), le, ?_, ?_, fr.putN (.inr (new b (by simp))) (nt (op.at_ b (by simp)).lst), ?_, op', ?_, newB, fun _ => ?_, fun z => absurd z (by simp)⟩
  · rw [show ((l ++ [b.add r g]).map fun b => V.ref b.o) = (l ++ [b]).map fun b => V.ref b.o by simp [Ob.add]]
    exact f.at eB (by simpa using nB)
  · rw [List.length_append, List.length_singleton]; omega
  · intro c hc
    rcases List.mem_append.mp hc with hc | hc
    · have := asl c (by simp [hc]); omega
    · rw [List.mem_singleton.mp hc]
      have := asl b (by simp)
      show (b.as ++ [r]).length ≤ m
      rw [List.length_append, List.length_singleton]; omega
  · rw [List.length_append, List.length_singleton, List.replicate_succ]; exact pl
  · intro c hc
    rcases List.mem_append.mp hc with hc | hc
    · exact new c (by simp [hc])
    · rw [List.mem_singleton.mp hc]; exact new b (by simp)
  · rw [opsW_app, opsW_one] at words ⊢
    rw [opW_add, List.append_assoc, List.append_assoc]
    rw [List.append_assoc] at words
    exact words
theorem inBT (t : Str) : inV (.str t) [.str "both", .str "then"] = (decide (t = "both") || decide (t = "then")) := by
  by_cases c : t = "both"
  · subst c; decide +kernel
  · by_cases d : t = "then"
    · subst d; decide +kernel
    · rw [decide_eq_false c, decide_eq_false d]
      simp only [inV, List.any_cons, List.any_nil, Bool.or_false, Bool.or_eq_false_iff]
      refine ⟨?_, ?_⟩ <;> simp [eqV, Ne.symm c, Ne.symm d, c, d]
theorem Opn.pop {gc : Addr} {H : Hp} {B wl : Addr} {l : List Ob} {b : Ob} (h : Opn gc H B wl (l ++ [b])) : Opn gc H B wl l :=
  ⟨fun c hc => h.at_ c (by simp [hc]), by
    have nd := h.nd
    rw [List.map_append] at nd
    exact nd.sublist ((List.sublist_append_left _ _).cons_cons wl |>.cons_cons B), fun c hc => h.num c (by simp [hc]), (wok_pop h.wok).1⟩
theorem Opn.snoc {gc : Addr} {H : Hp} {B wl : Addr} {l : List Ob} {b : Ob} (h : Opn gc H B wl l) (hb : OpAt gc H b) (n1 : b.ss ≠ B) (n2 : b.ss ≠ wl) (n3 : ∀ c ∈ l, b.ss ≠ c.ss) (hn : b.num) (hl : l ≠ []) (hi : Inner b) : Opn gc H B wl (l ++ [b]) := by
  refine ⟨fun c hc => ?_, ?_, fun c hc => ?_, wok_app h.wok hl hi⟩
  · rcases List.mem_append.mp hc with hc | hc
    · exact h.at_ c hc
    · rw [List.mem_singleton.mp hc]; exact hb
  · rw [List.map_append, List.map_singleton]
    have := nd_app (a := b.ss) h.nd (by
      simp only [List.mem_cons, List.mem_map, not_or, not_exists, not_and]
      exact ⟨n1, n2, fun c hc z => n3 c hc z.symm⟩)
    exact this
  · rcases List.mem_append.mp hc with hc | hc
    · exact h.num c hc
    · rw [List.mem_singleton.mp hc]; exact hn
theorem size_le {z : Str} {k : Nat} (h : kdSize z = some k) : k ≤ 2 := by
  unfold kdSize at h
  split at h
  · cases h; decide
  · split at h
    · cases h; decide
    · split at h
      · cases h; decide
      · cases h
theorem sts_size {z : Str} {k : Nat} (h : kdSize z = some k) : stepW .sts z = some (List.replicate k .num ++ [.sts]) := by
  show (if z = "both" ∨ z = "then" then _ else if z = "." then _ else _) = _
  rw [if_neg, if_neg, h]
  · rfl
  · rintro rfl; rw [show kdSize "." = none by decide +kernel] at h; cases h
  · rintro (rfl | rfl)
    · rw [show kdSize "both" = none by decide +kernel] at h; cases h
    · rw [show kdSize "then" = none by decide +kernel] at h; cases h
theorem sts_none {z : Str} (h : kdSize z = none) (h1 : z ≠ "both") (h2 : z ≠ "then") (h3 : z ≠ ".") : stepW .sts z = none := by
  show (if z = "both" ∨ z = "then" then _ else if z = "." then _ else _) = _
  rw [if_neg (fun q => q.elim h1 h2), if_neg h3, h]
  rfl
section
variable {P : Program} {w : World} {K : PySem.W.Frag} {mg : Str → Option Value} {base : Heap} {f : Addr} {fd : FuncData} {wc gc bt : Addr}
theorem sc_chain_of : FnScope ["words", "begun", "word", "ended"] ["words"] (defScope s_chain_of) := ⟨rfl, rfl, rfl, by decide +kernel, rfl, by decide +kernel, by decide +kernel⟩
theorem ok_chain_of (T : Txt K mg) (W : WdF K wc) (Gf : BgF K gc) (BT : BtC P w K mg base bt) (N : DicF K w mg) (F : FnP K "chain_of" "chain_of" s_chain_of f fd) (G_take : CalM P w K mg base CX0 1 wc "take" ["self"] (spTake wc))
    (G_take_numbers : CalM P w K mg base (L2.CX P w) 4 wc "take_numbers" ["self", "many"] (spNums wc bt)) (G_take_maker : CalM P w K mg base (L2.CX P w) 5 wc "take_maker" ["self"] (spMk wc bt)) (G_check_end : CalM P w K mg base (L2.CX P w) 3 wc "check_end" ["self"] (spEnd wc bt))
    (I_Begun : CalI P w K mg base CX0 1 "Begun" gc ["self", "word", "maker"] (spBegun gc)) (G_chain : CalM P w K mg base CX0 1 gc "chain" ["self"] (spBgChain gc)) : FnOk P w K mg base (L2.CX P w) 6 f fd ["words"] (spChainOf wc bt) := by
  obtain ⟨nd, nes, nn, gN, ND, hN⟩ := N.ex
  refine okX F sc_chain_of (fun vs H Q E h => ?_) (fun cdv A outer s H vs Q E hr h px tk po => ?_)
  · obtain ⟨a, dx, l, ws, rfl, _⟩ := h
    rfl
  · obtain ⟨a, dx, wl, ws, rfl, hw, sz, kE, kQ⟩ := h
    refine ⟨_, (pss_cons (ps_set (i := 1) sc_chain_of.nd rfl (Or.inl rfl) (pe_lst (pa_cons (pe_mk I_Begun (hr.mono (by omega)) pass0 (pa_cons pe_str (pa_cons (pe_cm0 (pv 0) G_take_maker (hr.mono (by omega)) px) pa_nil))) pa_nil)))
  (pss_cons (ps_while po (pt_truth (pv 1) (by intro _; rfl))
    (pss_cons (ps_set (i := 2) sc_chain_of.nd rfl (Or.inl rfl) (pe_cm0 (pv 0) G_take (hr.mono (by omega)) pass0))
    (pss_one (ps_if (pt_cmpR (op_in_kdK ND) (pv 2) (pe_glob (v := .ref nd) (by rfl) gN rfl) (by rfl))
      (pss_one (ps_expr (pe_bm PySem.F.plainAttrs_list PySem.F.slot_list_append PySem.F.type_list_append mt_append (pe_fld (pe_ix (ix_listK K) (pv 1) (pe_un un_neg pe_int) (fun _ _ => rfl)) rfl) (pa_cons (pe_op (op_catAK K) (pe_tup (pa_cons (pv 2) pa_nil)) (pe_cm (pv 0) G_take_numbers (hr.mono (by omega)) px (pa_cons (pe_ix (ix_kdK ND) (pe_glob (v := .ref nd) (by rfl) gN rfl) (pv 2) (fun _ _ => rfl)) pa_nil))) pa_nil))))
      (pss_one (ps_if (pt_cmpR (op_in_seqK K) (pv 2) (pe_tup (pa_cons pe_str (pa_cons pe_str pa_nil))) (by rfl))
        (pss_one (ps_expr (pe_bm PySem.F.plainAttrs_list PySem.F.slot_list_append PySem.F.type_list_append mt_append (pv 1) (pa_cons (pe_mk I_Begun (hr.mono (by omega)) pass0 (pa_cons (pv 2) (pa_cons (pe_cm0 (pv 0) G_take_maker (hr.mono (by omega)) px) pa_nil))) pa_nil))))
        (pss_one (ps_if (pt_cmpR op_eq (pv 2) pe_str (nomark _))
          (pss_cons (ps_set (i := 3) sc_chain_of.nd rfl (Or.inl rfl) (pe_bm0 PySem.F.plainAttrs_list PySem.F.slot_list_pop PySem.F.type_list_pop mt_pop (pv 1)))
          (pss_one (ps_if (pt_truth (pv 1) (by intro _; rfl))
            (pss_one (ps_expr (pe_bm PySem.F.plainAttrs_list PySem.F.slot_list_append PySem.F.type_list_append mt_append (pe_fld (pe_ix (ix_listK K) (pv 1) (pe_un un_neg pe_int) (fun _ _ => rfl)) rfl) (pa_cons (pe_tup (pa_cons (pe_fld (pv 3) rfl) (pa_cons (pe_cm0 (pv 3) G_chain (hr.mono (by omega)) pass0) pa_nil))) pa_nil)))) pss_nil)))
          (pss_one (ps_bt rfl tk BT (hr.mono (by omega)) (pe_fld (pv 0) rfl)))))))))))
  (pss_cons (ps_expr (pe_cm0 (pv 0) G_check_end (hr.mono (by omega)) px))
  (pss_one (ps_ret (pe_cm0 (pv 3) G_chain (hr.mono (by omega)) pass0)))))), ?_⟩
    try dsimp only [cxOf, Cx.nox, Cx.wish]
    refine rd_at (σ' := [some (.ref a), none, none, none]) rfl ?_
    walk_at "go"
    refine rd_make ?_
    walk_at "go"
    refine rd_meth ?_
    walk_at "go"
    refine rd_m hw.ins rfl ?_
    walk_at "go"
    refine ⟨a, dx, wl, ws, 0, rfl, hw, Nat.zero_le _, sz, fun j hj => BtE.at_ (kE j (hj [])) (by omega), fun m H1 mk n hm hn hle hd hw1 hmk f1 => ?_⟩
    rw [Nat.zero_add] at hn
    rw [List.drop_zero] at hd
    walk_at "go"
    intro bx bdx hbx hbdx bne
    refine mk_begun hmk hbx hbdx bne fun b H2 e0 e1 e2 e3 e4 e5 hb nss f2 => ?_
    rw [← e0] at *
    walk_at "go"
    refine ⟨by show 1 ≤ sizeLine; decide, fun B hB => ?_⟩
    have f3 : Fr [] H2 (upd H2 B (.lst [.ref b.o])) := Fr.new hB
    have eB : upd H2 B (.lst [.ref b.o]) B = some (.lst [.ref b.o]) := upd_same
    have hb3 := hb.fr f3 (by simp) (by simp)
    have hw3 := (hw1.fr f2 (by simp) (by simp)).fr f3 (by simp) (by simp)
    have n1 : B ≠ wl := fun z => by have := (hw1.fr f2 (by simp) (by simp)).lst; rw [← z, hB] at this; cases this
    have n2 : B ≠ b.ss := fun z => by have := hb.lst; rw [← z, hB] at this; cases this
    have n3 : wl ≠ b.ss := fun z => by have := hw1.lst; rw [z, nss] at this; cases this
    have fB : Fr [a] H (upd H2 B (.lst [.ref b.o])) := (f1.tr (f2.mono fun b hb => by cases hb)).newN hB
    have sB : H B = none := (f1.tr (f2.mono fun b hb => by cases hb)).free (fun z => by
      have z := List.mem_singleton.mp z
      have := (hw1.fr f2 (by simp) (by simp)).ins
      rw [← z, hB] at this; cases this) hB
    have sS : H b.ss = none := f1.free (fun z => by
      have z := List.mem_singleton.mp z
      have := hw1.ins
      rw [← z, nss] at this; cases this) nss
    generalize upd H2 B (.lst [.ref b.o]) = H3 at *
    walk_at "go"
    refine ⟨fun μ σ H' => ∃ (n : Nat) (l : List Ob) (v2 v3 : Option V), σ = [some (.ref a), some (.ref B), v2, v3] ∧ LI wc gc a dx wl B ws H v3 H' n l ∧ μ = 2 * (ws.length - n) + (if l = [] then 0 else 1), ⟨_, n, [b], none, none, rfl, ⟨eB, hw3, hle, ?_, ?_, fB, ?_, ⟨?_, ?_, ?_, ?_⟩, ?_, sB, ?_, ?_⟩, rfl⟩, ?_⟩
    · show 1 ≤ n
      rw [hn]
      cases m with
      | count _ _ => show 1 ≤ 3; decide
      | row ns => show 1 ≤ (("row" : Str) :: _).length; rw [List.length_cons]; omega
    · intro c hc; rw [List.mem_singleton.mp hc, e4]; exact Nat.zero_le _
    · have q := bad_mk hm [] (ws.drop n)
      rw [← hd] at q
      unfold placeW
      rw [q, ← hn]
      rfl
    · intro c hc; rw [List.mem_singleton.mp hc]; exact hb3
    · simp only [List.map_cons, List.map_nil, List.nodup_cons, List.mem_cons, List.not_mem_nil, or_false, not_or, not_false_eq_true, List.nodup_nil, and_true]
      exact ⟨⟨n1, n2⟩, n3⟩
    · intro c hc; rw [List.mem_singleton.mp hc]; exact ⟨by rw [e3]; exact hm, by rw [e5]; simp⟩
    · exact ⟨e2, fun x hx => by cases hx⟩
    · intro c hc; rw [List.mem_singleton.mp hc]; exact sS
    · intro _
      rw [opsW_one]
      unfold opW wd1
      rw [e2, if_pos rfl, e3, e5]
      show ws = (m.words ++ []) ++ _
      rw [List.append_nil]; exact hd
    · intro z; cases z
    clear hbx hbdx bne hw hmk hm hd hw1 hb hb3 hw3 f1 f2 f3 nss n1 n2 n3 e0 e1 e2 e3 e4 e5 hB eB fB sB sS hle hn H1 H2 H3 mk n m b bx bdx
    rintro μ σ H1 ⟨n, l, v2, v3, rfl, I, rfl⟩
    walk_at "go"
    rcases List.eq_nil_or_concat l with rfl | ⟨l, b, e⟩
    · obtain ⟨b, rfl, hb, hbn, hws⟩ := I.fin rfl
      refine ⟨false, .inl ⟨_, SqL.of I.lst, rfl⟩, ?_⟩
      walk_at "go"
      dsimp only
      walk_at "go"
      refine rd_meth ?_
      walk_at "go"
      refine rd_m I.wd.ins rfl ?_
      walk_at "go"
      refine ⟨a, dx, wl, ws, n, rfl, I.wd, by have := sz.1; have := I.le; omega, fun hlt => ?_, fun hlt => ?_⟩
      · have dn : ws.drop n = [] := List.drop_of_length_le (by omega)
        walk_at "go"
        refine rd_meth ?_
        walk_at "go"
        refine rd_m hb.ins rfl ?_
        walk_at "go"
        refine ⟨b, rfl, hb, fun H2 p hch np f2 => ?_⟩
        have hp := I.pl
        rw [dn] at hp hws
        rw [List.append_nil] at hws
        exact kQ _ H2 p hp hws.symm (Ch.of_num.mpr hbn) hch (I.fr.tr (f2.mono fun b hb => by cases hb))
      · have hp := I.pl
        rw [wd_drop hlt] at hp
        have hp : placeW ws = some (0 + n) := hp
        rw [Nat.zero_add] at hp
        exact ((kE n hp).mono I.fr).less
    rw [List.concat_eq_append] at e
    subst e
    refine ⟨true, .inl ⟨_, SqL.of I.lst, by simp⟩, ?_⟩
    dsimp only
    refine iteT ?_
    refine ⟨fun σ' H' => ∃ μ', μ' < 2 * (ws.length - n) + 1 ∧ _, fun σ' H' z => by rw [if_neg (by simp)]; exact z, ?_⟩
    walk_at "go"
    refine rd_meth ?_
    walk_at "go"
    refine rd_m I.wd.ins rfl ?_
    walk_at "go"
    refine ⟨a, dx, wl, ws, n, rfl, I.wd, I.le, sz.1, fun H2 hw2 f2 => ?_⟩
    have nBa : B ≠ a := fun z => by have := I.lst; rw [z, I.wd.ins] at this; cases this
    have op2 := I.opn.fr f2 (fun c hc => by
      have := not_wd I.wd (I.opn.at_ c hc)
      exact ⟨by simpa using this.1, by simpa using this.2⟩)
    have eB2 := f2.at I.lst (by simpa using nBa)
    have f12 := I.fr.tr f2
    have pl := I.pl
    rw [List.length_append, List.length_singleton, List.replicate_succ] at pl
    have b2 := op2.at_ b (by simp)
    have ndl := op2.nd
    have len1 := I.len
    rw [List.length_append, List.length_singleton] at len1
    have asl := I.asl
    have new := I.new
    have newB := I.newB
    have le := I.le
    have words := I.words (by simp)
    clear I f2
    rw [List.map_append, List.map_singleton] at eB2
    walk_at "go"
    cases hk : kdSize (wdAt ws n) with
    | some k =>
      obtain ⟨t, ht⟩ := (hN (wdAt ws n)).1 k hk
      refine ⟨_, _, rfl, rfl, ht, ?_⟩
      refine ⟨true, rfl, iteT ?_⟩
      refine rd_at (σ' := [some (.ref a), some (.ref B), some (.str (wdAt ws n)), v3]) rfl ?_
      have est := sts_size hk
      obtain ⟨nlt, gd⟩ := good_at (st := List.replicate l.length .sts) le est
      have kle := size_le hk
      walk_at "go"
      refine rd_fld ?_
      walk_at "go"
      refine rd_ixL (SqL.of eB2) (atI_last _ _) ?_
      refine ⟨b.o, _, _, _, .ref b.ss, rfl, b2.ins, Gf.c, Gf.stages, rfl, ?_⟩
      refine ⟨tyl b2.lst, ?_⟩
      walk_at "go"
      refine ⟨by show 1 ≤ sizeLine; decide, fun q hq => ?_⟩
      have f3 : Fr [] H2 (upd H2 q (.tup [.str (wdAt ws n)])) := Fr.new hq
      have eq : upd H2 q (.tup [.str (wdAt ws n)]) q = some (.tup [.str (wdAt ws n)]) := upd_same
      have hw3 := hw2.fr f3 (by simp) (by simp)
      have op3 := op2.fr f3 (by simp)
      have eB3 := f3.at eB2 (by simp)
      have f13 := f12.tr (f3.mono fun b hb => by cases hb)
      clear hw2 op2 eB2 b2 f12 f3
      generalize upd H2 q (.tup [.str (wdAt ws n)]) = H3 at *
      walk_at "go"
      refine rd_meth ?_
      walk_at "go"
      refine rd_m hw3.ins rfl ?_
      walk_at "go"
      refine ⟨wdAt ws n, _, .int k, rfl, rfl, ht, ⟨_, rfl⟩, ?_⟩
      walk_at "go"
      refine ⟨a, dx, wl, ws, n + 1, k, rfl, by rw [show ((n + 1 : Nat) : Int) - 1 = n by omega]; exact hw3, nlt, kle, sz, fun j hj => ?_, fun ns H4 p hl2 ok hn2 hd hw4 e4 f4 => ?_⟩
      · rw [gd, List.append_assoc, hj] at pl
        exact BtE.at_ ((kE (j + 1 + n) pl).mono f13) (by omega)
      obtain ⟨kd, k1, k2⟩ := kd_of hk hl2
      have eq4 := f4.tp eq
      have op4 := op3.fr f4 (fun c hc => by
        have := not_wd hw3 (op3.at_ c hc)
        exact ⟨by simpa using this.1, by simpa using this.2⟩)
      have eB4 := f4.at eB3 (by simpa using nBa)
      refine catA_join eq4 e4 (by rw [List.length_map, hl2]; simp; omega) fun r H5 f5 e5 => ?_
      have f05 : Fr [] H5 H5 := Fr.refl _ _
      have op5 := op4.fr f5 (by simp)
      have eB5 := f5.at eB4 (by simp)
      have hw5 := hw4.fr f5 (by simp) (by simp)
      have b5 := op5.at_ b (by simp)
      have fr5 := (f13.tr f4).tr (f5.mono fun b hb => by cases hb)
      have g5 : SgAt H5 r (.one kd) := by show H5 r = some (.tup kd.vals); rw [kd.vals_eq, k1, k2]; exact e5
      walk_at "go"
      refine rd_append b5.lst (by rw [List.length_map]; exact Nat.lt_of_le_of_lt (show b.as.length ≤ 1000000 by have := asl b (by simp); have := sz.1; omega) (by decide)) ?_
      have hh : ws.drop n = (Sg.one kd).ws ++ ws.drop (n + 1 + k) := by
        rw [wd_drop nlt, hd, show (Sg.one kd).ws = wdAt ws n :: ns.map n2w by show kd.name :: kd.nums.map n2w = _; rw [k1, k2]]
        rfl
      have := LI.stage (g := .one kd) (v3 := v3) (m := n + 1 + k) (n := n) op5 (by rw [List.map_append, List.map_singleton]; exact eB5) (by exact hw5) hn2 fr5 (by omega) len1 asl new newB (words.trans (congrArg _ hh)) (by
        rw [pl, gd, hd, List.append_assoc, ← hl2, bad_nums ok, map_add, map_add]
        show (badW ([.sts] ++ List.replicate l.length .sts) (ws.drop (n + 1 + ns.length))).map _ = _
        congr 1; funext x; omega) g5 (fun x hx => by rw [k2] at hx; exact ok x hx)
      refine ⟨_, ?_, n + 1 + k, l ++ [b.add r (.one kd)], _, _, rfl, ?_, rfl⟩
      · rw [if_neg (by simp)]; omega
      · rw [List.map_append] at this; exact this
    | none =>
      refine ⟨_, _, rfl, rfl, (hN (wdAt ws n)).2 hk, ?_⟩
      refine ⟨false, rfl, iteF ?_⟩
      refine rd_at (σ' := [some (.ref a), some (.ref B), some (.str (wdAt ws n)), v3]) rfl ?_
      walk_at "go"
      refine ⟨by show 2 ≤ sizeLine; decide, fun q hq => ?_⟩
      have f3 : Fr [] H2 (upd H2 q (.tup [.str "both", .str "then"])) := Fr.new hq
      have hw3 := hw2.fr f3 (by simp) (by simp)
      have op3 := op2.fr f3 (by simp)
      have eB3 := f3.at eB2 (by simp)
      have f13 := f12.tr (f3.mono fun b hb => by cases hb)
      refine ⟨q, _, rfl, .inr (SqT.of upd_same), rfl, rfl, ?_⟩
      clear hw2 op2 eB2 b2 f12 f3
      generalize upd H2 q (.tup [.str "both", .str "then"]) = H3 at *
      rw [if_neg (by decide), inBT]
      refine ⟨_, rfl, ?_⟩
      by_cases hbt : wdAt ws n = "both" ∨ wdAt ws n = "then"
      · have est : stepW .sts (wdAt ws n) = some [.mk, .sts] := if_pos hbt
        obtain ⟨nlt, gd⟩ := good_at (st := List.replicate l.length .sts) le est
        rw [show (decide (wdAt ws n = "both") || decide (wdAt ws n = "then")) = true by rw [← Bool.decide_or]; exact decide_eq_true hbt]
        refine iteT ?_
        walk_at "go"
        refine ⟨tyl eB3, ?_⟩
        walk_at "go"
        refine rd_make ?_
        walk_at "go"
        refine rd_meth ?_
        walk_at "go"
        refine rd_m hw3.ins rfl ?_
        walk_at "go"
        refine ⟨a, dx, wl, ws, n + 1, rfl, by rw [show ((n + 1 : Nat) : Int) - 1 = n by omega]; exact hw3, nlt, sz, fun j hj => ?_, fun m H4 mk n' hm hn' hle hd hw4 hmk f4 => ?_⟩
        · rw [gd, show ([.mk, .sts] ++ List.replicate l.length .sts : List Wt) = .mk :: (.sts :: List.replicate l.length .sts) from rfl, hj] at pl
          exact BtE.at_ ((kE (j + 1 + n) pl).mono f13) (by omega)
        walk_at "go"
        intro bx bdx hbx hbdx bne
        refine mk_begun hmk hbx hbdx bne fun nb H5 e0 e1 e2 e3 e4 e5 hnb nss f5 => ?_
        rw [← e0]
        have op4 := op3.fr f4 (fun c hc => by
          have := not_wd hw3 (op3.at_ c hc)
          exact ⟨by simpa using this.1, by simpa using this.2⟩)
        have eB4 := f4.at eB3 (by simpa using nBa)
        have n1 : nb.ss ≠ B := fun z => by rw [z, eB4] at nss; cases nss
        have n2 : nb.ss ≠ wl := fun z => by rw [z, hw4.lst] at nss; cases nss
        have n3 : ∀ c ∈ l ++ [b], nb.ss ≠ c.ss := fun c hc z => by rw [z, (op4.at_ c hc).lst] at nss; cases nss
        have n4 : nb.ss ≠ a := fun z => by rw [z, hw4.ins] at nss; cases nss
        have eB5 := f5.at eB4 (by simp)
        have hw5 := hw4.fr f5 (by simp) (by simp)
        have inb : Inner nb := by unfold Inner; rw [e2]; exact hbt
        have op5 := (op4.fr f5 (by simp)).snoc hnb n1 n2 n3 (by unfold Ob.num; rw [e3, e5]; exact ⟨hm, by simp⟩) (by simp) inb
        have fr4 := f13.tr f4
        have fr5 := fr4.tr (f5.mono fun b hb => by cases hb)
        walk_at "go"
        refine rd_append eB5 (by rw [List.length_append, List.length_map, List.length_singleton]; exact Nat.lt_of_le_of_lt (show l.length + 1 ≤ 1000000 by have := sz.1; omega) (by decide)) ?_
        have fB : Fr [B] H5 (upd H5 B (.lst ((l.map (fun b => V.ref b.o) ++ [V.ref b.o]) ++ [V.ref nb.o]))) := Fr.put (by simp) (nt eB5)
        have nd5 := op5.nd
        have nBw : B ≠ wl := fun z => (List.nodup_cons.mp nd5).1 (by rw [z]; simp)
        have nBs : ∀ c ∈ l ++ [b] ++ [nb], c.ss ≠ B := fun c hc z => (List.nodup_cons.mp nd5).1 (by rw [← z]; exact List.mem_cons_of_mem _ (List.mem_map_of_mem (f := (·.ss)) hc))
        have nBo : ∀ c ∈ l ++ [b] ++ [nb], c.o ≠ B := fun c hc z => by have := (op5.at_ c hc).ins; rw [z, eB5] at this; cases this
        have hls : nb.ss ≠ a → H nb.ss = none := fun _ => fr4.free (by simpa using n4) nss
        have ll : (l ++ [b] ++ [nb]).length = l.length + 2 := by simp
        refine ⟨_, ?_, n', l ++ [b] ++ [nb], _, _, rfl, ⟨?_, hw5.fr fB (by simpa using nBa.symm) (by simpa using nBw.symm), hle, ?_, fun c hc => ?_, fr5.putN (.inr newB) (nt eB5), ?_, op5.fr fB (fun c hc => ⟨by simpa using nBo c hc, by simpa using nBs c hc⟩), fun c hc => ?_, newB, fun _ => ?_, fun z => absurd z (by simp)⟩, rfl⟩
        · rw [if_neg (by simp)]; omega
        · rw [upd_same, List.map_append, List.map_append]; rfl
        · rw [ll]
          have : 1 ≤ m.words.length := by cases m with
            | count _ _ => show 1 ≤ 3; decide
            | row ns => show 1 ≤ (("row" : Str) :: _).length; rw [List.length_cons]; omega
          omega
        · rcases List.mem_append.mp hc with hc | hc
          · have := asl c hc; omega
          · rw [List.mem_singleton.mp hc, e4]; exact Nat.zero_le _
        · rw [ll, List.replicate_succ, List.replicate_succ, pl, gd, show ([.mk, .sts] ++ List.replicate l.length .sts : List Wt) = .mk :: (.sts :: List.replicate l.length .sts) from rfl, hd, bad_mk hm, map_add, map_add, hn']
          congr 1; funext x; omega
        · rcases List.mem_append.mp hc with hc | hc
          · exact new c hc
          · rw [List.mem_singleton.mp hc]; exact hls n4
        · have hh : ws.drop n = opW nb ++ ws.drop n' := by
            rw [wd_drop nlt, hd]
            unfold opW wd1
            rw [e2, e3, e5, if_neg (by rcases hbt with q | q <;> (rw [q]; decide +kernel))]
            show _ = ([wdAt ws n] ++ (m.words ++ [])) ++ ws.drop n'
            rw [List.append_nil]; rfl
          rw [opsW_app, opsW_one, List.append_assoc, ← hh]
          exact words
      · rw [show (decide (wdAt ws n = "both") || decide (wdAt ws n = "then")) = false by rw [← Bool.decide_or]; exact decide_eq_false hbt]
        refine iteF ?_
        walk_at "go"
        refine rd_dec (fun c => ?_) (fun c => ?_)
        · have c : wdAt ws n = "." := V.str.inj c
          have est : stepW .sts (wdAt ws n) = some [] := by rw [c]; decide +kernel
          obtain ⟨nlt, gd⟩ := good_at (st := List.replicate l.length .sts) le est
          walk_at "go"
          refine ⟨tyl eB3, B, _, .ref b.o, rfl, rfl, eB3, by simp, ?_⟩
          rw [List.dropLast_concat]
          have nd3 := op3.nd
          have nBw : B ≠ wl := fun z => (List.nodup_cons.mp nd3).1 (by rw [z]; simp)
          have nBs : ∀ c ∈ l ++ [b], c.ss ≠ B := fun c hc z => (List.nodup_cons.mp nd3).1 (by rw [← z]; exact List.mem_cons_of_mem _ (List.mem_map_of_mem (f := (·.ss)) hc))
          have nBo : ∀ c ∈ l ++ [b], c.o ≠ B := fun c hc z => by have := (op3.at_ c hc).ins; rw [z, eB3] at this; cases this
          have fB : Fr [B] H3 (upd H3 B (.lst (l.map fun b => V.ref b.o))) := Fr.put (by simp) (nt eB3)
          have op4 := op3.fr fB (fun c hc => ⟨by simpa using nBo c hc, by simpa using nBs c hc⟩)
          have hw4 := hw3.fr fB (by simpa using nBa.symm) (by simpa using nBw.symm)
          have eB4 : upd H3 B (.lst (l.map fun b => V.ref b.o)) B = some (.lst (l.map fun b => V.ref b.o)) := upd_same
          have f14 := f13.putN (o := .lst (l.map fun b => V.ref b.o)) (.inr newB) (nt eB3)
          clear fB hw3 op3 eB3 f13 hq
          generalize upd H3 B (.lst (l.map fun b => V.ref b.o)) = H4 at *
          have b4 := op4.at_ b (by simp)
          have bn := op4.num b (by simp)
          have bw := wok_pop op4.wok
          have opl := op4.pop
          have dn : ws.drop n = [(".":Str)] ++ ws.drop (n + 1) := by rw [wd_drop nlt, c]; rfl
          rw [gd, List.nil_append, map_add] at pl
          dsimp only
          refine rd_name ?_
          refine rd_at (σ' := [some (.ref a), some (.ref B), some (.str (wdAt ws n)), some (.ref b.o)]) rfl ?_
          walk_at "go"
          rcases List.eq_nil_or_concat l with rfl | ⟨l2, par, e⟩
          · refine ⟨false, .inl ⟨_, SqL.of eB4, rfl⟩, ?_⟩
            walk_at "go"
            refine ⟨_, ?_, n + 1, [], _, _, rfl, ⟨eB4, by rw [show ((n + 1 : Nat) : Int) - 1 = n by omega]; exact hw4, nlt, Nat.zero_le _, by simp, f14, by rw [pl]; congr 1; funext x; omega, opl, by simp, newB, fun z => absurd rfl z, fun _ => ⟨b, rfl, b4, bn, ?_⟩⟩, rfl⟩
            · rw [if_pos rfl]; omega
            · rw [List.nil_append, opsW_one] at words
              unfold opW wd1 at words
              rw [if_pos (bw.2.1 rfl), dn] at words
              unfold Ch.words
              rw [of_ws, List.append_assoc, List.append_assoc]
              rw [List.nil_append, List.append_assoc] at words
              exact words
          · rw [List.concat_eq_append] at e
            subst e
            refine ⟨true, .inl ⟨_, SqL.of eB4, by simp⟩, ?_⟩
            walk_at "go"
            refine rd_fld ?_
            walk_at "go"
            rw [List.map_append, List.map_singleton] at eB4
            refine rd_ixL (SqL.of eB4) (atI_last _ _) ?_
            have p4 := opl.at_ par (by simp)
            refine ⟨par.o, _, _, _, .ref par.ss, rfl, p4.ins, Gf.c, Gf.stages, rfl, ?_⟩
            refine ⟨tyl p4.lst, ?_⟩
            walk_at "go"
            refine rd_sf rfl b4.ins Gf.c Gf.word rfl ?_
            walk_at "go"
            refine rd_meth ?_
            walk_at "go"
            refine rd_m b4.ins rfl ?_
            walk_at "go"
            refine ⟨b, rfl, b4, fun H5 p hch np f5 => ?_⟩
            walk_at "go"
            refine ⟨by show 2 ≤ sizeLine; decide, fun x hx => ?_⟩
            have f6 : Fr [] H5 (upd H5 x (.tup [.str b.w, .ref p])) := Fr.new hx
            have ex : upd H5 x (.tup [.str b.w, .ref p]) x = some (.tup [.str b.w, .ref p]) := upd_same
            have f46 := f5.tr f6
            have op6 := opl.fr f46 (by simp)
            have hw6 := hw4.fr f46 (by simp) (by simp)
            have eB6 := f46.at eB4 (by simp)
            have fr6 := f14.tr (f46.mono fun b hb => by cases hb)
            have hch6 := hch.fr f6
            generalize upd H5 x (.tup [.str b.w, .ref p]) = H6 at *
            have p6 := op6.at_ par (by simp)
            walk_at "go"
            refine rd_append p6.lst (by rw [List.length_map]; exact Nat.lt_of_le_of_lt (show par.as.length ≤ 1000000 by have := asl par (by simp); have := sz.1; omega) (by decide)) ?_
            obtain ⟨g, g1, g2, g3⟩ : ∃ g : Sg, SgAt H6 x g ∧ g.num ∧ g.ws = opW b ++ [(".":Str)] := by
              have hcn : (Ch.of b.m b.gs).num := Ch.of_num.mpr bn
              rcases bw.2.2 (by simp) with q | q
              · refine ⟨.both (Ch.of b.m b.gs), ⟨p, by rw [ex, q], hch6⟩, hcn, ?_⟩
                show ("both" : Str) :: ((Ch.of b.m b.gs).ws ++ [(".":Str)]) = _
                unfold opW wd1
                rw [of_ws, q, if_neg (by decide +kernel)]; rfl
              · refine ⟨.thn (Ch.of b.m b.gs), ⟨p, by rw [ex, q], hch6⟩, hcn, ?_⟩
                show ("then" : Str) :: ((Ch.of b.m b.gs).ws ++ [(".":Str)]) = _
                unfold opW wd1
                rw [of_ws, q, if_neg (by decide +kernel)]; rfl
            rw [List.length_append, List.length_singleton] at len1
            have := LI.stage (g := g) (v3 := some (.ref b.o)) (m := n + 1) (n := n) op6 (by rw [List.map_append, List.map_singleton]; exact eB6) (by rw [show ((n + 1 : Nat) : Int) - 1 = n by omega]; exact hw6) nlt fr6 (by omega) (by omega) (fun c hc => asl c (by simp only [List.mem_append] at hc ⊢; exact .inl hc)) (fun c hc => new c (by simp only [List.mem_append] at hc ⊢; exact .inl hc)) newB (by
              rw [g3, List.append_assoc, ← dn]
              rw [opsW_app, opsW_one, List.append_assoc] at words
              exact words) (by
              rw [pl, List.length_append, List.length_singleton, List.replicate_succ]
              congr 1; funext x; omega) g1 g2
            refine ⟨_, ?_, n + 1, l2 ++ [par.add x g], _, _, rfl, ?_, rfl⟩
            · rw [if_neg (by simp)]; omega
            · rw [List.map_append] at this; exact this
        · have est := sts_none hk (fun z => hbt (.inl z)) (fun z => hbt (.inr z)) (fun z => c (by rw [z]))
          walk_at "go"
          refine rd_mko ?_
          walk_at "go"
          refine rd_sf rfl hw3.ins W.c W.place rfl ?_
          walk_at "go"
          rw [bad_at le est] at pl
          have pl : placeW ws = some (0 + n) := pl
          rw [Nat.zero_add] at pl
          exact mkbt (S := [a]) (by have := sz.1; omega) ((kE n pl).mono f13)
end
end Dc

set_option Elab.async false
set_option linter.all false
set_option maxRecDepth 100000
set_option maxHeartbeats 2000000
namespace Dc
open PySem PySem.Spec PyProof.Rows L2
local macro_rules | `(tactic| walk_at "ne") => `(tactic| first | assumption | (refine Ne.symm ?_; assumption) | exact ne_of (by assumption) (by assumption) (by intro q; cases q) | exact ne_of_none (by assumption) (by assumption) | exact Ne.symm (ne_of_none (by assumption) (by assumption)))
local macro_rules | `(tactic| walk_at "hp") => `(tactic| first | assumption | exact upd_same | (refine upd_keep ?_ (by assumption); walk_at "hp") | (refine upd_other ?_ ?_; · walk_at "ne"; · walk_at "hp"))
local macro_rules | `(tactic| walk_at "hl") => `(tactic| first | assumption | exact SqL.of (by walk_at "hp"))
local macro_rules | `(tactic| walk_at "ht") => `(tactic| first | assumption | exact SqT.of (by walk_at "hp"))
local macro_rules | `(tactic| walk_at "rd1") => `(tactic| first
  | ((with_reducible apply rd_var); exact rfl)
  | ((with_reducible apply rd_eq); exact rfl) | ((with_reducible apply rd_ne); exact rfl)
  | with_reducible first
  | refine iteT ?_ | refine iteF ?_ | refine rd_nF ?_ | refine rd_nT ?_ | refine rd_yes ?_ | refine rd_c ?_ | refine rd_op ?_ | refine rd_un ?_ | refine rd_test ?_ | refine rd_B ?_ | refine rd_bl ?_ | refine rd_seq ?_ | refine rd_next ?_ | refine rd_ifs ?_ | refine rd_asg ?_ | refine rd_name ?_ | refine rd_ret ?_ | refine rd_drop ?_
  | refine rd_call ?_ | refine rd_cons ?_ | refine rd_nil ?_ | refine rd_cb ?_ | refine rd_I0 ?_ | refine rd_U ?_ | refine rd_gsub ?_ | refine rd_lst ?_ | refine rd_tup ?_ | refine rd_if ?_ | refine rd_not ?_ | refine rd_rng1 ?_ | refine rd_itup ?_ | refine rd_ilst ?_ | refine rd_bm ?_ | refine rd_bm0 ?_ | refine rd_andV ?_ | refine rd_orV ?_ | refine rd_notV ?_)
local macro_rules | `(tactic| walk_at "rd") => `(tactic| repeat walk_at "rd1")
local macro_rules | `(tactic| walk_at "ci") => `(tactic| first | assumption | (show (0 : Int) < _; first | decide | omega) | exact ⟨by decide, by decide⟩ | exact Or.inr ⟨by decide, by decide⟩ | exact Or.inl ⟨by decide, by decide⟩ | exact ⟨by decide, by decide, by decide⟩ | exact Or.inl ⟨by omega, by omega⟩ | exact Or.inr ⟨by omega, by omega⟩)
local macro_rules | `(tactic| walk_at "ix") => `(tactic| first
  | ((with_reducible apply rd_ixL); (walk_at "hl"); exact rfl)
  | ((with_reducible apply rd_ixT); (walk_at "ht"); exact rfl)
  | ((with_reducible apply rd_lenL); (walk_at "hl"))
  | ((with_reducible apply rd_lenT); (walk_at "ht"))
  | ((with_reducible apply rd_tupOf); (walk_at "hl"))
  | ((with_reducible apply rd_listOf); (walk_at "hl"))
  | (with_reducible refine rd_min2 ?_)
  | ((with_reducible apply rd_I); (walk_at "ci"))
  | ((with_reducible apply rd_setL); (walk_at "hp"); exact rfl))
local macro_rules | `(tactic| walk_at "gs") => `(tactic| repeat first | walk_at "rd1" | walk_at "ix")
local macro_rules | `(tactic| walk_at "go") => `(tactic| repeat first | walk_at "rd1" | walk_at "ix" | with_reducible refine rd_and ?_ | with_reducible refine rd_or ?_)
local macro_rules | `(tactic| walk_at "fo") => `(tactic| (with_reducible refine rd_for ?_))
local macro_rules | `(tactic| walk_at "pm") => `(tactic| repeat first
  | with_reducible first | refine rd_pcons ?_ | refine rd_pstr ?_ | refine rd_pcap ?_ | refine rd_pwild ?_ | refine rd_pnil ?_ | refine rd_por ?_ | refine rd_pno ?_
  | ((with_reducible refine rd_eq rfl ?_); refine ⟨_, rfl, ?_⟩; first | refine rd_T rfl ?_ | refine rd_F (by decide) ?_)
  | dsimp only [List.nil_append, List.singleton_append, List.cons_append, setAll])
local macro_rules | `(tactic| walk_at "pc") => `(tactic| (refine rd_case ?_); (first | (refine rd_phit (SqT.of (by assumption)) rfl ?_) | (refine rd_pmiss (SqT.of (by assumption)) (by simp) ?_)); (walk_at "pm"))

theorem cut2 {s1 s2 rest : TS} {D : Ends} {σ : L2.St} {H : Hp} (Pp : L2.St → Hp → Prop) (core : ∀ σ' H', Pp σ' H' → rest D σ' H') (h : ∀ nx' : L2.St → Hp → Prop, (∀ σ' H', Pp σ' H' → nx' σ' H') → s1 { D with nx := s2 { D with nx := nx' } } σ H) : tSeq s1 (tSeq s2 rest) D σ H := h (rest D) core
theorem cut1 {s1 rest : TS} {D : Ends} {σ : L2.St} {H : Hp} (Pp : L2.St → Hp → Prop) (core : ∀ σ' H', Pp σ' H' → rest D σ' H') (h : ∀ nx' : L2.St → Hp → Prop, (∀ σ' H', Pp σ' H' → nx' σ' H') → s1 { D with nx := nx' } σ H) : tSeq s1 rest D σ H := h (rest D) core
/-- [str(n) for n in a tuple] -/
theorem lc_strs {K : PySem.W.Frag} {σ : L2.St} {i : Nat} {p : Addr} {ns : List Int} {H : Hp} {Q : VK} (hi : i < σ.length) (hp : SqT K H p (ns.map V.int)) (hst : ∀ H', Fr [] H H' → SqT K H' p (ns.map V.int)) (hl : ns.length ≤ 1000) (ok : ∀ n ∈ ns, numOk n) (k : ∀ D H', H' D = some (.lst ((ns.map n2w).map V.str)) → H D = none → Fr [] H H' → Q (.ref D) H') :
    LcK (gName i) tYes (tCB (fun xs H Q => ∃ i, xs = [.int i] ∧ i.natAbs.log2 < 1920 ∧ Q (.str (toString i)) H) (tCons (tVar i) tNil)) [i] σ (Itt K p) H Q := by
  intro D hD
  refine lc_tup (K := K) (a := p) (xs := ns.map V.int) (fun j H1 => H1 D = some (.lst (((ns.take j).map n2w).map V.str)) ∧ Fr [] H H1) ⟨upd_same, Fr.new hD⟩ (fun j H1 _ ⟨_, fr⟩ => hst _ fr) ?_ ?_
  · rintro j y H1 hj ⟨e1, f1⟩
    rw [List.getElem?_map] at hj
    obtain ⟨n, en, rfl⟩ : ∃ n, ns[j]? = some n ∧ y = .int n := by
      cases e : ns[j]? with
      | none => rw [e] at hj; cases hj
      | some z => rw [e] at hj; exact ⟨z, rfl, (Option.some.inj hj).symm⟩
    have il : j < ns.length := (List.getElem?_eq_some_iff.mp en).1
    have hw : wipe σ [i] = σ.set i none := rfl
    refine ⟨?_, ?_⟩
    · rw [hw]; show ((σ.set i none).set i (some (.int n))).set i none = _
      rw [List.set_set, List.set_set]
    · refine rd_yes ?_
      refine iteT ?_
      refine rd_cb ?_
      refine rd_cons ?_
      refine rd_var (v := .int n) (by rw [hw, List.getElem?_set_self (by rw [List.length_set]; exact hi)]) ?_
      refine rd_nil ?_
      refine ⟨n, rfl, num_log (ok n (List.mem_of_getElem? en)), _, e1, by rw [List.length_map, List.length_map, List.length_take]; exact Nat.lt_of_le_of_lt (show min j ns.length ≤ 1000 by omega) (by decide), ?_, f1.trans (Fr.put (S := [D]) (by simp) (nt e1)) fun b hb => ?_⟩
      · rw [upd_same, List.take_succ, en, List.map_append, List.map_append]
        rfl
      · rw [List.mem_singleton] at hb
        rw [hb]; exact .inr hD
  · rintro H1 ⟨e1, f1⟩
    rw [List.length_map, List.take_length] at e1
    exact k D H1 e1 hD f1
section
variable {P : Program} {w : World} {K : PySem.W.Frag} {mg : Str → Option Value} {base : Heap} {f : Addr} {fd : FuncData}
theorem sc__law_words : FnScope ["_law_chain_here", "_law_maker_here", "_law_stages_here", "_law_found", "_law_number_here", "_law_stage_here", "_law_part"] ["_law_chain_here"] (defScope s__law_words) := ⟨rfl, rfl, rfl, by decide +kernel, rfl, by decide +kernel, by decide +kernel⟩
theorem ok_law_words {n : Nat} (hn1 : n ≤ 1000) (T : Txt K mg) (F : FnP K "_law_words" "_law_words" s__law_words f fd) (G__law_words : Cal P w K mg base CX0 (n + 1) "_law_words" ["_law_chain_here"] (spWO n)) : FnOk P w K mg base CX0 (n + 2) f fd ["_law_chain_here"] (spWO (n + 1)) := by
  refine ok0 F sc__law_words (fun vs H Q E h => ?_) (fun cdv A outer s H vs Q E hr h => ?_)
  · obtain ⟨p, c, rfl, _⟩ := h
    rfl
  · obtain ⟨p, c, rfl, ⟨mk, ss, as, ep, ess, hst⟩, cok, cnm, cn4, cn12, k⟩ := h
    have hg := hst.get
    have ho := Ch.ok_sgs cok
    have hroot := hst.root
    refine ⟨_, (pss_cons (ps_asg (pv 0) (pg_tup (by rfl) (pgs_cons (pg_name (i := 1) sc__law_words.nd rfl (Or.inl rfl)) (pgs_cons (pg_name (i := 2) sc__law_words.nd rfl (Or.inl rfl)) pgs_nil))))
  (pss_cons (ps_set (i := 3) sc__law_words.nd rfl (Or.inl rfl) (pe_op op_cat (pe_lst (pa_cons (pe_ix (ix_tupK K) (pv 1) pe_int (fun _ _ => rfl)) pa_nil)) (pe_lc (own := [("_law_number_here", 4)]) (g := gName 4) rfl sc__law_words.nd (pi_tup (pe_ifExp (pt_cmpR op_eq (pe_ix (ix_tupK K) (pv 1) pe_int (fun _ _ => rfl)) pe_str (nomark _)) (pe_slice (sl_tupAK K) (pv 1) (po_some pe_int) po_none) (pe_ix (ix_tupK K) (pv 1) pe_int (fun _ _ => rfl)))) (blkOk_by (N := ["_law_chain_here", "_law_maker_here", "_law_stages_here", "_law_found", "_law_number_here", "_law_stage_here", "_law_part"]) (sc := defScope s__law_words) (by decide +kernel)) (fun _ _ _ _ _ => pg_name (i := 4) sc__law_words.nd rfl (Or.inl rfl)) (fun _ _ _ _ _ => pts_nil) (fun _ _ _ _ _ => (pe_callTy call_str_int (by rfl) T.free_str (by decide +kernel) (pa_cons (pv 4) pa_nil))))))
  (pss_cons (ps_set (i := 3) sc__law_words.nd rfl (Or.inl rfl) (pe_op op_cat (pv 3) (pe_op op_rep (pe_lst (pa_cons pe_str pa_nil)) (pe_callTy call_int1 (by rfl) T.free_int (by decide +kernel) (pa_cons (pe_cmpR op_eq (pe_ix (ix_tupK K) (pv 1) pe_int (fun _ _ => rfl)) pe_str (nomark _)) pa_nil)))))
  (pss_cons (ps_for PassesOwn.never rfl (pi_tup (pv 2)) (pg_name (i := 5) sc__law_words.nd rfl (Or.inl rfl))
    (pss_cons (ps_expr (pe_bm PySem.F.plainAttrs_list PySem.F.slot_list_append PySem.F.type_list_append mt_append (pv 3) (pa_cons (pe_ix (ix_tupK K) (pv 5) pe_int (fun _ _ => rfl)) pa_nil)))
    (pss_one (ps_if (pt_cmpR (op_in_seqK K) (pe_ix (ix_tupK K) (pv 5) pe_int (fun _ _ => rfl)) (pe_tup (pa_cons pe_str (pa_cons pe_str pa_nil))) (by rfl))
      (pss_one (ps_set (i := 3) sc__law_words.nd rfl (Or.inl rfl) (pe_op op_cat (pv 3) (pe_cal G__law_words (hr.mono (by omega)) pass0 (pa_cons (pe_ix (ix_tupK K) (pv 5) pe_int (fun _ _ => rfl)) pa_nil)))))
      (pss_one (ps_set (i := 3) sc__law_words.nd rfl (Or.inl rfl) (pe_op op_cat (pv 3) (pe_lc (own := [("_law_part", 6)]) (g := gName 6) rfl sc__law_words.nd (pi_tup (pe_slice (sl_tupAK K) (pv 5) (po_some pe_int) po_none)) (blkOk_by (N := ["_law_chain_here", "_law_maker_here", "_law_stages_here", "_law_found", "_law_number_here", "_law_stage_here", "_law_part"]) (sc := defScope s__law_words) (by decide +kernel)) (fun _ _ _ _ _ => pg_name (i := 6) sc__law_words.nd rfl (Or.inl rfl)) (fun _ _ _ _ _ => pts_nil) (fun _ _ _ _ _ => (pe_callTy call_str_int (by rfl) T.free_str (by decide +kernel) (pa_cons (pv 6) pa_nil)))))))))))
  (pss_one (ps_ret (pe_op op_cat (pv 3) (pe_lst (pa_cons pe_str pa_nil))))))))), ?_⟩
    try dsimp only [cxOf, Cx.nox, Cx.wish]
    refine rd_at (σ' := [some (.ref p), none, none, none, none, none, none]) rfl ?_
    walk_at "go"
    refine ⟨p, _, rfl, SqT.of ep, rfl, _, _, rfl, _, _, rfl, rfl, ?_⟩
    dsimp only [List.set]
    refine cut2 (fun σ' H' => ∃ l, σ' = [some (.ref p), some (.ref mk), some (.ref ss), some (.ref l), none, none, none] ∧ H' l = some (.lst (c.root.words.map V.str)) ∧ H l = none ∧ Fr [] H H') ?_ ?_
    rotate_left
    · intro nx hnx
      cases hr' : c.root with
      | row ns =>
        rw [hr'] at hroot
        obtain ⟨r, e1, e2⟩ := id hroot
        have hok : (Mkr.row ns).ok := hr' ▸ ho.1
        walk_at "go"
        refine ⟨by show 1 ≤ sizeLine; decide, fun l1 h1 => ?_⟩
        have f1 : Fr [] H (upd H l1 (.lst [.str "row"])) := Fr.new h1
        have el1 : upd H l1 (.lst [.str "row"]) l1 = some (.lst ([("row" : Str)].map V.str)) := upd_same
        replace e1 := f1.tp e1
        replace e2 := f1.tp e2
        generalize upd H l1 (.lst [.str "row"]) = H1 at *
        refine rd_lc ?_
        refine rd_itup ?_
        walk_at "go"
        refine rd_F (by decide) ?_
        walk_at "go"
        refine ⟨r, rfl, ⟨_, SqT.of e2⟩, lc_strs (by simp) (SqT.of e2) (fun H' f => SqT.of (f.tp e2)) (by have := hok.1; omega) hok.2 fun D H2 eD nD f2 => ?_⟩
        have el2 := f2.at el1 (by simp)
        refine rd_cat el2 eD ?_ fun q3 hq3 => ?_
        · have := hok.1
          simp only [List.length_map, List.length_cons, List.length_nil]
          exact Nat.le_trans (show 0 + 1 + ns.length ≤ 101 by omega) (by decide)
        have e3 : upd H2 q3 (.lst ([("row" : Str)].map V.str ++ (ns.map n2w).map V.str)) q3 = some (.lst ([("row" : Str)].map V.str ++ (ns.map n2w).map V.str)) := upd_same
        have f3 := (f1.tr f2).newN (o := .lst ([("row" : Str)].map V.str ++ (ns.map n2w).map V.str)) hq3
        replace e1 := (f2.tr (Fr.new (o := .lst ([("row" : Str)].map V.str ++ (ns.map n2w).map V.str)) hq3)).tp e1
        generalize upd H2 q3 (.lst ([("row" : Str)].map V.str ++ (ns.map n2w).map V.str)) = H3 at *
        walk_at "go"
        refine ⟨by show 1 ≤ sizeLine; decide, fun l4 h4 => ?_⟩
        have f4 := f3.newN (o := .lst [.str ";"]) h4
        have e34 : upd H3 l4 (.lst [.str ";"]) q3 = _ := upd_keep e3 h4
        have e4 : upd H3 l4 (.lst [.str ";"]) l4 = some (.lst [.str ";"]) := upd_same
        have e14 : upd H3 l4 (.lst [.str ";"]) mk = _ := upd_keep e1 h4
        generalize upd H3 l4 (.lst [.str ";"]) = H4 at *
        walk_at "go"
        refine .inr ⟨true, rfl, ?_⟩
        refine ⟨l4, 1, _, rfl, rfl, e4, by decide, by decide, by show 1 * 1 ≤ sizeLine; decide, fun l5 h5 => ?_⟩
        have f5 := f4.newN (o := .lst (List.replicate (1:Int).toNat [V.str ";"]).flatten) h5
        have e35 : upd H4 l5 (.lst (List.replicate (1:Int).toNat [V.str ";"]).flatten) q3 = _ := upd_keep e34 h5
        refine rd_cat e35 upd_same ?_ fun q6 hq6 => ?_
        · have := hok.1
          simp only [List.length_map, List.length_cons, List.length_nil, List.length_append]
          exact Nat.le_trans (show 0 + 1 + ns.length + 1 ≤ 102 by omega) (by decide)
        exact hnx _ _ ⟨q6, rfl, by rw [upd_same, hr']; simp [Mkr.words], f5.free (by simp) hq6, f5.newN hq6⟩
      | count b s =>
        rw [hr'] at hroot
        have e1 := id hroot
        have hok : (Mkr.count b s).ok := hr' ▸ ho.1
        walk_at "go"
        refine ⟨by show 1 ≤ sizeLine; decide, fun l1 h1 => ?_⟩
        have f1 : Fr [] H (upd H l1 (.lst [.str "count"])) := Fr.new h1
        have el1 : upd H l1 (.lst [.str "count"]) l1 = some (.lst ([("count" : Str)].map V.str)) := upd_same
        replace e1 := f1.tp e1
        generalize upd H l1 (.lst [.str "count"]) = H1 at *
        refine rd_lc ?_
        refine rd_itup ?_
        walk_at "go"
        refine rd_T rfl ?_
        refine rd_sl ?_
        walk_at "go"
        refine rd_part ?_
        walk_at "go"
        refine ⟨1, rfl, ?_⟩
        refine rd_np ?_
        refine slA_join e1 fun p2 H2 f2 e2 => ?_
        rw [cut_from (by decide)] at e2
        have el2 := f2.at el1 (by simp)
        have e2' : H2 p2 = some (.tup ([b, s].map V.int)) := e2
        refine ⟨p2, rfl, ⟨_, SqT.of e2'⟩, lc_strs (by simp) (SqT.of e2') (fun H' f => SqT.of (f.tp e2')) (by show 2 ≤ 1000; decide) (fun n hn => by
          simp only [List.mem_cons, List.not_mem_nil, or_false] at hn
          rcases hn with rfl | rfl
          · exact hok.1
          · exact hok.2) fun D H3 eD nD f3 => ?_⟩
        have el3 := f3.at el2 (by simp)
        refine rd_cat el3 eD (by simp; decide) fun q4 hq4 => ?_
        have f13 := (f1.tr f2).tr f3
        have e1' := (f2.tr f3).tp e1
        have f4 := f13.newN (o := .lst ([("count" : Str)].map V.str ++ ([b, s].map n2w).map V.str)) hq4
        have e44 : upd H3 q4 (.lst ([("count" : Str)].map V.str ++ ([b, s].map n2w).map V.str)) q4 = some (.lst ([("count" : Str)].map V.str ++ ([b, s].map n2w).map V.str)) := upd_same
        replace e1' : upd H3 q4 (.lst ([("count" : Str)].map V.str ++ ([b, s].map n2w).map V.str)) mk = _ := upd_keep e1' hq4
        generalize upd H3 q4 (.lst ([("count" : Str)].map V.str ++ ([b, s].map n2w).map V.str)) = H4 at *
        walk_at "go"
        refine ⟨by show 1 ≤ sizeLine; decide, fun l5 h5 => ?_⟩
        have f5 := f4.newN (o := .lst [.str ";"]) h5
        have e45 : upd H4 l5 (.lst [.str ";"]) q4 = _ := upd_keep e44 h5
        have e55 : upd H4 l5 (.lst [.str ";"]) l5 = some (.lst [.str ";"]) := upd_same
        have e15 : upd H4 l5 (.lst [.str ";"]) mk = _ := upd_keep e1' h5
        generalize upd H4 l5 (.lst [.str ";"]) = H5 at *
        walk_at "go"
        refine .inr ⟨false, rfl, ?_⟩
        refine ⟨l5, 0, _, rfl, rfl, e55, by decide, by decide, by show 1 * 0 ≤ sizeLine; decide, fun l6 h6 => ?_⟩
        have f6 := f5.newN (o := .lst (List.replicate (0:Int).toNat [V.str ";"]).flatten) h6
        have e46 : upd H5 l6 (.lst (List.replicate (0:Int).toNat [V.str ";"]).flatten) q4 = _ := upd_keep e45 h6
        refine rd_cat e46 upd_same (by simp; decide) fun q7 hq7 => ?_
        exact hnx _ _ ⟨q7, rfl, by rw [upd_same, hr']; rfl, f6.free (by simp) hq7, f6.newN hq7⟩
    · rintro σ' H1 ⟨l, rfl, el, nl, f1⟩
      walk_at "go"
      walk_at "fo"
      walk_at "go"
      refine ⟨ss, rfl, ⟨_, SqT.of (f1.tp ess)⟩, ?_⟩
      refine for_it (walk_tup (K := K) (a := ss) (xs := as.map V.ref)) (fun i σ H1 => ∃ (l : Addr) (v5 v6 v4 : Option V), σ = [some (.ref p), some (.ref mk), some (.ref ss), some (.ref l), v4, v5, v6] ∧ H1 l = some (.lst ((Ch.of c.root (c.sgs.take i)).ws.map V.str)) ∧ H l = none ∧ Fr [] H H1) ⟨l, none, none, none, rfl, el, nl, f1⟩ (fun i σ H1 _ ⟨_, _, _, _, _, _, _, f⟩ => SqT.of (f.tp ess)) ?_ ?_
      · clear el f1 nl l H1
        rintro i z σ H1 H2 hi ⟨l, v5, v6, v4, rfl, el, nl, f1⟩ ⟨rfl, hz⟩
        rw [List.length_map] at hi
        rw [List.getElem?_map, List.getElem?_eq_getElem hi] at hz
        cases hz
        obtain ⟨g, eg, sg⟩ := hg.2 i as[i] (List.getElem?_eq_getElem hi)
        have hgm : g ∈ c.sgs := List.mem_of_getElem? eg
        have stp : (Ch.of c.root (c.sgs.take (i + 1))).ws = (Ch.of c.root (c.sgs.take i)).ws ++ g.ws := by rw [Ch.of_take c.root eg, Ch.snoc_ws]
        have okt : (Ch.of c.root (c.sgs.take (i + 1))).ok := Ch.of_take_ok cok (i + 1)
        have hlen := Ch.ws_len okt
        have hm1 : (Ch.of c.root (c.sgs.take (i + 1))).nm ≤ c.nm := Ch.of_take_nm c (i + 1)
        have hm2 : (Ch.of c.root (c.sgs.take (i + 1))).ns ≤ c.ns := Ch.of_take_ns c (i + 1)
        rw [stp, List.length_append] at hlen
        have hl500 : (Ch.of c.root (c.sgs.take i)).ws.length + g.ws.length ≤ 500 := by omega
        clear okt
        have sgf := sg.fr f1
        cases g with
        | one kd =>
          have ex : H2 as[i] = some (.tup (V.str kd.name :: kd.nums.map V.int)) := by rw [← kd.vals_eq]; exact sgf
          have hwl : (Sg.one kd).ws.length = kd.nums.length + 1 := by show (kd.name :: kd.nums.map n2w).length = _; rw [List.length_cons, List.length_map]
          clear hm1 hm2
          walk_at "go"
          refine ⟨tyl el, ?_⟩
          walk_at "go"
          refine rd_ixT (SqT.of ex) (atI_nat (xs := V.str kd.name :: kd.nums.map V.int) (j := 0) rfl) ?_
          walk_at "go"
          refine rd_append el (by rw [List.length_map]; exact Nat.lt_of_le_of_lt (show _ ≤ 500 by omega) (by decide)) ?_
          have e3 : upd H2 l (.lst ((Ch.of c.root (c.sgs.take i)).ws.map V.str ++ [V.str kd.name])) l = some (.lst (((Ch.of c.root (c.sgs.take i)).ws ++ [kd.name]).map V.str)) := by rw [upd_same, List.map_append]; rfl
          have fp : Fr [l] H2 (upd H2 l (.lst ((Ch.of c.root (c.sgs.take i)).ws.map V.str ++ [V.str kd.name]))) := Fr.put (by simp) (nt el)
          have f3 := f1.putN (o := .lst ((Ch.of c.root (c.sgs.take i)).ws.map V.str ++ [V.str kd.name])) (.inr nl) (nt el)
          replace ex := fp.tp ex
          generalize upd H2 l (.lst ((Ch.of c.root (c.sgs.take i)).ws.map V.str ++ [V.str kd.name])) = H3 at *
          walk_at "go"
          refine rd_ixT (SqT.of ex) (atI_nat (xs := V.str kd.name :: kd.nums.map V.int) (j := 0) rfl) ?_
          walk_at "go"
          refine ⟨by show 2 ≤ sizeLine; decide, fun q hq => ?_⟩
          have f4 : Fr [] H3 (upd H3 q (.tup [.str "both", .str "then"])) := Fr.new hq
          have e4 : upd H3 q (.tup [.str "both", .str "then"]) q = some (.tup [.str "both", .str "then"]) := upd_same
          replace ex := f4.tp ex
          have el4 := f4.at e3 (by simp)
          generalize upd H3 q (.tup [.str "both", .str "then"]) = H4 at *
          refine ⟨q, _, rfl, .inr (SqT.of e4), rfl, rfl, ?_⟩
          rw [if_neg (by decide), inBT, show (decide (kd.name = "both") || decide (kd.name = "then")) = false by rw [decide_eq_false kd_not.1, decide_eq_false kd_not.2.1]; rfl]
          walk_at "go"
          refine rd_lc ?_
          refine rd_itup ?_
          refine rd_sl ?_
          walk_at "go"
          refine rd_part ?_
          walk_at "go"
          refine ⟨1, rfl, ?_⟩
          refine rd_np ?_
          refine slA_join ex fun p2 H5 f5 e5 => ?_
          rw [cut_from (by decide)] at e5
          have e5 : H5 p2 = some (.tup (kd.nums.map V.int)) := e5
          have el5 := f5.at el4 (by simp)
          have k2 := kd.nums_len
          refine ⟨p2, rfl, ⟨_, SqT.of e5⟩, lc_strs (by simp) (SqT.of e5) (fun H' f => SqT.of (f.tp e5)) (by omega) (Kd.nums_ok (ho.2 _ hgm)) fun D H6 eD nD f6 => ?_⟩
          have el6 := f6.at el5 (by simp)
          refine rd_cat el6 eD ?_ fun q7 hq7 => ?_
          · rw [List.length_map, List.length_map, List.length_map, List.length_append, List.length_singleton]
            exact Nat.le_trans (show _ ≤ 500 by omega) (by decide)
          have f36 := ((f3.tr f4).tr f5).tr f6
          exact ⟨q7, _, _, _, rfl, by rw [upd_same, stp, ← List.map_append, List.append_assoc]; rfl, f36.free (by simp) hq7, f36.newN hq7⟩
        | both o =>
          obtain ⟨pi, ex, hpi⟩ := sgf
          have onm : o.nm + 1 ≤ c.nm := by have := (Ch.of c.root (c.sgs.take i)).nm_pos; have : (Ch.of c.root (c.sgs.take (i + 1))).nm = _ + o.nm := (congrArg Ch.nm (Ch.of_take c.root eg)).trans (Ch.snoc_nm _ _); omega
          have ons : o.ns ≤ c.ns := by have : (Ch.of c.root (c.sgs.take (i + 1))).ns = _ + o.ns + 1 := (congrArg Ch.ns (Ch.of_take c.root eg)).trans (Ch.snoc_ns _ _); omega
          have hwl : (Sg.both o).ws.length = o.words.length + 1 := rfl
          clear hm1 hm2
          walk_at "go"
          refine ⟨tyl el, ?_⟩
          walk_at "go"
          refine rd_append el (by rw [List.length_map]; exact Nat.lt_of_le_of_lt (show _ ≤ 500 by omega) (by decide)) ?_
          have e3 : upd H2 l (.lst ((Ch.of c.root (c.sgs.take i)).ws.map V.str ++ [V.str "both"])) l = some (.lst (((Ch.of c.root (c.sgs.take i)).ws ++ [("both" : Str)]).map V.str)) := by rw [upd_same, List.map_append]; rfl
          have fp : Fr [l] H2 (upd H2 l (.lst ((Ch.of c.root (c.sgs.take i)).ws.map V.str ++ [V.str "both"]))) := Fr.put (by simp) (nt el)
          have f3 := f1.putN (o := .lst ((Ch.of c.root (c.sgs.take i)).ws.map V.str ++ [V.str "both"])) (.inr nl) (nt el)
          replace ex := fp.tp ex
          replace hpi := hpi.fr fp
          generalize upd H2 l (.lst ((Ch.of c.root (c.sgs.take i)).ws.map V.str ++ [V.str "both"])) = H3 at *
          walk_at "go"
          refine ⟨by show 2 ≤ sizeLine; decide, fun q hq => ?_⟩
          have f4 : Fr [] H3 (upd H3 q (.tup [.str "both", .str "then"])) := Fr.new hq
          have e4 : upd H3 q (.tup [.str "both", .str "then"]) q = some (.tup [.str "both", .str "then"]) := upd_same
          replace ex := f4.tp ex
          replace hpi := hpi.fr f4
          have el4 := f4.at e3 (by simp)
          generalize upd H3 q (.tup [.str "both", .str "then"]) = H4 at *
          refine ⟨q, _, rfl, .inr (SqT.of e4), rfl, rfl, ?_⟩
          rw [if_neg (by decide), inBT, show (decide (Str.ofString "both" = "both") || decide (Str.ofString "both" = "then")) = true by decide +kernel]
          walk_at "go"
          refine ⟨pi, o, rfl, hpi, ho.2 _ hgm, by omega, by omega, by omega, fun H5 q5 eq5 nq5 f5 => ?_⟩
          have el5 := f5.at el4 (by simp)
          refine rd_cat el5 eq5 ?_ fun q6 hq6 => ?_
          · rw [List.length_map, List.length_map, List.length_append, List.length_singleton]
            exact Nat.le_trans (show _ ≤ 500 by omega) (by decide)
          have f35 := (f3.tr f4).tr f5
          exact ⟨q6, _, _, _, rfl, by rw [upd_same, stp, ← List.map_append, List.append_assoc]; rfl, f35.free (by simp) hq6, f35.newN hq6⟩
        | thn o =>
          obtain ⟨pi, ex, hpi⟩ := sgf
          have onm : o.nm + 1 ≤ c.nm := by have := (Ch.of c.root (c.sgs.take i)).nm_pos; have : (Ch.of c.root (c.sgs.take (i + 1))).nm = _ + o.nm := (congrArg Ch.nm (Ch.of_take c.root eg)).trans (Ch.snoc_nm _ _); omega
          have ons : o.ns ≤ c.ns := by have : (Ch.of c.root (c.sgs.take (i + 1))).ns = _ + o.ns + 1 := (congrArg Ch.ns (Ch.of_take c.root eg)).trans (Ch.snoc_ns _ _); omega
          have hwl : (Sg.thn o).ws.length = o.words.length + 1 := rfl
          clear hm1 hm2
          walk_at "go"
          refine ⟨tyl el, ?_⟩
          walk_at "go"
          refine rd_append el (by rw [List.length_map]; exact Nat.lt_of_le_of_lt (show _ ≤ 500 by omega) (by decide)) ?_
          have e3 : upd H2 l (.lst ((Ch.of c.root (c.sgs.take i)).ws.map V.str ++ [V.str "then"])) l = some (.lst (((Ch.of c.root (c.sgs.take i)).ws ++ [("then" : Str)]).map V.str)) := by rw [upd_same, List.map_append]; rfl
          have fp : Fr [l] H2 (upd H2 l (.lst ((Ch.of c.root (c.sgs.take i)).ws.map V.str ++ [V.str "then"]))) := Fr.put (by simp) (nt el)
          have f3 := f1.putN (o := .lst ((Ch.of c.root (c.sgs.take i)).ws.map V.str ++ [V.str "then"])) (.inr nl) (nt el)
          replace ex := fp.tp ex
          replace hpi := hpi.fr fp
          generalize upd H2 l (.lst ((Ch.of c.root (c.sgs.take i)).ws.map V.str ++ [V.str "then"])) = H3 at *
          walk_at "go"
          refine ⟨by show 2 ≤ sizeLine; decide, fun q hq => ?_⟩
          have f4 : Fr [] H3 (upd H3 q (.tup [.str "both", .str "then"])) := Fr.new hq
          have e4 : upd H3 q (.tup [.str "both", .str "then"]) q = some (.tup [.str "both", .str "then"]) := upd_same
          replace ex := f4.tp ex
          replace hpi := hpi.fr f4
          have el4 := f4.at e3 (by simp)
          generalize upd H3 q (.tup [.str "both", .str "then"]) = H4 at *
          refine ⟨q, _, rfl, .inr (SqT.of e4), rfl, rfl, ?_⟩
          rw [if_neg (by decide), inBT, show (decide (Str.ofString "then" = "both") || decide (Str.ofString "then" = "then")) = true by decide +kernel]
          walk_at "go"
          refine ⟨pi, o, rfl, hpi, ho.2 _ hgm, by omega, by omega, by omega, fun H5 q5 eq5 nq5 f5 => ?_⟩
          have el5 := f5.at el4 (by simp)
          refine rd_cat el5 eq5 ?_ fun q6 hq6 => ?_
          · rw [List.length_map, List.length_map, List.length_append, List.length_singleton]
            exact Nat.le_trans (show _ ≤ 500 by omega) (by decide)
          have f35 := (f3.tr f4).tr f5
          exact ⟨q6, _, _, _, rfl, by rw [upd_same, stp, ← List.map_append, List.append_assoc]; rfl, f35.free (by simp) hq6, f35.newN hq6⟩
      · clear el f1 nl l H1
        rintro σ H1 ⟨l, v5, v6, v4, rfl, el, nl, f1⟩
        rw [List.length_map, hg.1, List.take_length, Ch.of_sgs] at el
        walk_at "go"
        refine ⟨by show 1 ≤ sizeLine; decide, fun l2 h2 => ?_⟩
        have f2 := f1.newN (o := .lst [.str "."]) h2
        have e12 : upd H1 l2 (.lst [.str "."]) l = _ := upd_keep el h2
        have := Ch.ws_len cok
        refine rd_cat e12 upd_same (by rw [List.length_map]; exact Nat.le_trans (show c.ws.length + 1 ≤ 501 by omega) (by decide)) fun q hq => ?_
        exact k _ q (by rw [upd_same]; show _ = some (HO.lst ((c.ws ++ [(".":Str)]).map V.str)); rw [List.map_append]; rfl) (f2.free (by simp) hq) (f2.newN hq)
end
end Dc

set_option Elab.async false
set_option linter.all false
set_option maxRecDepth 100000
set_option maxHeartbeats 4000000
namespace Dc
open PySem PySem.Spec PyProof.Rows L2
local macro_rules | `(tactic| walk_at "ne") => `(tactic| first | assumption | (refine Ne.symm ?_; assumption) | exact ne_of (by assumption) (by assumption) (by intro q; cases q) | exact ne_of_none (by assumption) (by assumption) | exact Ne.symm (ne_of_none (by assumption) (by assumption)))
local macro_rules | `(tactic| walk_at "hp") => `(tactic| first | assumption | exact upd_same | (refine upd_keep ?_ (by assumption); walk_at "hp") | (refine upd_other ?_ ?_; · walk_at "ne"; · walk_at "hp"))
local macro_rules | `(tactic| walk_at "hl") => `(tactic| first | assumption | exact SqL.of (by walk_at "hp"))
local macro_rules | `(tactic| walk_at "ht") => `(tactic| first | assumption | exact SqT.of (by walk_at "hp"))
local macro_rules | `(tactic| walk_at "rd1") => `(tactic| first
  | ((with_reducible apply rd_var); exact rfl)
  | ((with_reducible apply rd_eq); exact rfl) | ((with_reducible apply rd_ne); exact rfl)
  | with_reducible first
  | refine iteT ?_ | refine iteF ?_ | refine rd_nF ?_ | refine rd_nT ?_ | refine rd_yes ?_ | refine rd_c ?_ | refine rd_op ?_ | refine rd_un ?_ | refine rd_test ?_ | refine rd_B ?_ | refine rd_bl ?_ | refine rd_seq ?_ | refine rd_next ?_ | refine rd_ifs ?_ | refine rd_asg ?_ | refine rd_name ?_ | refine rd_ret ?_ | refine rd_drop ?_
  | refine rd_call ?_ | refine rd_cons ?_ | refine rd_nil ?_ | refine rd_cb ?_ | refine rd_I0 ?_ | refine rd_U ?_ | refine rd_gsub ?_ | refine rd_lst ?_ | refine rd_tup ?_ | refine rd_if ?_ | refine rd_not ?_ | refine rd_rng1 ?_ | refine rd_itup ?_ | refine rd_ilst ?_ | refine rd_bm ?_ | refine rd_bm0 ?_ | refine rd_andV ?_ | refine rd_orV ?_ | refine rd_notV ?_)
local macro_rules | `(tactic| walk_at "rd") => `(tactic| repeat walk_at "rd1")
local macro_rules | `(tactic| walk_at "ci") => `(tactic| first | assumption | (show (0 : Int) < _; first | decide | omega) | exact ⟨by decide, by decide⟩ | exact Or.inr ⟨by decide, by decide⟩ | exact Or.inl ⟨by decide, by decide⟩ | exact ⟨by decide, by decide, by decide⟩ | exact Or.inl ⟨by omega, by omega⟩ | exact Or.inr ⟨by omega, by omega⟩)
local macro_rules | `(tactic| walk_at "ix") => `(tactic| first
  | ((with_reducible apply rd_ixL); (walk_at "hl"); exact rfl)
  | ((with_reducible apply rd_ixT); (walk_at "ht"); exact rfl)
  | ((with_reducible apply rd_lenL); (walk_at "hl"))
  | ((with_reducible apply rd_lenT); (walk_at "ht"))
  | ((with_reducible apply rd_tupOf); (walk_at "hl"))
  | ((with_reducible apply rd_listOf); (walk_at "hl"))
  | (with_reducible refine rd_min2 ?_)
  | ((with_reducible apply rd_I); (walk_at "ci"))
  | ((with_reducible apply rd_setL); (walk_at "hp"); exact rfl))
local macro_rules | `(tactic| walk_at "gs") => `(tactic| repeat first | walk_at "rd1" | walk_at "ix")
local macro_rules | `(tactic| walk_at "go") => `(tactic| repeat first | walk_at "rd1" | walk_at "ix" | with_reducible refine rd_and ?_ | with_reducible refine rd_or ?_)
local macro_rules | `(tactic| walk_at "fo") => `(tactic| (with_reducible refine rd_for ?_))
local macro_rules | `(tactic| walk_at "pm") => `(tactic| repeat first
  | with_reducible first | refine rd_pcons ?_ | refine rd_pstr ?_ | refine rd_pcap ?_ | refine rd_pwild ?_ | refine rd_pnil ?_ | refine rd_por ?_ | refine rd_pno ?_
  | ((with_reducible refine rd_eq rfl ?_); refine ⟨_, rfl, ?_⟩; first | refine rd_T rfl ?_ | refine rd_F (by decide) ?_)
  | dsimp only [List.nil_append, List.singleton_append, List.cons_append, setAll])
local macro_rules | `(tactic| walk_at "pc") => `(tactic| (refine rd_case ?_); (first | (refine rd_phit (SqT.of (by assumption)) rfl ?_) | (refine rd_pmiss (SqT.of (by assumption)) (by simp) ?_)); (walk_at "pm"))

/-! ### texts: slices, signs -/
theorem tl_cut (z : Str) (lo hi : Option Int) : TL.tl (cutS z lo hi) = ((TL.tl z).drop (HT.sIx z.length 0 lo)).take (HT.sIx z.length z.length hi - HT.sIx z.length 0 lo) := rfl
theorem cutS_from (z : Str) (k : Nat) : TL.tl (cutS z (some (k : Int)) none) = (TL.tl z).drop k := by
  rw [tl_cut, HT.sIx_nat, HT.sIx_none, TL.len_tl]
  rcases Nat.le_total k (TL.tl z).length with q | q
  · rw [Nat.min_eq_left q, List.take_of_length_le (by rw [List.length_drop]; omega)]
  · rw [Nat.min_eq_right q, List.drop_length, List.drop_of_length_le q, List.take_nil]
theorem cutS_to (z : Str) (k : Nat) : TL.tl (cutS z none (some (k : Int))) = (TL.tl z).take k := by
  rw [tl_cut, HT.sIx_nat, HT.sIx_none, TL.len_tl, List.drop_zero, Nat.sub_zero]
  rcases Nat.le_total k (TL.tl z).length with q | q
  · rw [Nat.min_eq_left q]
  · rw [Nat.min_eq_right q, List.take_length, List.take_of_length_le q]
theorem cut_minus (z : Str) : cutS z none (some 1) = "-" ↔ (TL.tl z).head? = some 45 := by
  have e : TL.tl (cutS z none (some 1)) = (TL.tl z).take 1 := cutS_to z 1
  constructor
  · intro h
    rw [h, tl_minus] at e
    cases q : TL.tl z with
    | nil => rw [q] at e; cases e
    | cons a r => rw [q] at e; cases e; rfl
  · intro h
    refine TL.ext_tl ?_
    rw [e, tl_minus]
    cases q : TL.tl z with
    | nil => rw [q] at h; cases h
    | cons a r => rw [q] at h; cases h; rfl
theorem cut_unm {z : Str} (h : (TL.tl z).head? = some 45) : TL.tl (cutS z (some 1) none) = unm (TL.tl z) := by
  rw [show cutS z (some 1) none = cutS z (some ((1 : Nat) : Int)) none from rfl, cutS_from]
  cases q : TL.tl z with
  | nil => rw [q] at h; cases h
  | cons a r => rw [q] at h; cases h; rfl
theorem unm_same {l : List Nat} (h : ¬ l.head? = some 45) : unm l = l := by
  rcases unm_cases l with ⟨r, rfl, _⟩ | ⟨e, _⟩
  · exact absurd rfl h
  · exact e
/-- signs that a text may have -/
def OkS (z : Str) : Prop := ∀ c ∈ TL.tl z, c < 0x110000
theorem sign_ok {c : Nat} (h : c < 0x110000) : PyData.strOk ⟨#[c]⟩ = true := by
  unfold PyData.strOk
  simp [h]
def sgn (c : Nat) : Str := ⟨#[c]⟩
theorem signs_lay : ∀ {l : List Nat}, (∀ c ∈ l, c < 0x110000) → PyData.canLayAll0 (l.map fun c => PyData.str (sgn c)) = true
  | [], _ => rfl
  | c :: l, h => by
    show (PyData.canLay0 (.str (sgn c)) && PyData.canLayAll0 (l.map fun c => PyData.str (sgn c))) = true
    rw [signs_lay fun x hx => h x (by simp [hx])]
    show (PyData.strOk (sgn c) && true) = true
    rw [show PyData.strOk (sgn c) = true from sign_ok (h c (by simp))]; rfl
theorem signs_depth : ∀ l : List Nat, PyData.depthAll (l.map fun c => PyData.str (sgn c)) ≤ 1
  | [] => by decide
  | b :: bs => by
    have := signs_depth bs
    simp only [List.map_cons, PyData.depthAll, PyData.depth]
    omega
theorem signs_shaped {l : List Nat} (h : ∀ c ∈ l, c < 0x110000) : SeqAt.shaped (.list (l.map fun c => PyData.str (sgn c))) = true := by
  unfold SeqAt.shaped
  rw [Bool.and_eq_true]
  refine ⟨signs_lay h, decide_eq_true ?_⟩
  have := signs_depth l
  simp only [PyData.depth]
  omega
theorem dp_signs {K : PySem.W.Frag} {H : Hp} : ∀ l : List Nat, DpAll K H (l.map fun c => V.str (sgn c)) (l.map fun c => PyData.str (sgn c))
  | [] => .nil
  | b :: bs => .cons (.str _) (dp_signs bs)
theorem eq_nil {K : PySem.W.Frag} {H : Hp} {a b : Addr} {l : List Nat} {Q : VK} (h1 : H a = some (.lst (l.map fun c => V.str (sgn c)))) (h2 : H b = some (.lst [])) (ok : ∀ c ∈ l, c < 0x110000) (q : Q (.bl (decide (l = []))) H) : rEqD K (.ref a) (.ref b) H Q := by
  refine ⟨_, _, .lst (SqL.of h1) (dp_signs l), .lst (SqL.of h2) .nil, signs_shaped ok, by decide, ?_⟩
  cases l with
  | nil => exact q
  | cons c l => exact q
/-! ### the law's wants -/
def wtN : Wt → Str
  | .mk => "maker"
  | .num => "number"
  | .nums => "numbers"
  | .sts => "stages"
def wantsL (st : List Wt) : List Str := (st.map wtN).reverse
def headN : List Wt → Str
  | [] => "over"
  | t :: _ => wtN t
theorem wants_cons (t : Wt) (st : List Wt) : wantsL (t :: st) = wantsL st ++ [wtN t] := by unfold wantsL; rw [List.map_cons, List.reverse_cons]
theorem wants_app (a st : List Wt) : wantsL (a ++ st) = wantsL st ++ wantsL a := by unfold wantsL; rw [List.map_append, List.reverse_append]
theorem want_at (st : List Wt) : atI ([V.str "over"] ++ (wantsL st).map V.str) (-1) = some (.str (headN st)) := by
  cases st with
  | nil => exact atI_last [] _
  | cons t st => rw [wants_cons, List.map_append, ← List.append_assoc]; exact atI_last _ _
theorem sIx_neg (n : Nat) : HT.sIx n n (some (-1)) = n - 1 := by
  have := HT.clip_eq (-1) n n
  rw [if_pos (by decide)] at this
  omega
theorem wants_cut (st : List Wt) : cutV ((wantsL st).map V.str) none (some (-1)) = (wantsL st.tail).map V.str := by
  unfold cutV
  rw [HT.sIx_none, List.drop_zero, Nat.sub_zero, sIx_neg]
  cases st with
  | nil => rfl
  | cons t st => rw [wants_cons, List.map_append, List.length_append, List.length_map]; simp
def sizesK : List (Key × V) := [(.inr "add", .int 1), (.inr "times", .int 1), (.inr "keep", .int 2), (.inr "drop", .int 1), (.inr "take", .int 1), (.inr "each", .int 1), (.inr "until", .int 1), (.inr "unlike", .int 0)]
theorem sizes_val (z : Str) : valV (mergeK [] sizesK) (.inr z) = (kdSize z).map (fun k : Nat => V.int (k : Int)) := by
  unfold mergeK sizesK
  simp only [List.foldl_cons, List.foldl_nil, valV_put, valV_nil, Sum.inr.injEq]
  unfold kdSize
  by_cases h1 : z = "add"
  · subst h1; decide +kernel
  by_cases h2 : z = "times"
  · subst h2; decide +kernel
  by_cases h3 : z = "keep"
  · subst h3; decide +kernel
  by_cases h4 : z = "drop"
  · subst h4; decide +kernel
  by_cases h5 : z = "take"
  · subst h5; decide +kernel
  by_cases h6 : z = "each"
  · subst h6; decide +kernel
  by_cases h7 : z = "until"
  · subst h7; decide +kernel
  by_cases h8 : z = "unlike"
  · subst h8; decide +kernel
  rw [if_neg h8, if_neg h7, if_neg h6, if_neg h5, if_neg h4, if_neg h3, if_neg h2, if_neg h1, if_neg (by rintro (h | h | h | h | h | h) <;> contradiction), if_neg h3, if_neg h8]
  rfl
def SzT (ws : List Str) : Prop := SzW ws ∧ ∀ x ∈ ws, OkS x
def plV : Option Nat → V
  | none => .non
  | some i => .int (i : Nat)
def spPlace : Sp := fun vs H Q _ => ∃ (p : Addr) (ws : List Str), vs = [.ref p] ∧ H p = some (.lst (ws.map V.str)) ∧ SzT ws ∧ ∀ H', Fr [] H H' → Q (plV (placeW ws)) H'
end Dc

set_option Elab.async false
set_option linter.all false
set_option maxRecDepth 100000
set_option maxHeartbeats 4000000
namespace Dc
open PySem PySem.Spec PyProof.Rows L2
local macro_rules | `(tactic| walk_at "ne") => `(tactic| first | assumption | (refine Ne.symm ?_; assumption) | exact ne_of (by assumption) (by assumption) (by intro q; cases q) | exact ne_of_none (by assumption) (by assumption) | exact Ne.symm (ne_of_none (by assumption) (by assumption)))
local macro_rules | `(tactic| walk_at "hp") => `(tactic| first | assumption | exact upd_same | (refine upd_keep ?_ (by assumption); walk_at "hp") | (refine upd_other ?_ ?_; · walk_at "ne"; · walk_at "hp"))
local macro_rules | `(tactic| walk_at "hl") => `(tactic| first | assumption | exact SqL.of (by walk_at "hp"))
local macro_rules | `(tactic| walk_at "ht") => `(tactic| first | assumption | exact SqT.of (by walk_at "hp"))
local macro_rules | `(tactic| walk_at "rd1") => `(tactic| first
  | ((with_reducible apply rd_var); exact rfl)
  | ((with_reducible apply rd_eq); exact rfl) | ((with_reducible apply rd_ne); exact rfl)
  | with_reducible first
  | refine iteT ?_ | refine iteF ?_ | refine rd_nF ?_ | refine rd_nT ?_ | refine rd_yes ?_ | refine rd_c ?_ | refine rd_op ?_ | refine rd_un ?_ | refine rd_test ?_ | refine rd_B ?_ | refine rd_bl ?_ | refine rd_seq ?_ | refine rd_next ?_ | refine rd_ifs ?_ | refine rd_asg ?_ | refine rd_name ?_ | refine rd_ret ?_ | refine rd_drop ?_
  | refine rd_call ?_ | refine rd_cons ?_ | refine rd_nil ?_ | refine rd_cb ?_ | refine rd_I0 ?_ | refine rd_U ?_ | refine rd_gsub ?_ | refine rd_lst ?_ | refine rd_tup ?_ | refine rd_if ?_ | refine rd_not ?_ | refine rd_rng1 ?_ | refine rd_itup ?_ | refine rd_ilst ?_ | refine rd_bm ?_ | refine rd_bm0 ?_ | refine rd_andV ?_ | refine rd_orV ?_ | refine rd_notV ?_)
local macro_rules | `(tactic| walk_at "rd") => `(tactic| repeat walk_at "rd1")
local macro_rules | `(tactic| walk_at "ci") => `(tactic| first | assumption | (show (0 : Int) < _; first | decide | omega) | exact ⟨by decide, by decide⟩ | exact Or.inr ⟨by decide, by decide⟩ | exact Or.inl ⟨by decide, by decide⟩ | exact ⟨by decide, by decide, by decide⟩ | exact Or.inl ⟨by omega, by omega⟩ | exact Or.inr ⟨by omega, by omega⟩)
local macro_rules | `(tactic| walk_at "ix") => `(tactic| first
  | ((with_reducible apply rd_ixL); (walk_at "hl"); exact rfl)
  | ((with_reducible apply rd_ixT); (walk_at "ht"); exact rfl)
  | ((with_reducible apply rd_lenL); (walk_at "hl"))
  | ((with_reducible apply rd_lenT); (walk_at "ht"))
  | ((with_reducible apply rd_tupOf); (walk_at "hl"))
  | ((with_reducible apply rd_listOf); (walk_at "hl"))
  | (with_reducible refine rd_min2 ?_)
  | ((with_reducible apply rd_I); (walk_at "ci"))
  | ((with_reducible apply rd_setL); (walk_at "hp"); exact rfl))
local macro_rules | `(tactic| walk_at "gs") => `(tactic| repeat first | walk_at "rd1" | walk_at "ix")
local macro_rules | `(tactic| walk_at "go") => `(tactic| repeat first | walk_at "rd1" | walk_at "ix" | with_reducible refine rd_and ?_ | with_reducible refine rd_or ?_)
local macro_rules | `(tactic| walk_at "fo") => `(tactic| (with_reducible refine rd_for ?_))
local macro_rules | `(tactic| walk_at "pm") => `(tactic| repeat first
  | with_reducible first | refine rd_pcons ?_ | refine rd_pstr ?_ | refine rd_pcap ?_ | refine rd_pwild ?_ | refine rd_pnil ?_ | refine rd_por ?_ | refine rd_pno ?_
  | ((with_reducible refine rd_eq rfl ?_); refine ⟨_, rfl, ?_⟩; first | refine rd_T rfl ?_ | refine rd_F (by decide) ?_)
  | dsimp only [List.nil_append, List.singleton_append, List.cons_append, setAll])
local macro_rules | `(tactic| walk_at "pc") => `(tactic| (refine rd_case ?_); (first | (refine rd_phit (SqT.of (by assumption)) rfl ?_) | (refine rd_pmiss (SqT.of (by assumption)) (by simp) ?_)); (walk_at "pm"))

theorem rd_slS {z : Str} {lo hi : Option Int} {H : Hp} {Q : VK} (h : z.length ≤ 1000000) (q : Q (.str (cutS z lo hi)) H) : rSlS (.str z) lo hi H Q := ⟨z, rfl, Nat.le_trans h (by decide), q⟩
theorem good_num {w : Str} : numW w = (digB (unm (TL.tl w)) && (decide (w = "0") || decide ((unm (TL.tl w)).head? ≠ some 48))) := by
  show numB' (TL.tl w) = _
  unfold numB'
  rw [show decide (TL.tl w = [48]) = decide (w = "0") from decide_eq_decide.mpr eq_zero.symm]
theorem strs_lay : ∀ {l : List Str}, (∀ c ∈ l, PyData.strOk c = true) → PyData.canLayAll0 (l.map PyData.str) = true
  | [], _ => rfl
  | c :: l, h => by
    show (PyData.canLay0 (.str c) && PyData.canLayAll0 (l.map PyData.str)) = true
    rw [strs_lay fun x hx => h x (by simp [hx])]
    show (PyData.strOk c && true) = true
    rw [h c (by simp)]; rfl
theorem strs_depth : ∀ l : List Str, PyData.depthAll (l.map PyData.str) ≤ 1
  | [] => by decide
  | b :: bs => by
    have := strs_depth bs
    simp only [List.map_cons, PyData.depthAll, PyData.depth]
    omega
theorem strs_shaped {l : List Str} (h : ∀ c ∈ l, PyData.strOk c = true) : SeqAt.shaped (.list (l.map PyData.str)) = true := by
  unfold SeqAt.shaped
  rw [Bool.and_eq_true]
  refine ⟨strs_lay h, decide_eq_true ?_⟩
  have := strs_depth l
  simp only [PyData.depth]
  omega
theorem dp_strs {K : PySem.W.Frag} {H : Hp} : ∀ l : List Str, DpAll K H (l.map V.str) (l.map PyData.str)
  | [] => .nil
  | b :: bs => .cons (.str _) (dp_strs bs)
theorem wt_ok (t : Wt) : PyData.strOk (wtN t) = true := by cases t <;> decide +kernel
theorem eq_wants {K : PySem.W.Frag} {H : Hp} {a b : Addr} {st : List Wt} {Q : VK} (h1 : H a = some (.lst ((wantsL st).map V.str))) (h2 : H b = some (.lst [])) (q : Q (.bl (decide (st = []))) H) : rEqD K (.ref a) (.ref b) H Q := by
  refine ⟨_, _, .lst (SqL.of h1) (dp_strs _), .lst (SqL.of h2) .nil, strs_shaped fun c hc => ?_, by decide, ?_⟩
  · unfold wantsL at hc
    rw [List.mem_reverse, List.mem_map] at hc
    obtain ⟨t, _, rfl⟩ := hc
    exact wt_ok t
  · cases st with
    | nil => exact q
    | cons t st =>
      rw [decide_eq_false (by simp)] at q
      cases e : wantsL (t :: st) with
      | nil => rw [wants_cons] at e; exact absurd e (by simp)
      | cons x xs => exact q
structure PlI (H : Hp) (p d l : Addr) (ws L : List Str) (H' : Hp) : Prop where
  fr : Fr [] H H'
  ep : H' p = some (.lst (ws.map V.str))
  ed : H' d = some (.dK (mergeK [] sizesK))
  el : H' l = some (.lst (L.map V.str))
theorem PlI.new {H : Hp} {p d l : Addr} {ws L : List Str} {H' : Hp} (h : PlI H p d l ws L H') {q : Addr} {o : HO} (hq : H' q = none) : PlI H p d l ws L (upd H' q o) := ⟨h.fr.newN hq, upd_keep h.ep hq, upd_keep h.ed hq, upd_keep h.el hq⟩
theorem PlI.chg {H : Hp} {p d l l2 : Addr} {ws L L2 : List Str} {H' : Hp} (h : PlI H p d l ws L H') (e : H' l2 = some (.lst (L2.map V.str))) : PlI H p d l2 ws L2 H' := ⟨h.fr, h.ep, h.ed, e⟩
def PlIv (H : Hp) (p d : Addr) (ws : List Str) (i : Nat) (σ : List (Option V)) (H' : Hp) : Prop := ∃ (l : Addr) (st : List Wt) (v3 v4 v5 v6 v7 v8 : Option V), σ = [some (.ref p), some (.ref l), some (.ref d), v3, v4, v5, v6, v7, v8] ∧ placeW ws = (badW st (ws.drop i)).map (· + i) ∧ i ≤ ws.length ∧ st.length ≤ 3 * i + 1 ∧ PlI H p d l ws (wantsL st) H'
theorem inV2 (t a b : Str) : inV (.str t) [.str a, .str b] = (decide (t = a) || decide (t = b)) := by
  have e : ∀ x : Str, eqV (.str x) (.str t) = decide (t = x) := fun x => by
    show (x == t) = _
    rw [Bool.eq_iff_iff, beq_iff_eq, decide_eq_true_iff]
    exact eq_comm
  simp only [inV, List.any_cons, List.any_nil, Bool.or_false, e]
theorem rd_in2 {K : PySem.W.Frag} {z a b : Str} {q : Addr} {H : Hp} {Q : VK} (h : H q = some (.tup [.str a, .str b])) (k : Q (.bl (decide (z = a) || decide (z = b))) H) : rIn K false (.str z) (.ref q) H Q := by
  refine ⟨q, _, rfl, .inr (SqT.of h), rfl, rfl, ?_⟩
  rw [if_neg (by decide), inV2]
  exact k
theorem rd_rep1 {l : Addr} {k : Nat} {xs : List V} {H : Hp} {Q : VK} (h : H l = some (.lst xs)) (hk : xs.length * k ≤ 1000000) (hk2 : k ≤ 1000) (q : ∀ p, H p = none → Q (.ref p) (upd H p (.lst (List.replicate k xs).flatten))) : rRep (.ref l) (.int (k : Nat)) H Q :=
  ⟨l, _, xs, rfl, rfl, h, by omega, by omega, Nat.le_trans hk (by decide), fun p hp => q p hp⟩
theorem PlI.cat {H0 : Hp} {p d l b : Addr} {ws L : List Str} {H : Hp} (I : PlI H0 p d l ws L H) {xs : List V} {more : List Wt} {st : List Wt} (e : H b = some (.lst xs)) (ex : xs = (wantsL more).map V.str) (eL : L = wantsL st) (hs : st.length ≤ 3000001) (hm : more.length ≤ 10) {Q : VK}
    (q : ∀ q H', PlI H0 p d q ws (wantsL (more ++ st)) H' → Q (.ref q) H') : rCat (.ref l) (.ref b) H Q := by
  subst ex eL
  refine rd_cat I.el e (by rw [List.length_map, List.length_map]; unfold wantsL; rw [List.length_reverse, List.length_map, List.length_reverse, List.length_map]; exact Nat.le_trans (show st.length + more.length ≤ 3000011 by omega) (by decide)) fun r hr => q r _ ((I.new hr).chg ?_)
  rw [upd_same, wants_app, List.map_append]
theorem kdSize_le {z : Str} {n : Nat} (h : kdSize z = some n) : n ≤ 2 := by
  unfold kdSize at h
  repeat' split at h
  all_goals first | (cases h; decide) | cases h
theorem rep_num (n : Nat) : (List.replicate n [V.str "number"]).flatten = List.replicate n (.str "number") := by
  induction n with
  | zero => rfl
  | succ n ih => rw [List.replicate_succ, List.flatten_cons, ih]; rfl
theorem wants_rep (n : Nat) : wantsL (List.replicate n .num ++ [.sts]) = ("stages" : Str) :: List.replicate n ("number" : Str) := by
  unfold wantsL
  simp [wtN]
section
variable {P : Program} {w : World} {K : PySem.W.Frag} {mg : Str → Option Value} {base : Heap} {f : Addr} {fd : FuncData}
theorem sc__law_place : FnScope ["_law_words_here", "_law_wants", "_law_sizes", "_law_at", "_law_want", "_law_word", "_law_size", "_law_good", "_law_sign"] ["_law_words_here"] (defScope s__law_place) := ⟨rfl, rfl, rfl, by decide +kernel, rfl, by decide +kernel, by decide +kernel⟩
theorem ok_law_place (T : Txt K mg) (F : FnP K "_law_place" "_law_place" s__law_place f fd) : FnOk P w K mg base CX0 1 f fd ["_law_words_here"] spPlace := by
  refine ok0 F sc__law_place (fun vs H Q E h => ?_) (fun cdv A outer s H vs Q E hr h => ?_)
  · obtain ⟨p, ws, rfl, _⟩ := h
    rfl
  · obtain ⟨p, ws, rfl, ep, ⟨sz, oks⟩, k⟩ := h
    have hu64 := hr.units
    have hu := hr.units
    have hu : (cxOf CX0 P w K mg base ["_law_words_here", "_law_wants", "_law_sizes", "_law_at", "_law_want", "_law_word", "_law_size", "_law_good", "_law_sign"] "_law_place" (defScope s__law_place) f cdv A outer s H E).A.units + 1 < cLine := by have := hr.un; show (A.deeper _).units + 1 < cLine; omega
    refine ⟨_, (pss_cons (ps_set (i := 1) sc__law_place.nd rfl (Or.inl rfl) (pe_lst (pa_cons pe_str pa_nil)))
  (pss_cons (ps_set (i := 2) sc__law_place.nd rfl (Or.inl rfl) (pe_disp (pps_cons pe_str pe_int (pps_cons pe_str pe_int (pps_cons pe_str pe_int (pps_cons pe_str pe_int (pps_cons pe_str pe_int (pps_cons pe_str pe_int (pps_cons pe_str pe_int (pps_cons pe_str pe_int pps_nil)))))))) rfl rfl (by intro q; cases q) (by decide)))
  (pss_cons (ps_for PassesOwn.never rfl (pi_range1 (by rfl) T.free_range (pa_cons (pe_callB (call_len1K K) (by rfl) T.free_len (by decide +kernel) (pa_cons (pv 0) pa_nil)) pa_nil)) (pg_name (i := 3) sc__law_place.nd rfl (Or.inl rfl))
    (pss_cons (ps_set (i := 4) sc__law_place.nd rfl (Or.inl rfl) (pe_ix (ix_listK K) (pe_op op_cat (pe_lst (pa_cons pe_str pa_nil)) (pv 1)) (pe_un un_neg pe_int) (fun _ _ => rfl)))
    (pss_cons (ps_set (i := 1) sc__law_place.nd rfl (Or.inl rfl) (pe_slice sl_list (pv 1) po_none (po_some (pe_un un_neg pe_int))))
    (pss_cons (ps_set (i := 5) sc__law_place.nd rfl (Or.inl rfl) (pe_ix (ix_listK K) (pv 0) (pv 3) (fun _ _ => rfl)))
    (Evl.pss_cut (ps_set (i := 6) sc__law_place.nd rfl (Or.inl rfl) (pe_ifExp (pt_cmpR op_eq (pe_slice sl_str (pv 5) po_none (po_some pe_int)) pe_str (nomark _)) (pe_slice sl_str (pv 5) (po_some pe_int) po_none) (pv 5)))
    (Evl.pss_cut (ps_set (i := 7) sc__law_place.nd rfl (Or.inl rfl) (pe_and (pe_chain op_le op_le pe_int (pe_callB call_len_str (by rfl) T.free_len (by decide +kernel) (pa_cons (pv 6) pa_nil)) pe_int) (pe_one (pe_cmpR (op_eqDK K hu64) (pe_lc (own := [("_law_sign", 8)]) (g := gName 8) rfl sc__law_place.nd (pi_str (pv 6)) (blkOk_by (N := ["_law_words_here", "_law_wants", "_law_sizes", "_law_at", "_law_want", "_law_word", "_law_size", "_law_good", "_law_sign"]) (sc := defScope s__law_place) (by decide +kernel)) (fun _ _ _ _ _ => pg_name (i := 8) sc__law_place.nd rfl (Or.inl rfl)) (fun _ _ _ _ _ => pts_one (pt_cmpR op_notIn_sign (pv 8) pe_str (by rfl))) (fun _ _ _ _ _ => (pv 8))) (pe_lst pa_nil) (nomark _)))))
    (Evl.pss_cut (ps_set (i := 7) sc__law_place.nd rfl (Or.inl rfl) (pe_and (pv 7) (pe_one (pe_or (pe_cmpR op_eq (pv 5) pe_str (nomark _)) (pe_one (pe_cmpR op_ne (pe_ix ix_str (pv 6) pe_int (fun _ _ => rfl)) pe_str (nomark _)))))))
    (pss_one (ps_if (PW.pt (pw_and (pt_cmpR op_eq (pv 4) pe_str (nomark _)) (pw_and1 (pt_cmpR (op_in_seqK K) (pv 5) (pe_tup (pa_cons pe_str (pa_cons pe_str pa_nil))) (by rfl)))))
      (pss_one (ps_set (i := 1) sc__law_place.nd rfl (Or.inl rfl) (pe_op op_cat (pv 1) (pe_ifExp (pt_cmpR op_eq (pv 5) pe_str (nomark _)) (pe_lst (pa_cons pe_str (pa_cons pe_str (pa_cons pe_str pa_nil)))) (pe_lst (pa_cons pe_str (pa_cons pe_str pa_nil)))))))
      (pss_one (ps_if (PW.pt (pw_and (pt_cmpR op_eq (pv 4) pe_str (nomark _)) (pw_and1 (PW.pt (pw_or (pt_val (pv 7)) (pw_or1 (pt_cmpR op_eq (pv 5) pe_str (nomark _))))))))
        (pss_one (ps_set (i := 1) sc__law_place.nd rfl (Or.inl rfl) (pe_op op_cat (pv 1) (pe_op op_rep (pe_lst (pa_cons pe_str pa_nil)) (pe_callTy call_int1 (by rfl) T.free_int (by decide +kernel) (pa_cons (pv 7) pa_nil))))))
        (pss_one (ps_if (PW.pt (pw_and (pt_cmpR op_eq (pv 4) pe_str (nomark _)) (pw_and1 (pt_cmpR (op_in_seqK K) (pv 5) (pe_tup (pa_cons pe_str (pa_cons pe_str pa_nil))) (by rfl)))))
          (pss_one (ps_set (i := 1) sc__law_place.nd rfl (Or.inl rfl) (pe_op op_cat (pv 1) (pe_lst (pa_cons pe_str (pa_cons pe_str pa_nil))))))
          (pss_one (ps_if (PW.pt (pw_and (pt_cmpR op_eq (pv 4) pe_str (nomark _)) (pw_and1 (PW.pt (pw_or (pt_cmpR op_eq (pv 5) pe_str (nomark _)) (pw_or1 (pt_cmp (pc_din hu (pv 5) (pv 2)) (by rfl))))))))
            (pss_one (ps_set (i := 1) sc__law_place.nd rfl (Or.inl rfl) (pe_op op_cat (pv 1) (pe_op op_rep (pe_op op_cat (pe_lst (pa_cons pe_str pa_nil)) (pe_op op_rep (pe_lst (pa_cons pe_str pa_nil)) (pe_dget2 hu (pv 2) (pv 5) pe_int ⟨rfl, rfl, rfl, rfl⟩))) (pe_callTy call_int1 (by rfl) T.free_int (by decide +kernel) (pa_cons (pe_cmpR op_ne (pv 5) pe_str (nomark _)) pa_nil))))))
            (pss_one (ps_if (PW.pt (pw_or (pt_cmpR op_ne (pv 4) pe_str (nomark _)) (pw_or1 (pt_not (pt_val (pv 7))))))
              (pss_one (ps_ret (pv 3))) pss_nil)))))))))))))))))
  (pss_one (ps_ret (pe_ifExp (pt_cmpR (op_eqDK K hu64) (pv 1) (pe_lst pa_nil) (nomark _)) pe_non (pe_callB (call_len1K K) (by rfl) T.free_len (by decide +kernel) (pa_cons (pv 0) pa_nil)))))))), ?_⟩
    try dsimp only [cxOf, Cx.nox, Cx.wish]
    refine rd_at (σ' := [some (.ref p), none, none, none, none, none, none, none, none]) rfl ?_
    walk_at "go"
    refine ⟨by show 1 ≤ sizeLine; decide, fun l hl => ?_⟩
    have f1 : Fr [] H (upd H l (.lst [.str "maker"])) := Fr.new hl
    have el : upd H l (.lst [.str "maker"]) l = some (.lst ((wantsL [.mk]).map V.str)) := upd_same
    have ep1 := f1.at ep (by simp)
    generalize upd H l (.lst [.str "maker"]) = H1 at *
    walk_at "go"
    intro d hd
    have f2 := f1.newN (o := .dK []) hd
    have ep2 : upd H1 d (.dK []) p = _ := upd_keep ep1 hd
    have el2 : upd H1 d (.dK []) l = _ := upd_keep el hd
    refine ⟨upd_same, sizesK, rfl, by decide, ?_⟩
    have ed : upd (upd H1 d (.dK [])) d (.dK (mergeK [] sizesK)) d = some (.dK (mergeK [] sizesK)) := upd_same
    have nd1 : d ≠ p := fun z => by rw [z, ep1] at hd; cases hd
    have nd2 : d ≠ l := fun z => by rw [z, el] at hd; cases hd
    have f3 : Fr [] H (upd (upd H1 d (.dK [])) d (.dK (mergeK [] sizesK))) := f2.putN (.inr (f1.free (by simp) hd)) (nt upd_same)
    have ep3 : upd (upd H1 d (.dK [])) d (.dK (mergeK [] sizesK)) p = _ := upd_other nd1.symm ep2
    have el3 : upd (upd H1 d (.dK [])) d (.dK (mergeK [] sizesK)) l = _ := upd_other nd2.symm el2
    clear el el2 ep1 ep2 f1 f2 hd nd1 nd2 hl
    generalize upd (upd H1 d (.dK [])) d (.dK (mergeK [] sizesK)) = H3 at *
    clear H1
    walk_at "go"
    walk_at "fo"
    walk_at "go"
    rw [List.length_map]
    refine ⟨_, rfl, by omega, by have := sz.1; omega, ?_⟩
    rw [Int.toNat_natCast]
    refine for_it (walk_range (lo := 0) (n := ws.length)) (PlIv H p d ws)
      ⟨l, [.mk], _, _, _, _, _, _, rfl, by unfold placeW; rw [List.drop_zero]; cases badW [.mk] ws <;> rfl, Nat.zero_le _, by decide, f3, ep3, ed, el3⟩ (fun i σ H1 _ _ => trivial) ?_ ?_
    · clear ep3 el3 ed f3 H3 l
      rintro i y σ H1 H2 hi ⟨l, st, v3, v4, v5, v6, v7, v8, rfl, pl, hi2, sl, f1, ep, ed, el⟩ ⟨rfl, rfl⟩
      have e0 : (0 : Int) + (i : Nat) = (i : Nat) := by omega
      dsimp only
      rw [e0]
      have hwd := wd_drop hi
      have hws : ws[i]? = some (wdAt ws i) := by unfold wdAt; rw [List.getD_eq_getElem?_getD, List.getElem?_eq_getElem hi]; rfl
      have zw : (wdAt ws i).length ≤ 1000000 := sz.at i
      have zok : OkS (wdAt ws i) := oks _ (List.mem_of_getElem? hws)
      walk_at "go"
      refine ⟨by show 1 ≤ sizeLine; decide, fun l1 h1 => ?_⟩
      have g1 : Fr [] H2 (upd H2 l1 (.lst [.str "over"])) := Fr.new h1
      have e1 : upd H2 l1 (.lst [.str "over"]) l1 = some (.lst [.str "over"]) := upd_same
      have el1 := g1.at el (by simp)
      generalize upd H2 l1 (.lst [.str "over"]) = H3 at *
      walk_at "go"
      refine rd_cat e1 el1 (by rw [List.length_map, List.length_singleton]; unfold wantsL; rw [List.length_reverse, List.length_map]; exact Nat.le_trans (show 1 + st.length ≤ 4000000 by have := sz.1; omega) (by decide)) fun l2 h2 => ?_
      have g2 := g1.newN (o := .lst ([.str "over"] ++ (wantsL st).map V.str)) h2
      have e2 : upd H3 l2 (.lst ([.str "over"] ++ (wantsL st).map V.str)) l2 = some (.lst ([.str "over"] ++ (wantsL st).map V.str)) := upd_same
      have el2 : upd H3 l2 (.lst ([.str "over"] ++ (wantsL st).map V.str)) l = _ := upd_keep el1 h2
      generalize upd H3 l2 (.lst ([.str "over"] ++ (wantsL st).map V.str)) = H4 at *
      walk_at "go"
      refine rd_ixL (SqL.of e2) (want_at st) ?_
      walk_at "go"
      refine rd_sl ?_
      walk_at "go"
      refine rd_np ?_
      refine rd_part ?_
      walk_at "go"
      refine ⟨-1, rfl, ?_⟩
      refine ⟨l, _, rfl, SqL.of el2, fun l3 h3 => ?_⟩
      rw [wants_cut]
      have g3 := g2.newN (o := .lst ((wantsL st.tail).map V.str)) h3
      have e3 : upd H4 l3 (.lst ((wantsL st.tail).map V.str)) l3 = some (.lst ((wantsL st.tail).map V.str)) := upd_same
      have ep3 := g3.at ep (by simp)
      have ed3 := g3.at ed (by simp)
      have f3 := f1.tr g3
      clear g1 g2 g3 e1 e2 el el1 el2 h1 h2 h3 ep ed f1
      generalize upd H4 l3 (.lst ((wantsL st.tail).map V.str)) = H5 at *
      clear H4 H3 H2
      walk_at "go"
      refine rd_ixL (SqL.of ep3) (atI_nat (v := .str (wdAt ws i)) (by rw [List.getElem?_map, hws]; rfl)) ?_
      walk_at "go"
      generalize wdAt ws i = z at *
      refine ⟨fun σ' H' => ∃ y : Str, σ' = [some (.ref p), some (.ref l3), some (.ref d), some (.int i), some (.str (headN st)), some (.str z), some (.str y), v7, v8] ∧ TL.tl y = unm (TL.tl z) ∧ y.length ≤ z.length ∧ H' = H5, ?_, ?_⟩
      · refine rd_asg ?_
        refine rd_if ?_
        walk_at "go"
        refine rd_sl ?_
        walk_at "go"
        refine rd_np ?_
        refine rd_part ?_
        walk_at "go"
        refine ⟨1, rfl, rd_slS zw ?_⟩
        walk_at "go"
        refine rd_dec (fun c => ?_) (fun c => ?_)
        · have c := (cut_minus z).mp (V.str.inj c)
          refine rd_sl ?_
          walk_at "go"
          refine rd_part ?_
          walk_at "go"
          refine ⟨1, rfl, ?_⟩
          refine rd_np ?_
          refine rd_slS zw ?_
          exact ⟨_, rfl, cut_unm c, cutS_length _ _ _, rfl⟩
        · walk_at "go"
          exact ⟨z, rfl, (unm_same fun q => c (by rw [(cut_minus z).mpr q])).symm, Nat.le_refl _, rfl⟩
      rintro σ' H5 ⟨y, rfl, ty, ly, rfl⟩
      have sy : y.length ≤ sizeLine := Nat.le_trans (Nat.le_trans ly zw) (by decide)
      have yok : ∀ c ∈ TL.tl y, c < 0x110000 := fun c hc => by
        rw [ty] at hc
        rcases unm_cases (TL.tl z) with ⟨r, e, e1, _⟩ | ⟨e1, _⟩
        · rw [e1] at hc; exact zok c (by rw [e]; simp [hc])
        · rw [e1] at hc; exact zok c hc
      have yc : y.cps.toList = TL.tl y := rfl
      have yn : y.cps.size = (TL.tl y).length := (Array.length_toList).symm
      have ylen : y.length = (TL.tl y).length := TL.len_tl y
      refine ⟨fun σ' H' => ∃ v8, σ' = [some (.ref p), some (.ref l3), some (.ref d), some (.int i), some (.str (headN st)), some (.str z), some (.str y), some (.bl (digB (TL.tl y))), v8] ∧ Fr [] H5 H', ?_, ?_⟩
      · refine rd_asg ?_
        walk_at "go"
        refine rd_chain ?_
        walk_at "go"
        refine ⟨y, rfl, sy, ?_⟩
        walk_at "go"
        have nolen : ¬ (1 ≤ (TL.tl y).length ∧ (TL.tl y).length ≤ 30) → digB (TL.tl y) = false := fun h => Bool.eq_false_iff.mpr fun q => h ⟨(digB_iff.mp q).1, (digB_iff.mp q).2.1⟩
        refine rd_dec (fun c1 => ?_) (fun c1 => ?_)
        rotate_left
        · walk_at "go"
          exact ⟨_, by rw [nolen (by omega)]; rfl, Fr.refl _ _⟩
        walk_at "go"
        refine rd_dec (fun c2 => ?_) (fun c2 => ?_)
        rotate_left
        · exact ⟨_, by rw [nolen (by omega)]; rfl, Fr.refl _ _⟩
        walk_at "go"
        refine ⟨_, rfl, y, rfl, fun D hD => ?_⟩
        refine lc_it (walk_str (z := y)) (fun j H1 => H1 D = some (.lst (((((TL.tl y).take j).filter fun c => !figB c)).map fun c => V.str (sgn c))) ∧ Fr [] H5 H1) ⟨upd_same, Fr.new hD⟩ (fun j H1 _ _ => trivial) ?_ ?_
        · rintro j x H1 H2 hj ⟨e1, f1⟩ ⟨rfl, c, hc, rfl⟩
          rw [← Array.getElem?_toList] at hc
          have hc : (TL.tl y)[j]? = some c := hc
          walk_at "go"
          refine ⟨rfl, ?_⟩
          walk_at "go"
          refine ⟨c, "0123456789", rfl, rfl, ?_⟩
          refine ⟨_, rfl, ?_⟩
          rw [fig_in]
          have tk : (TL.tl y).take (j + 1) = (TL.tl y).take j ++ [c] := by rw [List.take_succ, hc]; rfl
          cases hb : figB c with
          | true =>
            refine iteF ?_
            exact ⟨by rw [tk, List.filter_append]; simp only [List.filter_cons, hb, Bool.not_true, Bool.false_eq_true, if_false, List.filter_nil, List.append_nil]; exact e1, f1⟩
          | false =>
            refine iteT ?_
            walk_at "go"
            refine ⟨_, e1, by rw [List.length_map]; exact Nat.lt_of_le_of_lt (Nat.le_trans (List.length_filter_le _ _) (show ((TL.tl y).take j).length ≤ 1000000 by rw [List.length_take]; omega)) (by decide), ?_, f1.trans (Fr.put (S := [D]) (by simp) (nt e1)) fun b hb => ?_⟩
            · rw [upd_same, tk, List.filter_append]
              simp only [List.filter_cons, hb, Bool.not_false, if_true, List.filter_nil, List.map_append]
              rfl
            · rw [List.mem_singleton] at hb
              rw [hb]; exact .inr hD
        · rintro H1 ⟨e1, f1⟩
          rw [yn, List.take_length] at e1
          walk_at "go"
          refine ⟨Nat.zero_le _, fun q hq => ?_⟩
          refine eq_nil (upd_keep e1 hq) upd_same (fun c hc => yok c ((List.mem_filter.mp hc).1)) ?_
          refine ⟨v8, ?_, f1.newN hq⟩
          have : decide (((TL.tl y).filter fun c => !figB c) = []) = digB (TL.tl y) := by
            rw [Bool.eq_iff_iff, decide_eq_true_iff, digB_iff, List.filter_eq_nil_iff]
            constructor
            · intro h
              refine ⟨by omega, by omega, fun c hc => ?_⟩
              have q := h c hc
              have q : figB c = true := by simpa using q
              unfold figB at q
              rw [Bool.and_eq_true, decide_eq_true_iff, decide_eq_true_iff] at q
              exact q
            · rintro ⟨_, _, h⟩ c hc
              have q := h c hc
              unfold figB
              simp only [decide_eq_true q.1, decide_eq_true q.2, Bool.and_self, Bool.not_true, Bool.false_eq_true, not_false_eq_true]
          rw [this]; rfl
      rintro σ' H6 ⟨v8', rfl, f6⟩
      refine ⟨fun σ' H' => σ' = [some (.ref p), some (.ref l3), some (.ref d), some (.int i), some (.str (headN st)), some (.str z), some (.str y), some (.bl (numW z)), v8'] ∧ H' = H6, ?_, ?_⟩
      · refine rd_asg ?_
        walk_at "go"
        have gn : numW z = (digB (TL.tl y) && (decide (z = "0") || decide ((TL.tl y).head? ≠ some 48))) := by rw [good_num, ty]
        cases hb : digB (TL.tl y) with
        | false =>
          refine iteF ?_
          exact ⟨by rw [gn, hb, Bool.false_and]; rfl, rfl⟩
        | true =>
          rw [hb, Bool.true_and] at gn
          refine iteT ?_
          walk_at "go"
          refine rd_dec (fun c => ?_) (fun c => ?_)
          · walk_at "go"
            have c : z = "0" := V.str.inj c
            exact ⟨by rw [gn, decide_eq_true c, Bool.true_or]; rfl, rfl⟩
          · have c : ¬ z = "0" := fun q => c (by rw [q])
            obtain ⟨a, r, e⟩ : ∃ a r, TL.tl y = a :: r := by
              cases q : TL.tl y with
              | nil => rw [q] at hb; exact absurd hb (by decide)
              | cons a r => exact ⟨a, r, rfl⟩
            walk_at "go"
            refine ⟨y, 0, a, rfl, rfl, sy, by show atI (TL.tl y) 0 = some a; rw [e]; exact atI_nat (xs := a :: r) (j := 0) rfl, ?_⟩
            walk_at "go"
            refine ⟨?_, rfl⟩
            rw [gn, decide_eq_false c, Bool.false_or, e]
            have : (!decide (V.str ⟨#[a]⟩ = V.str "0")) = decide ((a :: r).head? ≠ some 48) := by
              by_cases q : a = 48
              · subst q
                rw [decide_eq_true (show V.str ⟨#[48]⟩ = V.str "0" from congrArg V.str (TL.ext_tl tl_zero.symm))]
                simp
              · have q1 : ¬ V.str ⟨#[a]⟩ = V.str "0" := fun x => q (by
                  have x := congrArg TL.tl (V.str.inj x)
                  rw [tl_zero] at x
                  exact (List.cons.inj x).1)
                rw [decide_eq_false q1]
                simp [q]
            rw [this]; rfl
      rintro σ' H6 ⟨rfl, rfl⟩
      have e3 := f6.at e3 (by simp)
      have ep3 := f6.at ep3 (by simp)
      have ed3 := f6.at ed3 (by simp)
      have f3 := f3.tr f6
      have I : PlI H p d l3 ws (wantsL st.tail) H6 := ⟨f3, ep3, ed3, e3⟩
      clear yc yn ylen yok sy ly ty f6 hws zw e3 ep3 ed3 f3
      cases st with
      | nil =>
        dsimp only [headN]
        have pl : placeW ws = some i := by rw [pl, hwd]; show some (0 + i) = _; rw [Nat.zero_add]
        walk_at "go"
        rw [if_neg (by decide +kernel)]
        walk_at "go"
        rw [if_neg (by decide +kernel)]
        walk_at "go"
        rw [if_neg (by decide +kernel)]
        walk_at "go"
        rw [if_neg (by decide +kernel)]
        walk_at "go"
        rw [if_pos (by decide +kernel)]
        walk_at "go"
        have := k _ I.fr
        rw [pl] at this
        exact this
      | cons t st =>
        rw [hwd] at pl
        rw [List.tail_cons] at I
        have stop : stepW t z = none → Q (.int (i : Nat)) = Q (plV (placeW ws)) := fun e => by rw [pl, badW_stop e]; show _ = Q (plV (some (0 + i))); rw [Nat.zero_add]; rfl
        have step : ∀ more, stepW t z = some more → more.length ≤ 3 → ∀ l H' v3 v4 v5 v6 v7 v8, PlI H p d l ws (wantsL (more ++ st)) H' → PlIv H p d ws (i + 1) [some (.ref p), some (.ref l), some (.ref d), v3, v4, v5, v6, v7, v8] H' := fun more e ml l H' v3 v4 v5 v6 v7 v8 I => by
          refine ⟨l, more ++ st, _, _, _, _, _, _, rfl, ?_, hi, ?_, I⟩
          · rw [pl, badW_step e, map_add, Nat.add_comm 1 i]
          · rw [List.length_append]
            rw [List.length_cons] at sl
            omega
        clear pl hi2 hwd
        have stl : st.length ≤ 3000001 := by rw [List.length_cons] at sl; have := sz.1; omega
        cases t with
        | mk =>
          dsimp only [headN, wtN]
          walk_at "go"
          rw [if_pos (by decide +kernel)]
          walk_at "go"
          refine ⟨by show 2 ≤ sizeLine; decide, fun q hq => ?_⟩
          have I := I.new (o := .tup [.str "count", .str "row"]) hq
          refine rd_in2 upd_same ?_
          refine ⟨_, rfl, ?_⟩
          generalize upd H6 q _ = H7 at *
          by_cases c1 : z = "count"
          · rw [decide_eq_true c1, Bool.true_or]
            refine iteT ?_
            walk_at "go"
            subst c1
            rw [if_pos (by decide +kernel)]
            walk_at "go"
            refine ⟨by show 3 ≤ sizeLine; decide, fun q2 hq2 => ?_⟩
            have I := I.new (o := .lst [.str "stages", .str "number", .str "number"]) hq2
            refine I.cat (more := [.num, .num, .sts]) upd_same rfl rfl stl (by decide) fun r H8 I => ?_
            walk_at "go"
            exact step _ rfl (by decide) _ _ _ _ _ _ _ _ I
          by_cases c2 : z = "row"
          · rw [decide_eq_true c2, Bool.or_true]
            refine iteT ?_
            walk_at "go"
            subst c2
            rw [if_neg (by decide +kernel)]
            walk_at "go"
            refine ⟨by show 2 ≤ sizeLine; decide, fun q2 hq2 => ?_⟩
            have I := I.new (o := .lst [.str "stages", .str "numbers"]) hq2
            refine I.cat (more := [.nums, .sts]) upd_same rfl rfl stl (by decide) fun r H8 I => ?_
            walk_at "go"
            exact step _ rfl (by decide) _ _ _ _ _ _ _ _ I
          rw [decide_eq_false c1, decide_eq_false c2]
          refine iteF ?_
          walk_at "go"
          rw [if_neg (by decide +kernel)]
          walk_at "go"
          rw [if_neg (by decide +kernel)]
          walk_at "go"
          rw [if_neg (by decide +kernel)]
          walk_at "go"
          rw [if_pos (by decide +kernel)]
          walk_at "go"
          have := k _ I.fr
          rw [← stop (by show (if _ then _ else _) = _; rw [if_neg c1, if_neg c2])] at this
          exact this
        | num =>
          dsimp only [headN, wtN]
          walk_at "go"
          rw [if_neg (by decide +kernel)]
          walk_at "go"
          rw [if_neg (by decide +kernel)]
          walk_at "go"
          rw [if_neg (by decide +kernel)]
          walk_at "go"
          rw [if_neg (by decide +kernel)]
          walk_at "go"
          rw [if_neg (by decide +kernel)]
          walk_at "go"
          cases hn : numW z with
          | true =>
            walk_at "go"
            exact step [] (by show (if _ then _ else _) = _; rw [if_pos hn]) (by decide) _ _ _ _ _ _ _ _ I
          | false =>
            walk_at "go"
            have := k _ I.fr
            rw [← stop (by show (if _ then _ else _) = _; rw [if_neg (by rw [hn]; decide)])] at this
            exact this
        | nums =>
          dsimp only [headN, wtN]
          walk_at "go"
          rw [if_neg (by decide +kernel)]
          walk_at "go"
          rw [if_pos (by decide +kernel)]
          walk_at "go"
          cases hn : numW z with
          | true =>
            have nz : z ≠ ";" := fun q => by rw [q] at hn; exact absurd hn (by decide +kernel)
            walk_at "go"
            refine ⟨by show 1 ≤ sizeLine; decide, fun q hq => ?_⟩
            have I := I.new (o := .lst [.str "numbers"]) hq
            walk_at "go"
            refine .inr ⟨true, rfl, ?_⟩
            refine rd_rep1 (k := 1) upd_same (by decide) (by decide) fun q2 hq2 => ?_
            have I := I.new (o := .lst (List.replicate 1 [.str "numbers"]).flatten) hq2
            refine I.cat (more := [.nums]) upd_same rfl rfl stl (by decide) fun r H8 I => ?_
            walk_at "go"
            exact step _ (by show (if _ then _ else _) = _; rw [if_neg nz, if_pos hn]) (by decide) _ _ _ _ _ _ _ _ I
          | false =>
            walk_at "go"
            refine rd_dec (fun c => ?_) (fun c => ?_)
            · have c := V.str.inj c
              walk_at "go"
              refine ⟨by show 1 ≤ sizeLine; decide, fun q hq => ?_⟩
              have I := I.new (o := .lst [.str "numbers"]) hq
              walk_at "go"
              refine .inr ⟨false, rfl, ?_⟩
              refine rd_rep1 (k := 0) upd_same (by decide) (by decide) fun q2 hq2 => ?_
              have I := I.new (o := .lst (List.replicate 0 [.str "numbers"]).flatten) hq2
              refine I.cat (more := []) upd_same rfl rfl stl (by decide) fun r H8 I => ?_
              walk_at "go"
              exact step [] (if_pos c) (by decide) _ _ _ _ _ _ _ _ I
            · have c : ¬ z = ";" := fun q => c (by rw [q])
              walk_at "go"
              rw [if_neg (by decide +kernel)]
              walk_at "go"
              rw [if_neg (by decide +kernel)]
              walk_at "go"
              rw [if_pos (by decide +kernel)]
              walk_at "go"
              have := k _ I.fr
              rw [← stop (by show (if _ then _ else _) = _; rw [if_neg c, if_neg (by rw [hn]; decide)])] at this
              exact this
        | sts =>
          dsimp only [headN, wtN]
          walk_at "go"
          rw [if_neg (by decide +kernel)]
          walk_at "go"
          rw [if_neg (by decide +kernel)]
          walk_at "go"
          rw [if_pos (by decide +kernel)]
          walk_at "go"
          refine ⟨by show 2 ≤ sizeLine; decide, fun q hq => ?_⟩
          have I := I.new (o := .tup [.str "both", .str "then"]) hq
          refine rd_in2 upd_same ?_
          refine ⟨_, rfl, ?_⟩
          generalize upd H6 q _ = H7 at *
          by_cases cb : z = "both" ∨ z = "then"
          · rw [← Bool.decide_or, decide_eq_true cb]
            refine iteT ?_
            walk_at "go"
            refine ⟨by show 2 ≤ sizeLine; decide, fun q2 hq2 => ?_⟩
            have I := I.new (o := .lst [.str "stages", .str "maker"]) hq2
            refine I.cat (more := [.mk, .sts]) upd_same rfl rfl stl (by decide) fun r H8 I => ?_
            walk_at "go"
            exact step _ (if_pos cb) (by decide) _ _ _ _ _ _ _ _ I
          rw [← Bool.decide_or, decide_eq_false cb]
          refine iteF ?_
          walk_at "go"
          rw [if_pos (by decide +kernel)]
          walk_at "go"
          refine rd_dec (fun c => ?_) (fun c => ?_)
          · have c := V.str.inj c
            walk_at "go"
            refine ⟨by show 1 ≤ sizeLine; decide, fun q hq => ?_⟩
            have I := I.new (o := .lst [.str "stages"]) hq
            walk_at "go"
            refine ⟨by show 1 ≤ sizeLine; decide, fun q2 hq2 => ?_⟩
            have e1 := upd_keep (u := .lst [.str "number"]) (upd_same (H := H7) (a := q) (o := .lst [.str "stages"])) hq2
            have I := I.new (o := .lst [.str "number"]) hq2
            refine rd_var rfl ?_
            refine ⟨d, rfl, .inl ⟨_, .inl I.ed⟩, ?_⟩
            refine rd_var rfl ?_
            refine rd_c ?_
            refine ⟨_, DGet.k (k := .inr z) I.ed, ?_⟩
            rw [sizes_val, show (kdSize z).map (fun k : Nat => V.int (k : Int)) = none by rw [c]; decide +kernel]
            refine rd_rep1 (k := 0) upd_same (by rw [List.length_singleton]; omega) (by omega) fun q3 hq3 => ?_
            rw [rep_num]
            have e1 := upd_keep (u := .lst (List.replicate 0 (.str "number"))) e1 hq3
            have I := I.new (o := .lst (List.replicate 0 (.str "number"))) hq3
            refine rd_cat e1 upd_same (by rw [List.length_replicate]; exact Nat.le_trans (show 1 + 0 ≤ 10 by omega) (by decide)) fun q4 hq4 => ?_
            have I := I.new (o := .lst ([.str "stages"] ++ List.replicate 0 (.str "number"))) hq4
            walk_at "go"
            rw [decide_eq_true (show V.str z = V.str "." from congrArg V.str c)]
            refine .inr ⟨false, rfl, ?_⟩
            refine rd_rep1 (k := 0) upd_same (by rw [Nat.mul_zero]; decide) (by decide) fun q5 hq5 => ?_
            have I := I.new (o := .lst (List.replicate 0 ([V.str "stages"] ++ List.replicate 0 (V.str "number"))).flatten) hq5
            refine I.cat (more := []) upd_same rfl rfl stl (by decide) fun r H8 I => ?_
            walk_at "go"
            exact step [] (by show (if _ then _ else if _ then _ else _) = _; rw [if_neg cb, if_pos c]) (by decide) _ _ _ _ _ _ _ _ I
          · have c : ¬ z = "." := fun q => c (by rw [q])
            walk_at "go"
            refine ⟨_, rfl, _, rfl, d, _, rfl, DGet.k (k := .inr z) I.ed, _, rfl, ?_⟩
            rw [sizes_val]
            cases kz : kdSize z with
            | none =>
              refine iteF ?_
              walk_at "go"
              rw [if_pos (by decide +kernel)]
              walk_at "go"
              have := k _ I.fr
              rw [← stop (by show (if _ then _ else if _ then _ else _) = _; rw [if_neg cb, if_neg c, kz]; rfl)] at this
              exact this
            | some n =>
              refine iteT ?_
              have nle : n ≤ 2 := kdSize_le kz
              walk_at "go"
              refine ⟨by show 1 ≤ sizeLine; decide, fun q hq => ?_⟩
              have I := I.new (o := .lst [.str "stages"]) hq
              walk_at "go"
              refine ⟨by show 1 ≤ sizeLine; decide, fun q2 hq2 => ?_⟩
              have e1 := upd_keep (u := .lst [.str "number"]) (upd_same (H := H7) (a := q) (o := .lst [.str "stages"])) hq2
              have I := I.new (o := .lst [.str "number"]) hq2
              refine rd_var rfl ?_
              refine ⟨d, rfl, .inl ⟨_, .inl I.ed⟩, ?_⟩
              refine rd_var rfl ?_
              refine rd_c ?_
              refine ⟨_, DGet.k (k := .inr z) I.ed, ?_⟩
              rw [sizes_val, kz, Option.map_some, Option.getD_some]
              refine rd_rep1 (k := n) upd_same (by rw [List.length_singleton]; omega) (by omega) fun q3 hq3 => ?_
              rw [rep_num]
              have e1 := upd_keep (u := .lst (List.replicate n (.str "number"))) e1 hq3
              have I := I.new (o := .lst (List.replicate n (.str "number"))) hq3
              refine rd_cat e1 upd_same (by rw [List.length_replicate]; exact Nat.le_trans (show 1 + n ≤ 10 by omega) (by decide)) fun q4 hq4 => ?_
              have I := I.new (o := .lst ([.str "stages"] ++ List.replicate n (.str "number"))) hq4
              walk_at "go"
              rw [decide_eq_false (show ¬ V.str z = V.str "." from fun q => c (V.str.inj q))]
              refine .inr ⟨true, rfl, ?_⟩
              refine rd_rep1 (k := 1) upd_same (by rw [Nat.mul_one, List.length_append, List.length_replicate]; show 1 + n ≤ _; omega) (by decide) fun q5 hq5 => ?_
              have I := I.new (o := .lst (List.replicate 1 ([V.str "stages"] ++ List.replicate n (V.str "number"))).flatten) hq5
              refine I.cat (more := List.replicate n .num ++ [.sts]) upd_same (by rw [wants_rep]; simp) rfl stl (by rw [List.length_append, List.length_replicate]; show n + 1 ≤ _; omega) fun r H8 I => ?_
              walk_at "go"
              exact step _ (by show (if _ then _ else if _ then _ else _) = _; rw [if_neg cb, if_neg c, kz]; rfl) (by rw [List.length_append, List.length_replicate]; show n + 1 ≤ _; omega) _ _ _ _ _ _ _ _ I
    · rintro σ H1 ⟨l, st, v3, v4, v5, v6, v7, v8, rfl, pl, _, sl, I⟩
      dsimp only
      rw [List.drop_length] at pl
      walk_at "go"
      refine ⟨Nat.zero_le _, fun q hq => ?_⟩
      have I2 := I.new (o := .lst []) hq
      refine eq_wants I2.el upd_same ?_
      refine ⟨_, rfl, ?_⟩
      cases st with
      | nil =>
        refine iteT ?_
        have := k _ I2.fr
        rw [pl] at this
        exact this
      | cons t st =>
        refine iteF ?_
        walk_at "go"
        refine rd_lenL (SqL.of I2.ep) ?_
        rw [List.length_map]
        have := k _ I2.fr
        rw [pl] at this
        have e : (badW (t :: st) []).map (· + ws.length) = some ws.length := by show some (0 + ws.length) = _; rw [Nat.zero_add]
        rw [e] at this
        exact this
end
end Dc

set_option Elab.async false
set_option linter.all false
set_option maxRecDepth 100000
set_option maxHeartbeats 4000000
namespace Dc
open PySem PySem.Spec PyProof.Rows L2
local macro_rules | `(tactic| walk_at "ne") => `(tactic| first | assumption | (refine Ne.symm ?_; assumption) | exact ne_of (by assumption) (by assumption) (by intro q; cases q) | exact ne_of_none (by assumption) (by assumption) | exact Ne.symm (ne_of_none (by assumption) (by assumption)))
local macro_rules | `(tactic| walk_at "hp") => `(tactic| first | assumption | exact upd_same | (refine upd_keep ?_ (by assumption); walk_at "hp") | (refine upd_other ?_ ?_; · walk_at "ne"; · walk_at "hp"))
local macro_rules | `(tactic| walk_at "hl") => `(tactic| first | assumption | exact SqL.of (by walk_at "hp"))
local macro_rules | `(tactic| walk_at "ht") => `(tactic| first | assumption | exact SqT.of (by walk_at "hp"))
local macro_rules | `(tactic| walk_at "rd1") => `(tactic| first
  | ((with_reducible apply rd_var); exact rfl)
  | ((with_reducible apply rd_eq); exact rfl) | ((with_reducible apply rd_ne); exact rfl)
  | with_reducible first
  | refine iteT ?_ | refine iteF ?_ | refine rd_nF ?_ | refine rd_nT ?_ | refine rd_yes ?_ | refine rd_c ?_ | refine rd_op ?_ | refine rd_un ?_ | refine rd_test ?_ | refine rd_B ?_ | refine rd_bl ?_ | refine rd_seq ?_ | refine rd_next ?_ | refine rd_ifs ?_ | refine rd_asg ?_ | refine rd_name ?_ | refine rd_ret ?_ | refine rd_drop ?_
  | refine rd_call ?_ | refine rd_cons ?_ | refine rd_nil ?_ | refine rd_cb ?_ | refine rd_I0 ?_ | refine rd_U ?_ | refine rd_gsub ?_ | refine rd_lst ?_ | refine rd_tup ?_ | refine rd_if ?_ | refine rd_not ?_ | refine rd_rng1 ?_ | refine rd_itup ?_ | refine rd_ilst ?_ | refine rd_bm ?_ | refine rd_bm0 ?_ | refine rd_andV ?_ | refine rd_orV ?_ | refine rd_notV ?_)
local macro_rules | `(tactic| walk_at "rd") => `(tactic| repeat walk_at "rd1")
local macro_rules | `(tactic| walk_at "ci") => `(tactic| first | assumption | (show (0 : Int) < _; first | decide | omega) | exact ⟨by decide, by decide⟩ | exact Or.inr ⟨by decide, by decide⟩ | exact Or.inl ⟨by decide, by decide⟩ | exact ⟨by decide, by decide, by decide⟩ | exact Or.inl ⟨by omega, by omega⟩ | exact Or.inr ⟨by omega, by omega⟩)
local macro_rules | `(tactic| walk_at "ix") => `(tactic| first
  | ((with_reducible apply rd_ixL); (walk_at "hl"); exact rfl)
  | ((with_reducible apply rd_ixT); (walk_at "ht"); exact rfl)
  | ((with_reducible apply rd_lenL); (walk_at "hl"))
  | ((with_reducible apply rd_lenT); (walk_at "ht"))
  | ((with_reducible apply rd_tupOf); (walk_at "hl"))
  | ((with_reducible apply rd_listOf); (walk_at "hl"))
  | (with_reducible refine rd_min2 ?_)
  | ((with_reducible apply rd_I); (walk_at "ci"))
  | ((with_reducible apply rd_setL); (walk_at "hp"); exact rfl))
local macro_rules | `(tactic| walk_at "gs") => `(tactic| repeat first | walk_at "rd1" | walk_at "ix")
local macro_rules | `(tactic| walk_at "go") => `(tactic| repeat first | walk_at "rd1" | walk_at "ix" | with_reducible refine rd_and ?_ | with_reducible refine rd_or ?_)
local macro_rules | `(tactic| walk_at "fo") => `(tactic| (with_reducible refine rd_for ?_))
local macro_rules | `(tactic| walk_at "pm") => `(tactic| repeat first
  | with_reducible first | refine rd_pcons ?_ | refine rd_pstr ?_ | refine rd_pcap ?_ | refine rd_pwild ?_ | refine rd_pnil ?_ | refine rd_por ?_ | refine rd_pno ?_
  | ((with_reducible refine rd_eq rfl ?_); refine ⟨_, rfl, ?_⟩; first | refine rd_T rfl ?_ | refine rd_F (by decide) ?_)
  | dsimp only [List.nil_append, List.singleton_append, List.cons_append, setAll])
local macro_rules | `(tactic| walk_at "pc") => `(tactic| (refine rd_case ?_); (first | (refine rd_phit (SqT.of (by assumption)) rfl ?_) | (refine rd_pmiss (SqT.of (by assumption)) (by simp) ?_)); (walk_at "pm"))

theorem cutN2 {xs : List V} {a b : Nat} (h : a ≤ b) (hb : b ≤ xs.length) : cutV xs (some (a : Int)) (some (b : Int)) = (xs.drop a).take (b - a) := by
  unfold cutV
  rw [HT.sIx_nat, HT.sIx_nat, Nat.min_eq_left hb, Nat.min_eq_left (Nat.le_trans h hb)]
theorem rd_slW {K : PySem.W.Frag} {p : Addr} {H : Hp} {Q : VK} {ws l r : List Str} {a b : Int} {n : Nat} (e : H p = some (.lst (ws.map V.str))) (hd : ws.drop n = l ++ r) (hn : n ≤ ws.length) (ea : a = (n : Nat)) (eb : b = ((n + l.length : Nat) : Int)) (q : ∀ x, H x = none → Q (.ref x) (upd H x (.lst (l.map V.str)))) : rSlL K (.ref p) (some a) (some b) H Q := by
  subst ea eb
  refine ⟨p, _, rfl, SqL.of e, fun x hx => ?_⟩
  have hl : ws.length - n = l.length + r.length := by rw [← List.length_drop, hd, List.length_append]
  have e2 : cutV (ws.map V.str) (some (n : Int)) (some ((n + l.length : Nat) : Int)) = l.map V.str := by
    rw [cutN2 (by omega) (by rw [List.length_map]; omega), ← List.map_drop, hd, Nat.add_sub_cancel_left, List.map_append, List.take_append_of_le_length (by rw [List.length_map]; exact Nat.le_refl _), List.take_of_length_le (by rw [List.length_map]; exact Nat.le_refl _)]
  rw [e2]
  exact q x hx
theorem drop_at {ws r : List Str} {n : Nat} {x : Str} (hd : ws.drop n = x :: r) : ws[n]? = some x ∧ n < ws.length ∧ ws.drop (n + 1) = r := by
  have h1 : (ws.drop n)[0]? = ws[n + 0]? := List.getElem?_drop
  rw [hd] at h1
  refine ⟨h1.symm, (List.getElem?_eq_some_iff.mp h1.symm).1, ?_⟩
  rw [← List.drop_drop, hd]; rfl
theorem rd_ixW {K : PySem.W.Frag} {p : Addr} {H : Hp} {Q : VK} {ws r : List Str} {a : Int} {n : Nat} {x : Str} (e : H p = some (.lst (ws.map V.str))) (hd : ws.drop n = x :: r) (ea : a = (n : Nat)) (q : Q (.str x) H) : rIxL K (.ref p) (.int a) H Q := by
  subst ea
  exact rd_ixL (SqL.of e) (atI_nat (v := .str x) (by rw [List.getElem?_map, (drop_at hd).1]; rfl)) q
/-- [int(word) for word in words] -/
theorem lc_ints {K : PySem.W.Frag} {σ : L2.St} {i : Nat} {p : Addr} {ns : List Int} {H : Hp} {Q : VK} (hi : i < σ.length) (hp : H p = some (.lst ((ns.map n2w).map V.str))) (hl : ns.length ≤ 1000000) (ok : ∀ n ∈ ns, numOk n) (k : ∀ D H', H' D = some (.lst (ns.map V.int)) → H D = none → Fr [] H H' → Q (.ref D) H') :
    LcK (gName i) tYes (tCB (fun xs H Q => ∃ a n, xs = [.str a] ∧ PySem.intText? a = some n ∧ a.length ≤ 640 ∧ Q (.int n) H) (tCons (tVar i) tNil)) [i] σ (Itl K p) H Q := by
  intro D hD
  refine lc_list (K := K) (a := p) (xs := (ns.map n2w).map V.str) (fun j H1 => H1 D = some (.lst ((ns.take j).map V.int)) ∧ Fr [] H H1) ⟨upd_same, Fr.new hD⟩ (fun j H1 _ ⟨_, fr⟩ => SqL.of (fr.at hp (by simp))) ?_ ?_
  · rintro j y H1 hj ⟨e1, f1⟩
    rw [List.getElem?_map, List.getElem?_map] at hj
    obtain ⟨n, en, rfl⟩ : ∃ n, ns[j]? = some n ∧ y = .str (n2w n) := by
      cases e : ns[j]? with
      | none => rw [e] at hj; cases hj
      | some z => rw [e] at hj; exact ⟨z, rfl, (Option.some.inj hj).symm⟩
    have il : j < ns.length := (List.getElem?_eq_some_iff.mp en).1
    have nok := ok n (List.mem_of_getElem? en)
    have hw : wipe σ [i] = σ.set i none := rfl
    refine ⟨?_, ?_⟩
    · rw [hw]; show ((σ.set i none).set i (some (.str (n2w n)))).set i none = _
      rw [List.set_set, List.set_set]
    · refine rd_yes ?_
      refine iteT ?_
      refine rd_cb ?_
      refine rd_cons ?_
      refine rd_var (v := .str (n2w n)) (by rw [hw, List.getElem?_set_self (by rw [List.length_set]; exact hi)]) ?_
      refine rd_nil ?_
      obtain ⟨i1, i2⟩ := int_w2n (numW_n2w nok)
      rw [w2n_n2w nok] at i1
      refine ⟨_, n, rfl, i1, Nat.le_trans i2 (by decide), _, e1, by rw [List.length_map, List.length_take]; exact Nat.lt_of_le_of_lt (show min j ns.length ≤ 1000000 by omega) (by decide), ?_, f1.trans (Fr.put (S := [D]) (by simp) (nt e1)) fun b hb => ?_⟩
      · rw [upd_same, List.take_succ, en, List.map_append]
        rfl
      · rw [List.mem_singleton] at hb
        rw [hb]; exact .inr hD
  · rintro H1 ⟨e1, f1⟩
    rw [List.length_map, List.length_map, List.take_length] at e1
    exact k D H1 e1 hD f1
theorem eqV_str (a b : Str) : eqV (.str a) (.str b) = decide (a = b) := by
  show (a == b) = _
  rw [Bool.eq_iff_iff, beq_iff_eq, decide_eq_true_iff]
theorem flat_strs (l : List Str) : (l.map V.str).all flatV = true := by
  rw [List.all_eq_true]
  intro x hx
  obtain ⟨s, _, rfl⟩ := List.mem_map.mp hx
  rfl
/-- the place of the first of a word -/
theorem rd_index {K : PySem.W.Frag} {p : Addr} {H : Hp} {Q : VK} {l r : List Str} {x : Str} (e : H p = some (.lst ((l ++ x :: r).map V.str))) (no : x ∉ l) (q : Q (.int (l.length : Nat)) H) : rIndex K (.ref p) [.str x] H Q := by
  refine ⟨p, _, _, l.length, .str x, rfl, rfl, SqL.of e, rfl, flat_strs _, ?_, by rw [eqV_str]; exact decide_eq_true rfl, fun m z hm hz => ?_, q⟩
  · rw [List.getElem?_map, List.getElem?_append_right (Nat.le_refl _), Nat.sub_self]; rfl
  · rw [List.getElem?_map, List.getElem?_append_left hm, List.getElem?_eq_getElem hm] at hz
    cases hz
    rw [eqV_str]
    exact decide_eq_false fun h => no (h ▸ List.getElem_mem hm)
theorem kd_dot (k : Kd) : k.name ≠ "." := by cases k <;> (simp only [Kd.name]; decide +kernel)
def getsK : List (Key × V) := [(.inr "keep", .int 2), (.inr "unlike", .int 0)]
theorem kd_get (k : Kd) : (valV (mergeK [] getsK) (.inr k.name)).getD (.int 1) = .int (k.nums.length : Nat) := by cases k <;> (simp only [Kd.name, Kd.nums, List.length_cons, List.length_nil]; decide +kernel)
theorem sgs_len : ∀ gs : List Sg, gs.length ≤ (sgsW gs).length
  | [] => Nat.zero_le _
  | g :: gs => by
    have := sgs_len gs
    have hg : 1 ≤ g.ws.length := by cases g <;> (show 1 ≤ (_ :: _).length; rw [List.length_cons]; omega)
    rw [sgsW_cons, List.length_append, List.length_cons]
    omega
def spPa (n : Nat) : Sp := fun vs H Q _ => ∃ (p : Addr) (at_ : Nat) (ws rest : List Str) (c : Ch), vs = [.ref p, .int (at_ : Nat)] ∧ H p = some (.lst (ws.map V.str)) ∧ SzW ws ∧ ws.drop at_ = c.words ++ rest ∧ c.num ∧ c.nm ≤ n ∧
  ∀ q a H', H' q = some (.tup [.ref a, .int ((at_ + c.words.length : Nat) : Int)]) → ChAt H' a c → Fr [] H H' → Q (.ref q) H'
section
variable {P : Program} {w : World} {K : PySem.W.Frag} {mg : Str → Option Value} {base : Heap} {f : Addr} {fd : FuncData}
theorem sc__law_parsed : FnScope ["_law_words_here", "_law_at", "_law_end", "_law_maker_here", "_law_word", "_law_stages_here", "_law_name", "_law_inner", "_law_begin"] ["_law_words_here", "_law_at"] (defScope s__law_parsed) := ⟨rfl, rfl, rfl, by decide +kernel, rfl, by decide +kernel, by decide +kernel⟩
theorem ok_law_parsed {n : Nat} (hn1 : n ≤ 1000) (T : Txt K mg) (F : FnP K "_law_parsed" "_law_parsed" s__law_parsed f fd) (G__law_parsed : Cal P w K mg base CX0 (n + 1) "_law_parsed" ["_law_words_here", "_law_at"] (spPa n)) : FnOk P w K mg base CX0 (n + 2) f fd ["_law_words_here", "_law_at"] (spPa (n + 1)) := by
  refine ok0 F sc__law_parsed (fun vs H Q E h => ?_) (fun cdv A outer s H vs Q E hr h => ?_)
  · obtain ⟨p, at_, ws, rest, c, rfl, _⟩ := h
    rfl
  · obtain ⟨p, at_, ws, rest, c, rfl, ep, sz, hd, num, cnm, k⟩ := h
    have hu := hr.units
    have hu : (cxOf CX0 P w K mg base ["_law_words_here", "_law_at", "_law_end", "_law_maker_here", "_law_word", "_law_stages_here", "_law_name", "_law_inner", "_law_begin"] "_law_parsed" (defScope s__law_parsed) f cdv A outer s H E).A.units + 1 < cLine := by have := hr.un; show (A.deeper _).units + 1 < cLine; omega
    refine ⟨_, (pss_cons (ps_set (i := 2) sc__law_parsed.nd rfl (Or.inl rfl) (pe_op op_add (pv 1) pe_int))
  (pss_cons (ps_set (i := 3) sc__law_parsed.nd rfl (Or.inl rfl) (pe_tup (pa_cons pe_str pa_nil)))
  (Evl.pss_cut (ps_if (pt_cmpR op_eq (pe_ix (ix_listK K) (pv 0) (pv 1) (fun _ _ => rfl)) pe_str (nomark _))
    (pss_cons (ps_set (i := 2) sc__law_parsed.nd rfl (Or.inl rfl) (pe_op op_add (pe_op op_add (pv 1) pe_int) (pe_bm PySem.F.plainAttrs_list PySem.F.slot_list_index PySem.F.type_list_index mt_index (pe_slice sl_list (pv 0) (po_some (pv 1)) po_none) (pa_cons pe_str pa_nil))))
    (pss_one (ps_set (i := 3) sc__law_parsed.nd rfl (Or.inl rfl) (pe_tup (pa_cons pe_str (pa_cons (pe_callTy (call_tupOfK K) (by rfl) T.free_tuple (by decide +kernel) (pa_cons (pe_lc (own := [("_law_word", 4)]) (g := gName 4) rfl sc__law_parsed.nd (pi_list (pe_slice sl_list (pv 0) (po_some (pe_op op_add (pv 1) pe_int)) (po_some (pe_op op_sub (pv 2) pe_int)))) (blkOk_by (N := ["_law_words_here", "_law_at", "_law_end", "_law_maker_here", "_law_word", "_law_stages_here", "_law_name", "_law_inner", "_law_begin"]) (sc := defScope s__law_parsed) (by decide +kernel)) (fun _ _ _ _ _ => pg_name (i := 4) sc__law_parsed.nd rfl (Or.inl rfl)) (fun _ _ _ _ _ => pts_nil) (fun _ _ _ _ _ => (pe_callTy call_int_str (by rfl) T.free_int (by decide +kernel) (pa_cons (pv 4) pa_nil)))) pa_nil)) pa_nil))))))
    (pss_one (ps_set (i := 3) sc__law_parsed.nd rfl (Or.inl rfl) (pe_op (op_catAK K) (pv 3) (pe_callTy (call_tupOfK K) (by rfl) T.free_tuple (by decide +kernel) (pa_cons (pe_lc (own := [("_law_word", 4)]) (g := gName 4) rfl sc__law_parsed.nd (pi_list (pe_slice sl_list (pv 0) (po_some (pe_op op_add (pv 1) pe_int)) (po_some (pv 2)))) (blkOk_by (N := ["_law_words_here", "_law_at", "_law_end", "_law_maker_here", "_law_word", "_law_stages_here", "_law_name", "_law_inner", "_law_begin"]) (sc := defScope s__law_parsed) (by decide +kernel)) (fun _ _ _ _ _ => pg_name (i := 4) sc__law_parsed.nd rfl (Or.inl rfl)) (fun _ _ _ _ _ => pts_nil) (fun _ _ _ _ _ => (pe_callTy call_int_str (by rfl) T.free_int (by decide +kernel) (pa_cons (pv 4) pa_nil)))) pa_nil))))))
  (pss_cons (ps_set (i := 5) sc__law_parsed.nd rfl (Or.inl rfl) (pe_lst pa_nil))
  (pss_cons (ps_while PassesOwn.never (pt_cmpR op_ne (pe_ix (ix_listK K) (pv 0) (pv 2) (fun _ _ => rfl)) pe_str (nomark _))
    (pss_cons (ps_set (i := 6) sc__law_parsed.nd rfl (Or.inl rfl) (pe_ix (ix_listK K) (pv 0) (pv 2) (fun _ _ => rfl)))
    (pss_one (ps_if (pt_cmpR (op_in_seqK K) (pv 6) (pe_tup (pa_cons pe_str (pa_cons pe_str pa_nil))) (by rfl))
      (pss_cons (ps_asg (pe_cal G__law_parsed (hr.mono (by omega)) pass0 (pa_cons (pv 0) (pa_cons (pe_op op_add (pv 2) pe_int) pa_nil))) (pg_tup (by rfl) (pgs_cons (pg_name (i := 7) sc__law_parsed.nd rfl (Or.inl rfl)) (pgs_cons (pg_name (i := 2) sc__law_parsed.nd rfl (Or.inl rfl)) pgs_nil))))
      (pss_one (ps_expr (pe_bm PySem.F.plainAttrs_list PySem.F.slot_list_append PySem.F.type_list_append mt_append (pv 5) (pa_cons (pe_tup (pa_cons (pv 6) (pa_cons (pv 7) pa_nil))) pa_nil)))))
      (pss_cons (ps_set (i := 8) sc__law_parsed.nd rfl (Or.inl rfl) (pe_op op_add (pv 2) pe_int))
      (pss_cons (ps_set (i := 2) sc__law_parsed.nd rfl (Or.inl rfl) (pe_op op_add (pv 8) (pe_dget2 hu (pe_disp (pps_cons pe_str pe_int (pps_cons pe_str pe_int pps_nil)) rfl rfl (by intro q; cases q) (by decide)) (pv 6) pe_int ⟨rfl, rfl, rfl, rfl⟩)))
      (pss_one (ps_expr (pe_bm PySem.F.plainAttrs_list PySem.F.slot_list_append PySem.F.type_list_append mt_append (pv 5) (pa_cons (pe_op (op_catAK K) (pe_tup (pa_cons (pv 6) pa_nil)) (pe_callTy (call_tupOfK K) (by rfl) T.free_tuple (by decide +kernel) (pa_cons (pe_lc (own := [("_law_word", 4)]) (g := gName 4) rfl sc__law_parsed.nd (pi_list (pe_slice sl_list (pv 0) (po_some (pv 8)) (po_some (pv 2)))) (blkOk_by (N := ["_law_words_here", "_law_at", "_law_end", "_law_maker_here", "_law_word", "_law_stages_here", "_law_name", "_law_inner", "_law_begin"]) (sc := defScope s__law_parsed) (by decide +kernel)) (fun _ _ _ _ _ => pg_name (i := 4) sc__law_parsed.nd rfl (Or.inl rfl)) (fun _ _ _ _ _ => pts_nil) (fun _ _ _ _ _ => (pe_callTy call_int_str (by rfl) T.free_int (by decide +kernel) (pa_cons (pv 4) pa_nil)))) pa_nil))) pa_nil))))))))))
  (pss_one (ps_ret (pe_tup (pa_cons (pe_tup (pa_cons (pv 3) (pa_cons (pe_callTy (call_tupOfK K) (by rfl) T.free_tuple (by decide +kernel) (pa_cons (pv 5) pa_nil)) pa_nil))) (pa_cons (pe_op op_add (pv 2) pe_int) pa_nil)))))))))), ?_⟩
    try dsimp only [cxOf, Cx.nox, Cx.wish]
    refine rd_at (σ' := [some (.ref p), some (.int (at_ : Nat)), none, none, none, none, none, none, none]) rfl ?_
    walk_at "go"
    have at_lt : at_ < ws.length := by
      rcases Nat.lt_or_ge at_ ws.length with h | h
      · exact h
      · rw [List.drop_eq_nil_of_le h] at hd
        have := congrArg List.length hd
        unfold Ch.words at this
        simp at this
    have hw : c.words = c.root.words ++ (sgsW c.sgs ++ [(".":Str)]) := by unfold Ch.words; rw [ws_of, List.append_assoc]
    rw [hw, List.append_assoc, List.append_assoc, List.singleton_append] at hd
    have hnum := Ch.num_sgs num
    refine ⟨by show 1 ≤ sizeLine; decide, fun t0 ht0 => ?_⟩
    have f0 : Fr [] H (upd H t0 (.tup [.str "count"])) := Fr.new ht0
    have e0 : upd H t0 (.tup [.str "count"]) t0 = some (.tup [.str "count"]) := upd_same
    have epH := ep
    have ep := f0.at ep (by simp)
    generalize upd H t0 (.tup [.str "count"]) = H0 at *
    walk_at "go"
    refine ⟨fun σ' H' => ∃ (m : Addr) (v4 : Option V), σ' = [some (.ref p), some (.int (at_ : Nat)), some (.int ((at_ + c.root.words.length : Nat) : Int)), some (.ref m), v4, none, none, none, none] ∧ MkAt H' m c.root ∧ Fr [] H H', ?_, ?_⟩
    · refine rd_ifs ?_
      cases hr' : c.root with
      | row ns =>
        rw [hr'] at hd hnum
        have hd : ws.drop at_ = ("row" : Str) :: ((ns.map n2w ++ [(";" : Str)]) ++ (sgsW c.sgs ++ ((".":Str) :: rest))) := hd
        walk_at "go"
        refine rd_ixW ep hd rfl ?_
        walk_at "go"
        rw [if_pos (by decide +kernel)]
        have lr : (Mkr.row ns).words.length = ns.length + 2 := by show (("row" : Str) :: (ns.map n2w ++ [(";" : Str)])).length = _; rw [List.length_cons, List.length_append, List.length_map]; rfl
        have ln : at_ + 1 + ns.length + 1 ≤ ws.length := by
          have := congrArg List.length hd
          rw [List.length_drop, List.length_cons, List.length_append, List.length_append, List.length_map] at this
          simp only [List.length_singleton] at this
          omega
        walk_at "go"
        refine rd_sl ?_
        walk_at "go"
        refine rd_part ?_
        walk_at "go"
        refine ⟨(at_ : Nat), rfl, ?_⟩
        refine rd_np ?_
        refine ⟨p, _, rfl, SqL.of ep, fun q hq => ?_⟩
        rw [cut_from (by omega), Int.toNat_natCast, ← List.map_drop, hd]
        have f1 := f0.newN (o := .lst ((("row" : Str) :: ((ns.map n2w ++ [(";" : Str)]) ++ (sgsW c.sgs ++ ((".":Str) :: rest)))).map V.str)) hq
        have ep1 := upd_keep (u := .lst ((("row" : Str) :: ((ns.map n2w ++ [(";" : Str)]) ++ (sgsW c.sgs ++ ((".":Str) :: rest)))).map V.str)) ep hq
        have eq1 : upd H0 q (.lst ((("row" : Str) :: ((ns.map n2w ++ [(";" : Str)]) ++ (sgsW c.sgs ++ ((".":Str) :: rest)))).map V.str)) q = some (.lst (((("row" : Str) :: ns.map n2w) ++ (";" : Str) :: (sgsW c.sgs ++ ((".":Str) :: rest))).map V.str)) := by
          rw [upd_same, List.append_assoc]; rfl
        generalize upd H0 q _ = H1 at *
        refine ⟨tyl eq1, ?_⟩
        walk_at "go"
        refine rd_index eq1 (fun h => ?_) ?_
        · rcases List.mem_cons.mp h with h | h
          · exact absurd h (by decide +kernel)
          · obtain ⟨x, hx, e⟩ := List.mem_map.mp h
            exact n2w_ne (hnum.1 x hx) (by decide +kernel) e
        rw [List.length_cons, List.length_map]
        walk_at "go"
        refine rd_lc ?_
        refine rd_ilst ?_
        refine rd_sl ?_
        walk_at "go"
        refine rd_part ?_
        walk_at "go"
        refine ⟨_, rfl, ?_⟩
        refine rd_part ?_
        walk_at "go"
        refine ⟨_, rfl, ?_⟩
        have hd2 : ws.drop (at_ + 1) = ns.map n2w ++ ((";" : Str) :: (sgsW c.sgs ++ ((".":Str) :: rest))) := by rw [(drop_at hd).2.2, List.append_assoc]; rfl
        refine rd_slW ep1 hd2 (by omega) (by omega) (by rw [List.length_map]; omega) fun x hx => ?_
        have f2 := f1.newN (o := .lst ((ns.map n2w).map V.str)) hx
        have ex : upd H1 x (.lst ((ns.map n2w).map V.str)) x = _ := upd_same
        generalize upd H1 x _ = H2 at *
        refine ⟨x, rfl, ⟨_, SqL.of ex⟩, lc_ints (by simp) ex (by have := sz.1; omega) hnum.1 fun D H3 eD nD f3 => ?_⟩
        have f23 := f2.tr f3
        walk_at "go"
        intro y hy
        have f4 := f23.newN (o := .tup (ns.map V.int)) hy
        have ey : upd H3 y (.tup (ns.map V.int)) y = _ := upd_same
        generalize upd H3 y _ = H4 at *
        walk_at "go"
        refine ⟨by show 2 ≤ sizeLine; decide, fun z hz => ?_⟩
        have f5 := f4.newN (o := .tup [.str "row", .ref y]) hz
        walk_at "go"
        refine ⟨z, none, ?_, ⟨y, upd_same, upd_keep ey hz⟩, f5⟩
        rw [lr, show ((at_ : Nat) : Int) + 1 + ((ns.length + 1 : Nat) : Int) = ((at_ + (ns.length + 2) : Nat) : Int) by omega]
        rfl
      | count b s =>
        rw [hr'] at hd hnum
        have hd : ws.drop at_ = ("count" : Str) :: ([b, s].map n2w ++ (sgsW c.sgs ++ ((".":Str) :: rest))) := hd
        walk_at "go"
        refine rd_ixW ep hd rfl ?_
        walk_at "go"
        rw [if_neg (by decide +kernel)]
        walk_at "go"
        have ln : at_ + 3 ≤ ws.length := by
          have := congrArg List.length hd
          rw [List.length_drop, List.length_cons, List.length_append, List.length_map] at this
          simp only [List.length_cons, List.length_nil] at this
          omega
        refine rd_lc ?_
        refine rd_ilst ?_
        refine rd_sl ?_
        walk_at "go"
        refine rd_part ?_
        walk_at "go"
        refine ⟨_, rfl, ?_⟩
        refine rd_part ?_
        walk_at "go"
        refine ⟨_, rfl, ?_⟩
        refine rd_slW ep (drop_at hd).2.2 (by omega) (by omega) (by rw [List.length_map]; show _ = ((at_ + 1 + 2 : Nat) : Int); omega) fun x hx => ?_
        have f2 := f0.newN (o := .lst (([b, s].map n2w).map V.str)) hx
        have e02 := upd_keep (u := .lst (([b, s].map n2w).map V.str)) e0 hx
        have ex : upd H0 x (.lst (([b, s].map n2w).map V.str)) x = _ := upd_same
        generalize upd H0 x _ = H2 at *
        refine ⟨x, rfl, ⟨_, SqL.of ex⟩, lc_ints (by simp) ex (by show 2 ≤ _; decide) (fun n hn => by
          simp only [List.mem_cons, List.not_mem_nil, or_false] at hn
          rcases hn with rfl | rfl
          · exact hnum.1.1
          · exact hnum.1.2) fun D H3 eD nD f3 => ?_⟩
        have f23 := f2.tr f3
        have e03 := f3.tp e02
        walk_at "go"
        intro y hy
        have f4 := f23.newN (o := .tup ([b, s].map V.int)) hy
        have ey : upd H3 y (.tup ([b, s].map V.int)) y = _ := upd_same
        have e04 := upd_keep (u := .tup ([b, s].map V.int)) e03 hy
        generalize upd H3 y _ = H4 at *
        refine catA_join e04 ey (by show 1 + 2 ≤ _; decide) fun z H5 f5 ez => ?_
        walk_at "go"
        exact ⟨z, none, rfl, ez, f4.tr f5⟩
    · rintro σ' H1 ⟨mm, v4, rfl, em, f1⟩
      walk_at "go"
      refine ⟨Nat.zero_le _, fun sl hsl => ?_⟩
      have f2 := f1.newN (o := .lst []) hsl
      have nsl := f1.free (by simp) hsl
      have em2 := em.fr (Fr.new (S := []) (o := .lst []) hsl)
      have es2 : upd H1 sl (.lst []) sl = some (.lst []) := upd_same
      generalize upd H1 sl _ = H2 at *
      clear em f1 hsl H1
      walk_at "go"
      have ht : at_ + c.root.words.length ≤ ws.length ∧ ws.drop (at_ + c.root.words.length) = sgsW c.sgs ++ ((".":Str) :: rest) := by
        refine ⟨?_, ?_⟩
        · have := congrArg List.length hd
          rw [List.length_drop, List.length_append] at this
          rw [List.length_append, List.length_cons] at this
          omega
        · rw [← List.drop_drop, hd, List.drop_left]
      refine ⟨fun m σ H' => ∃ (dn td : List Sg) (as : List Addr) (e : Nat) (v4 v6 v7 v8 : Option V), m = td.length ∧ dn ++ td = c.sgs ∧ σ = [some (.ref p), some (.int (at_ : Nat)), some (.int (e : Nat)), some (.ref mm), v4, some (.ref sl), v6, v7, v8] ∧ H' sl = some (.lst (as.map V.ref)) ∧ SgsAt H' as dn ∧ MkAt H' mm c.root ∧ ws.drop e = sgsW td ++ ((".":Str) :: rest) ∧ e + (sgsW td).length + 1 = at_ + c.words.length ∧ Fr [] H H',
        ⟨_, [], c.sgs, [], _, _, _, _, _, rfl, rfl, rfl, es2, trivial, em2, ht.2, by rw [hw, List.length_append, List.length_append]; show _ = _ + (_ + (_ + 1)); omega, f2⟩, ?_⟩
      clear em2 es2 f2 H2 ht v4
      have big : c.sgs.length ≤ 1000000 := by
        have h1 := congrArg List.length hd
        have h2 := sgs_len c.sgs
        have h3 := sz.1
        rw [List.length_drop, List.length_append] at h1
        rw [List.length_append] at h1
        omega
      rintro m σ H1 ⟨dn, td, as, e, v4, v6, v7, v8, rfl, edt, rfl, es, hs, em, hde, hel, f1⟩
      have ep := f1.at epH (by simp)
      cases td with
      | nil =>
        walk_at "go"
        refine rd_ixW ep hde rfl ?_
        walk_at "go"
        rw [show (!decide (V.str (Str.ofString ".") = V.str (Str.ofString "."))) = false by decide +kernel]
        refine iteF ?_
        walk_at "go"
        intro ss hss
        have f2 := f1.newN (o := .tup (as.map V.ref)) hss
        have hs := hs.fr (Fr.new (S := []) (o := .tup (as.map V.ref)) hss)
        have em := em.fr (Fr.new (S := []) (o := .tup (as.map V.ref)) hss)
        have ess : upd H1 ss (.tup (as.map V.ref)) ss = _ := upd_same
        generalize upd H1 ss _ = H2 at *
        walk_at "go"
        refine ⟨by show 2 ≤ sizeLine; decide, fun ch hch => ?_⟩
        have f3 := f2.newN (o := .tup [.ref mm, .ref ss]) hch
        have hs := hs.fr (Fr.new (S := []) (o := .tup [.ref mm, .ref ss]) hch)
        have em := em.fr (Fr.new (S := []) (o := .tup [.ref mm, .ref ss]) hch)
        have ess := upd_keep (u := .tup [.ref mm, .ref ss]) ess hch
        have ech : upd H2 ch (.tup [.ref mm, .ref ss]) ch = _ := upd_same
        generalize upd H2 ch _ = H3 at *
        walk_at "go"
        refine ⟨by show 2 ≤ sizeLine; decide, fun r hr => ?_⟩
        have hel : (e : Int) + 1 = ((at_ + c.words.length : Nat) : Int) := by
          have : e + 0 + 1 = at_ + c.words.length := hel
          omega
        rw [hel]
        have ech := upd_keep (u := .tup [.ref ch, .int ((at_ + c.words.length : Nat) : Int)]) ech hr
        have ess := upd_keep (u := .tup [.ref ch, .int ((at_ + c.words.length : Nat) : Int)]) ess hr
        have hs := hs.fr (Fr.new (S := []) (o := .tup [.ref ch, .int ((at_ + c.words.length : Nat) : Int)]) hr)
        have em := em.fr (Fr.new (S := []) (o := .tup [.ref ch, .int ((at_ + c.words.length : Nat) : Int)]) hr)
        rw [List.append_nil] at edt
        refine k r ch _ upd_same ⟨mm, ss, as, ech, ess, ?_⟩ (f3.newN hr)
        have st := sts_fold (c := .mkr c.root) (a := mm) (as0 := []) hs ⟨rfl, em⟩
        rw [edt] at st
        rw [show c.sgs.foldl Ch.snoc (.mkr c.root) = c from Ch.of_sgs c, List.nil_append] at st
        exact st
      | cons g td =>
        have hg : g ∈ c.sgs := by rw [← edt]; simp
        have edt2 : (dn ++ [g]) ++ td = c.sgs := by rw [← edt, List.append_assoc]; rfl
        rw [sgsW_cons, List.append_assoc] at hde
        rw [sgsW_cons, List.length_append] at hel
        have elt : e < ws.length := by
          rcases Nat.lt_or_ge e ws.length with h | h
          · exact h
          · rw [List.drop_eq_nil_of_le h] at hde
            have := congrArg List.length hde
            simp at this
        cases g with
        | one k =>
          have hde : ws.drop e = k.name :: (k.nums.map n2w ++ (sgsW td ++ ((".":Str) :: rest))) := hde
          have hgl : (Sg.one k).ws.length = k.nums.length + 1 := by show (k.name :: k.nums.map n2w).length = _; rw [List.length_cons, List.length_map]
          walk_at "go"
          refine rd_ixW ep hde rfl ?_
          walk_at "go"
          rw [show (!decide (V.str k.name = V.str (Str.ofString "."))) = true by rw [decide_eq_false (fun q => kd_dot k (V.str.inj q))]; rfl]
          refine iteT ?_
          refine ⟨_, fun σ' H' h => ⟨td.length, by simp, h⟩, ?_⟩
          walk_at "go"
          refine rd_ixW ep hde rfl ?_
          walk_at "go"
          refine ⟨by show 2 ≤ sizeLine; decide, fun q hq => ?_⟩
          have f2 := f1.newN (o := .tup [.str "both", .str "then"]) hq
          have ep := upd_keep (u := .tup [.str "both", .str "then"]) ep hq
          have es := upd_keep (u := .tup [.str "both", .str "then"]) es hq
          have hs := hs.fr (Fr.new (S := []) (o := .tup [.str "both", .str "then"]) hq)
          have em := em.fr (Fr.new (S := []) (o := .tup [.str "both", .str "then"]) hq)
          refine rd_in2 upd_same ?_
          refine ⟨_, rfl, ?_⟩
          generalize upd H1 q _ = H2 at *
          rw [show (decide (k.name = "both") || decide (k.name = "then")) = false by rw [decide_eq_false kd_not.1, decide_eq_false kd_not.2.1]; rfl]
          refine iteF ?_
          walk_at "go"
          intro d hd2
          refine ⟨upd_same, getsK, rfl, by decide, ?_⟩
          have f3 := (f2.newN (o := .dK []) hd2).putN (o := .dK (mergeK [] getsK)) (.inr (f2.free (by simp) hd2)) (nt upd_same)
          have nd1 : d ≠ p := fun z => by rw [z, ep] at hd2; cases hd2
          have nd2 : d ≠ sl := fun z => by rw [z, es] at hd2; cases hd2
          have fd1 : Fr [d] H2 (upd (upd H2 d (.dK [])) d (.dK (mergeK [] getsK))) := (Fr.new (S := []) hd2).putN (.inr hd2) (nt upd_same) |>.mono (by simp)
          have ep : upd (upd H2 d (.dK [])) d (.dK (mergeK [] getsK)) p = _ := upd_other nd1.symm (upd_keep ep hd2)
          have es : upd (upd H2 d (.dK [])) d (.dK (mergeK [] getsK)) sl = _ := upd_other nd2.symm (upd_keep es hd2)
          have hs := hs.fr fd1
          have em := em.fr fd1
          have ed : upd (upd H2 d (.dK [])) d (.dK (mergeK [] getsK)) d = some (.dK (mergeK [] getsK)) := upd_same
          generalize upd (upd H2 d (.dK [])) d (.dK (mergeK [] getsK)) = H3 at *
          refine ⟨d, rfl, .inl ⟨_, .inl ed⟩, ?_⟩
          refine rd_var rfl ?_
          refine rd_c ?_
          refine ⟨_, DGet.k (k := .inr k.name) ed, ?_⟩
          rw [kd_get]
          walk_at "go"
          rw [show ((e : Nat) : Int) + 1 + ((k.nums.length : Nat) : Int) = ((e + 1 + k.nums.length : Nat) : Int) by omega, show ((e : Nat) : Int) + 1 = ((e + 1 : Nat) : Int) by omega]
          refine ⟨tyl es, ?_⟩
          walk_at "go"
          refine ⟨by show 1 ≤ sizeLine; decide, fun t ht => ?_⟩
          have f4 := f3.newN (o := .tup [.str k.name]) ht
          have ep := upd_keep (u := .tup [.str k.name]) ep ht
          have es := upd_keep (u := .tup [.str k.name]) es ht
          have hs := hs.fr (Fr.new (S := []) (o := .tup [.str k.name]) ht)
          have em := em.fr (Fr.new (S := []) (o := .tup [.str k.name]) ht)
          have et : upd H3 t (.tup [.str k.name]) t = some (.tup [.str k.name]) := upd_same
          generalize upd H3 t _ = H4 at *
          walk_at "go"
          refine rd_lc ?_
          refine rd_ilst ?_
          refine rd_sl ?_
          walk_at "go"
          refine rd_part ?_
          walk_at "go"
          refine ⟨_, rfl, ?_⟩
          refine rd_part ?_
          walk_at "go"
          refine ⟨_, rfl, ?_⟩
          refine rd_slW ep (drop_at hde).2.2 (by omega) rfl (by rw [List.length_map]) fun x hx => ?_
          have f5 := f4.newN (o := .lst ((k.nums.map n2w).map V.str)) hx
          have es := upd_keep (u := .lst ((k.nums.map n2w).map V.str)) es hx
          have et := upd_keep (u := .lst ((k.nums.map n2w).map V.str)) et hx
          have hs := hs.fr (Fr.new (S := []) (o := .lst ((k.nums.map n2w).map V.str)) hx)
          have em := em.fr (Fr.new (S := []) (o := .lst ((k.nums.map n2w).map V.str)) hx)
          have ex : upd H4 x (.lst ((k.nums.map n2w).map V.str)) x = _ := upd_same
          generalize upd H4 x _ = H5 at *
          refine ⟨x, rfl, ⟨_, SqL.of ex⟩, lc_ints (by simp) ex (by have := k.nums_len; omega) (hnum.2 _ hg) fun D H6 eD nD f6 => ?_⟩
          have f7 := f5.tr f6
          have es := f6.at es (by simp)
          have et := f6.tp et
          have hs := hs.fr f6
          have em := em.fr f6
          walk_at "go"
          intro y hy
          have f8 := f7.newN (o := .tup (k.nums.map V.int)) hy
          have es := upd_keep (u := .tup (k.nums.map V.int)) es hy
          have et := upd_keep (u := .tup (k.nums.map V.int)) et hy
          have hs := hs.fr (Fr.new (S := []) (o := .tup (k.nums.map V.int)) hy)
          have em := em.fr (Fr.new (S := []) (o := .tup (k.nums.map V.int)) hy)
          have ey : upd H6 y (.tup (k.nums.map V.int)) y = _ := upd_same
          generalize upd H6 y _ = H7 at *
          walk_at "go"
          refine catA_join et ey (by rw [List.length_map]; have := k.nums_len; show 1 + _ ≤ _; omega) fun z H8 f9 ez => ?_
          have es := f9.at es (by simp)
          have hs := hs.fr f9
          have em := em.fr f9
          have f10 := f8.tr f9
          walk_at "go"
          have lle : as.length ≤ 1000000 := by
            have h1 := hs.len
            have h3 := congrArg List.length edt
            rw [List.length_append] at h3
            omega
          walk_at "go"
          refine rd_append es (by rw [List.length_map]; exact Nat.lt_of_le_of_lt lle (by decide)) ?_
          have es0 := es
          have fs : Fr [sl] H8 (upd H8 sl (.lst (as.map V.ref ++ [V.ref z]))) := Fr.put (by simp) (nt es)
          have hs := (hs.app (bs := [z]) (hs := [.one k]) ⟨by rw [show SgAt H8 z (.one k) = (H8 z = some (.tup k.vals)) from rfl, k.vals_eq]; exact ez, trivial⟩).fr fs
          have em := em.fr fs
          have es : upd H8 sl (.lst (as.map V.ref ++ [V.ref z])) sl = some (.lst ((as ++ [z]).map V.ref)) := by rw [upd_same, List.map_append]; rfl
          refine ⟨dn ++ [.one k], td, as ++ [z], e + 1 + k.nums.length, _, _, _, _, rfl, edt2, rfl, es, hs, em, ?_, by omega, f10.putN (.inr nsl) (nt es0)⟩
          rw [← List.drop_drop, (drop_at hde).2.2]
          exact List.drop_left' (by rw [List.length_map])
        | both o =>
          have hde : ws.drop e = ("both" : Str) :: (o.words ++ (sgsW td ++ ((".":Str) :: rest))) := hde
          have hgl : (Sg.both o).ws.length = o.words.length + 1 := rfl
          walk_at "go"
          refine rd_ixW ep hde rfl ?_
          walk_at "go"
          rw [show (!decide (V.str (Str.ofString "both") = V.str (Str.ofString "."))) = true by decide +kernel]
          refine iteT ?_
          refine ⟨_, fun σ' H' h => ⟨td.length, by simp, h⟩, ?_⟩
          walk_at "go"
          refine rd_ixW ep hde rfl ?_
          walk_at "go"
          refine ⟨by show 2 ≤ sizeLine; decide, fun q hq => ?_⟩
          have f2 := f1.newN (o := .tup [.str "both", .str "then"]) hq
          have ep := upd_keep (u := .tup [.str "both", .str "then"]) ep hq
          have es := upd_keep (u := .tup [.str "both", .str "then"]) es hq
          have hs := hs.fr (Fr.new (S := []) (o := .tup [.str "both", .str "then"]) hq)
          have em := em.fr (Fr.new (S := []) (o := .tup [.str "both", .str "then"]) hq)
          refine rd_in2 upd_same ?_
          refine ⟨_, rfl, ?_⟩
          generalize upd H1 q _ = H2 at *
          rw [show (decide (Str.ofString "both" = "both") || decide (Str.ofString "both" = "then")) = true by decide +kernel]
          refine iteT ?_
          walk_at "go"
          have onm : o.nm ≤ n := by
            have h1 := fold_nm c.sgs (.mkr c.root)
            rw [show c.sgs.foldl Ch.snoc (.mkr c.root) = c from Ch.of_sgs c] at h1
            have h2 : o.nm ≤ nmS c.sgs := by rw [← edt2, nmS_app, nmS_app]; show _ ≤ _ + (o.nm + 0) + _; omega
            have h3 : (Ch.mkr c.root).nm = 1 := rfl
            omega
          refine ⟨p, e + 1, ws, sgsW td ++ ((".":Str) :: rest), o, rfl, ep, sz, (drop_at hde).2.2, hnum.2 _ hg, onm, fun q2 ac H3 eq2 hac f3 => ?_⟩
          have es := f3.at es (by simp)
          have hs := hs.fr f3
          have em := em.fr f3
          have f4 := f2.tr f3
          refine ⟨q2, _, rfl, SqT.of eq2, rfl, _, _, rfl, _, _, rfl, rfl, ?_⟩
          dsimp only [List.set]
          walk_at "go"
          refine ⟨tyl es, ?_⟩
          walk_at "go"
          refine ⟨by show 2 ≤ sizeLine; decide, fun z hz => ?_⟩
          have f5 := f4.newN (o := .tup [.str "both", .ref ac]) hz
          have es := upd_keep (u := .tup [.str "both", .ref ac]) es hz
          have hs := hs.fr (Fr.new (S := []) (o := .tup [.str "both", .ref ac]) hz)
          have em := em.fr (Fr.new (S := []) (o := .tup [.str "both", .ref ac]) hz)
          have hac := hac.fr (Fr.new (S := []) (o := .tup [.str "both", .ref ac]) hz)
          have ez : upd H3 z (.tup [.str "both", .ref ac]) z = _ := upd_same
          generalize upd H3 z _ = H4 at *
          have lle : as.length ≤ 1000000 := by
            have h1 := hs.len
            have h3 := congrArg List.length edt
            rw [List.length_append] at h3
            omega
          walk_at "go"
          refine rd_append es (by rw [List.length_map]; exact Nat.lt_of_le_of_lt lle (by decide)) ?_
          have es0 := es
          have fs : Fr [sl] H4 (upd H4 sl (.lst (as.map V.ref ++ [V.ref z]))) := Fr.put (by simp) (nt es)
          have hs := (hs.app (bs := [z]) (hs := [.both o]) ⟨⟨ac, ez, hac⟩, trivial⟩).fr fs
          have em := em.fr fs
          have es : upd H4 sl (.lst (as.map V.ref ++ [V.ref z])) sl = some (.lst ((as ++ [z]).map V.ref)) := by rw [upd_same, List.map_append]; rfl
          refine ⟨dn ++ [.both o], td, as ++ [z], e + 1 + o.words.length, _, _, _, _, rfl, edt2, rfl, es, hs, em, ?_, by omega, f5.putN (.inr nsl) (nt es0)⟩
          rw [← List.drop_drop, (drop_at hde).2.2]
          exact List.drop_left' rfl
        | thn o =>
          have hde : ws.drop e = ("then" : Str) :: (o.words ++ (sgsW td ++ ((".":Str) :: rest))) := hde
          have hgl : (Sg.thn o).ws.length = o.words.length + 1 := rfl
          walk_at "go"
          refine rd_ixW ep hde rfl ?_
          walk_at "go"
          rw [show (!decide (V.str (Str.ofString "then") = V.str (Str.ofString "."))) = true by decide +kernel]
          refine iteT ?_
          refine ⟨_, fun σ' H' h => ⟨td.length, by simp, h⟩, ?_⟩
          walk_at "go"
          refine rd_ixW ep hde rfl ?_
          walk_at "go"
          refine ⟨by show 2 ≤ sizeLine; decide, fun q hq => ?_⟩
          have f2 := f1.newN (o := .tup [.str "both", .str "then"]) hq
          have ep := upd_keep (u := .tup [.str "both", .str "then"]) ep hq
          have es := upd_keep (u := .tup [.str "both", .str "then"]) es hq
          have hs := hs.fr (Fr.new (S := []) (o := .tup [.str "both", .str "then"]) hq)
          have em := em.fr (Fr.new (S := []) (o := .tup [.str "both", .str "then"]) hq)
          refine rd_in2 upd_same ?_
          refine ⟨_, rfl, ?_⟩
          generalize upd H1 q _ = H2 at *
          rw [show (decide (Str.ofString "then" = "both") || decide (Str.ofString "then" = "then")) = true by decide +kernel]
          refine iteT ?_
          walk_at "go"
          have onm : o.nm ≤ n := by
            have h1 := fold_nm c.sgs (.mkr c.root)
            rw [show c.sgs.foldl Ch.snoc (.mkr c.root) = c from Ch.of_sgs c] at h1
            have h2 : o.nm ≤ nmS c.sgs := by rw [← edt2, nmS_app, nmS_app]; show _ ≤ _ + (o.nm + 0) + _; omega
            have h3 : (Ch.mkr c.root).nm = 1 := rfl
            omega
          refine ⟨p, e + 1, ws, sgsW td ++ ((".":Str) :: rest), o, rfl, ep, sz, (drop_at hde).2.2, hnum.2 _ hg, onm, fun q2 ac H3 eq2 hac f3 => ?_⟩
          have es := f3.at es (by simp)
          have hs := hs.fr f3
          have em := em.fr f3
          have f4 := f2.tr f3
          refine ⟨q2, _, rfl, SqT.of eq2, rfl, _, _, rfl, _, _, rfl, rfl, ?_⟩
          dsimp only [List.set]
          walk_at "go"
          refine ⟨tyl es, ?_⟩
          walk_at "go"
          refine ⟨by show 2 ≤ sizeLine; decide, fun z hz => ?_⟩
          have f5 := f4.newN (o := .tup [.str "then", .ref ac]) hz
          have es := upd_keep (u := .tup [.str "then", .ref ac]) es hz
          have hs := hs.fr (Fr.new (S := []) (o := .tup [.str "then", .ref ac]) hz)
          have em := em.fr (Fr.new (S := []) (o := .tup [.str "then", .ref ac]) hz)
          have hac := hac.fr (Fr.new (S := []) (o := .tup [.str "then", .ref ac]) hz)
          have ez : upd H3 z (.tup [.str "then", .ref ac]) z = _ := upd_same
          generalize upd H3 z _ = H4 at *
          have lle : as.length ≤ 1000000 := by
            have h1 := hs.len
            have h3 := congrArg List.length edt
            rw [List.length_append] at h3
            omega
          walk_at "go"
          refine rd_append es (by rw [List.length_map]; exact Nat.lt_of_le_of_lt lle (by decide)) ?_
          have es0 := es
          have fs : Fr [sl] H4 (upd H4 sl (.lst (as.map V.ref ++ [V.ref z]))) := Fr.put (by simp) (nt es)
          have hs := (hs.app (bs := [z]) (hs := [.thn o]) ⟨⟨ac, ez, hac⟩, trivial⟩).fr fs
          have em := em.fr fs
          have es : upd H4 sl (.lst (as.map V.ref ++ [V.ref z])) sl = some (.lst ((as ++ [z]).map V.ref)) := by rw [upd_same, List.map_append]; rfl
          refine ⟨dn ++ [.thn o], td, as ++ [z], e + 1 + o.words.length, _, _, _, _, rfl, edt2, rfl, es, hs, em, ?_, by omega, f5.putN (.inr nsl) (nt es0)⟩
          rw [← List.drop_drop, (drop_at hde).2.2]
          exact List.drop_left' rfl
end
end Dc

set_option Elab.async false
set_option linter.all false
set_option maxRecDepth 100000
set_option maxHeartbeats 2000000
namespace Dc
open PySem PySem.Spec PyProof.Rows L2
/-! ### values of any shape: numbers, texts, tuples -/
inductive PV where
  | int (i : Int)
  | str (s : Str)
  | tup (l : List PV)
mutual
inductive PVAt (H : Hp) : PV → V → Prop
  | int (i : Int) : PVAt H (.int i) (.int i)
  | str (s : Str) : PVAt H (.str s) (.str s)
  | tup {a : Addr} {vs : List V} {l : List PV} : H a = some (.tup vs) → PVAll H l vs → PVAt H (.tup l) (.ref a)
inductive PVAll (H : Hp) : List PV → List V → Prop
  | nil : PVAll H [] []
  | cons {p : PV} {l : List PV} {v : V} {vs : List V} : PVAt H p v → PVAll H l vs → PVAll H (p :: l) (v :: vs)
end
mutual
theorem PVAt.fr {S : List Addr} {H H' : Hp} (f : Fr S H H') : ∀ (p : PV) (v : V), PVAt H p v → PVAt H' p v
  | .int i, _, h => by cases h; exact .int i
  | .str s, _, h => by cases h; exact .str s
  | .tup l, _, h => by
    cases h with
    | tup e a => exact .tup (f.tp e) (PVAll.fr f l _ a)
theorem PVAll.fr {S : List Addr} {H H' : Hp} (f : Fr S H H') : ∀ (l : List PV) (vs : List V), PVAll H l vs → PVAll H' l vs
  | [], _, h => by cases h; exact .nil
  | p :: l, _, h => by
    cases h with
    | cons a b => exact .cons (PVAt.fr f p _ a) (PVAll.fr f l _ b)
end
theorem PVAll.len {H : Hp} : ∀ {l : List PV} {vs : List V}, PVAll H l vs → vs.length = l.length
  | [], _, h => by cases h; rfl
  | p :: l, _, h => by
    cases h with
    | cons a b => rw [List.length_cons, List.length_cons, PVAll.len b]
theorem PVAll.at {H : Hp} : ∀ {l : List PV} {vs : List V} (i : Nat) (v : V), PVAll H l vs → vs[i]? = some v → ∃ p, l[i]? = some p ∧ PVAt H p v
  | [], _, i, v, h, e => by cases h; cases e
  | p :: l, _, i, v, h, e => by
    cases h with
    | cons a b =>
      cases i with
      | zero => cases e; exact ⟨p, rfl, a⟩
      | succ i => exact PVAll.at i v b e
/-! as data, for == -/
mutual
def PV.pd : PV → PyData
  | .int i => .int i
  | .str s => .str s
  | .tup l => .tuple (PV.pds l)
def PV.pds : List PV → List PyData
  | [] => []
  | p :: l => p.pd :: PV.pds l
end
mutual
theorem PVAt.dp {K : PySem.W.Frag} {H : Hp} : ∀ (p : PV) (v : V), PVAt H p v → Dp K H v p.pd
  | .int i, _, h => by cases h; exact .int i
  | .str s, _, h => by cases h; exact .str s
  | .tup l, _, h => by
    cases h with
    | tup e a => exact .tup (SqT.of e) (PVAll.dp l _ a)
theorem PVAll.dp {K : PySem.W.Frag} {H : Hp} : ∀ (l : List PV) (vs : List V), PVAll H l vs → DpAll K H vs (PV.pds l)
  | [], _, h => by cases h; exact .nil
  | p :: l, _, h => by
    cases h with
    | cons a b => exact .cons (PVAt.dp p _ a) (PVAll.dp l _ b)
end
/-- laid out well enough to be compared -/
def PV.shp (p : PV) : Prop := SeqAt.shaped p.pd = true
theorem shp_iff (d : PyData) : SeqAt.shaped d = true ↔ PyData.canLay0 d = true ∧ d.depth ≤ 64 := by
  unfold SeqAt.shaped
  rw [Bool.and_eq_true]
  exact ⟨fun h => ⟨h.1, of_decide_eq_true h.2⟩, fun h => ⟨h.1, decide_eq_true h.2⟩⟩
theorem pds_mem : ∀ {l : List PV} {p : PV}, p ∈ l → (PyData.canLayAll0 (PV.pds l) = true → PyData.canLay0 p.pd = true) ∧ p.pd.depth ≤ PyData.depthAll (PV.pds l)
  | [], _, h => by cases h
  | q :: l, p, h => by
    have e1 : PyData.canLayAll0 (PV.pds (q :: l)) = (PyData.canLay0 q.pd && PyData.canLayAll0 (PV.pds l)) := rfl
    have e2 : PyData.depthAll (PV.pds (q :: l)) = max q.pd.depth (PyData.depthAll (PV.pds l)) := by simp only [PV.pds, PyData.depthAll]
    rw [e1, e2, Bool.and_eq_true]
    rcases List.mem_cons.mp h with rfl | h
    · exact ⟨fun z => z.1, Nat.le_max_left _ _⟩
    · exact ⟨fun z => (pds_mem h).1 z.2, Nat.le_trans (pds_mem h).2 (Nat.le_max_right _ _)⟩
theorem PV.shp.mem {l : List PV} {p : PV} (h : (PV.tup l).shp) (hp : p ∈ l) : p.shp := by
  obtain ⟨h1, h2⟩ := (shp_iff _).mp h
  have h1 : PyData.canLayAll0 (PV.pds l) = true := h1
  have e : (PV.tup l).pd.depth = PyData.depthAll (PV.pds l) + 1 := by simp only [PV.pd, PyData.depth]
  have q := pds_mem hp
  exact (shp_iff _).mpr ⟨q.1 h1, by omega⟩
/-! the looks, as functions -/
def PV.isS (s : Str) : PV → Bool
  | .str t => decide (t = s)
  | _ => false
def numB : PV → Bool
  | .int i => decide (-(10 ^ 30) < i) && decide (i < 10 ^ 30)
  | _ => false
def withinB (p : PV) (lo hi : Int) : Bool := match p with
  | .int i => numB (.int i) && (decide (lo ≤ i) && decide (i ≤ hi))
  | _ => false
def rowB : PV → Bool
  | .tup l => decide (l.length ≤ 100) && l.all numB
  | _ => false
def mkB : PV → Bool
  | .tup [a, b] => a.isS "row" && rowB b
  | .tup [a, b, c] => a.isS "count" && (numB b && numB c)
  | _ => false
def PV.val : PV → Int
  | .int i => i
  | _ => 0
def stB : PV → Bool
  | .tup [a] => a.isS "unlike"
  | .tup [a, x] => if a.isS "add" = true ∨ a.isS "times" = true ∨ a.isS "until" = true then numB x else if a.isS "drop" = true ∨ a.isS "take" = true then withinB x 0 100 else if a.isS "each" = true then withinB x 1 10 else a.isS "both" || a.isS "then"
  | .tup [a, r, w] => a.isS "keep" && (withinB w 2 1000 && withinB r 0 (w.val - 1))
  | _ => false
/-- the chain within a stage -/
def PV.sub : PV → Option PV
  | .tup [a, x] => if a.isS "both" = true ∨ a.isS "then" = true then some x else none
  | _ => none
mutual
/-- a chain of so many makers and stages -/
inductive Wf : PV → Nat → Nat → Prop
  | mk {m : PV} {ss : List PV} {a b : Nat} : mkB m = true → WfA ss a b → Wf (.tup [m, .tup ss]) (a + 1) (b + ss.length)
inductive WfA : List PV → Nat → Nat → Prop
  | nil : WfA [] 0 0
  | one {s : PV} {ss : List PV} {a b : Nat} : stB s = true → s.sub = none → WfA ss a b → WfA (s :: ss) a b
  | sub {s x : PV} {ss : List PV} {a b a' b' : Nat} : stB s = true → s.sub = some x → Wf x a b → WfA ss a' b' → WfA (s :: ss) (a + a') (b + b')
end
def GoodP (p : PV) : Prop := ∃ a b, Wf p a b ∧ a ≤ 4 ∧ b ≤ 12
/-! == in a pattern -/
def rEqB (K : PySem.W.Frag) : R2 := fun x y H Q => rEq x y H Q ∨ rEqD K x y H Q
theorem op_eqBK {X : Cx} (K : PySem.W.Frag) (hu : X.A.units + 64 < cLine) (e : X.K = K := by rfl) : OpR X (compareOp .Eq) (rEqB K) := by
  intro pins s σ H x y v u Q I rx ry h
  rcases h with h | h
  · exact op_eq pins s σ H x y v u Q I rx ry h
  · exact op_eqDK K hu e pins s σ H x y v u Q I rx ry h
theorem rd_pstrP {K : PySem.W.Frag} {p : PV} {v : V} {H : Hp} {x : Str} {Q : Option (List V) → Hp → Prop} (h : PVAt H p v) (hs : p.shp) (hx : SeqAt.shaped (.str x) = true) (q1 : p.isS x = true → Q (some []) H) (q2 : p.isS x = false → Q none H) : tPStr (rEqB K) x v H Q := by
  cases h with
  | int i =>
    refine .inl ⟨rfl, _, rfl, ?_⟩
    rw [if_neg (by simp)]
    exact q2 rfl
  | str s =>
    refine .inl ⟨rfl, _, rfl, ?_⟩
    by_cases z : s = x
    · subst z
      rw [if_pos (by simp)]
      exact q1 (decide_eq_true rfl)
    · rw [if_neg (by simpa using z)]
      exact q2 (decide_eq_false z)
  | @tup a vs l e al =>
    refine .inr ⟨(PV.tup l).pd, .str x, (PVAt.tup e al).dp _ _, .str x, hs, hx, _, rfl, ?_⟩
    have z : PyData.eqv (PV.tup l).pd (.str x) = false := by simp only [PV.pd]; unfold PyData.eqv; rfl
    rw [z, if_neg Bool.false_ne_true]
    exact q2 rfl
theorem tyP {K : PySem.W.Frag} {H : Hp} {p : PV} {v : V} (h : PVAt H p v) : (∃ l a, p = .tup l ∧ v = .ref a ∧ TyX K H v (.type "tuple")) ∨ (∃ i, p = .int i ∧ v = .int i) ∨ ∃ s, p = .str s ∧ v = .str s := by
  cases h with
  | int i => exact .inr (.inl ⟨i, rfl, rfl⟩)
  | str s => exact .inr (.inr ⟨s, rfl, rfl⟩)
  | tup e a => exact .inl ⟨_, _, rfl, rfl, tyx_tup e⟩
theorem isiP_sb : kitB "str" "bool" = some false := by decide +kernel
theorem isiP_si : kitB "str" "int" = some false := by decide +kernel
theorem isiP_st : kitB "str" "tuple" = some false := by decide +kernel
theorem isiP_tb : kitB "tuple" "bool" = some false := by decide +kernel
theorem isiP_ti : kitB "tuple" "int" = some false := by decide +kernel
theorem isiP_it : kitB "int" "tuple" = some false := by decide +kernel
end Dc

set_option Elab.async false
set_option linter.all false
set_option maxRecDepth 100000
set_option maxHeartbeats 2000000
namespace Dc
open PySem PySem.Spec PyProof.Rows L2
local macro_rules | `(tactic| walk_at "ne") => `(tactic| first | assumption | (refine Ne.symm ?_; assumption) | exact ne_of (by assumption) (by assumption) (by intro q; cases q) | exact ne_of_none (by assumption) (by assumption) | exact Ne.symm (ne_of_none (by assumption) (by assumption)))
local macro_rules | `(tactic| walk_at "hp") => `(tactic| first | assumption | exact upd_same | (refine upd_keep ?_ (by assumption); walk_at "hp") | (refine upd_other ?_ ?_; · walk_at "ne"; · walk_at "hp"))
local macro_rules | `(tactic| walk_at "hl") => `(tactic| first | assumption | exact SqL.of (by walk_at "hp"))
local macro_rules | `(tactic| walk_at "ht") => `(tactic| first | assumption | exact SqT.of (by walk_at "hp"))
local macro_rules | `(tactic| walk_at "rd1") => `(tactic| first
  | ((with_reducible apply rd_var); exact rfl)
  | ((with_reducible apply rd_eq); exact rfl) | ((with_reducible apply rd_ne); exact rfl)
  | with_reducible first
  | refine iteT ?_ | refine iteF ?_ | refine rd_nF ?_ | refine rd_nT ?_ | refine rd_yes ?_ | refine rd_c ?_ | refine rd_op ?_ | refine rd_un ?_ | refine rd_test ?_ | refine rd_B ?_ | refine rd_bl ?_ | refine rd_seq ?_ | refine rd_next ?_ | refine rd_ifs ?_ | refine rd_asg ?_ | refine rd_name ?_ | refine rd_ret ?_ | refine rd_drop ?_
  | refine rd_call ?_ | refine rd_cons ?_ | refine rd_nil ?_ | refine rd_cb ?_ | refine rd_I0 ?_ | refine rd_U ?_ | refine rd_gsub ?_ | refine rd_lst ?_ | refine rd_tup ?_ | refine rd_if ?_ | refine rd_not ?_ | refine rd_rng1 ?_ | refine rd_itup ?_ | refine rd_ilst ?_ | refine rd_bm ?_ | refine rd_bm0 ?_ | refine rd_andV ?_ | refine rd_orV ?_ | refine rd_notV ?_)
local macro_rules | `(tactic| walk_at "rd") => `(tactic| repeat walk_at "rd1")
local macro_rules | `(tactic| walk_at "ci") => `(tactic| first | assumption | (show (0 : Int) < _; first | decide | omega) | exact ⟨by decide, by decide⟩ | exact Or.inr ⟨by decide, by decide⟩ | exact Or.inl ⟨by decide, by decide⟩ | exact ⟨by decide, by decide, by decide⟩ | exact Or.inl ⟨by omega, by omega⟩ | exact Or.inr ⟨by omega, by omega⟩)
local macro_rules | `(tactic| walk_at "ix") => `(tactic| first
  | ((with_reducible apply rd_ixL); (walk_at "hl"); exact rfl)
  | ((with_reducible apply rd_ixT); (walk_at "ht"); exact rfl)
  | ((with_reducible apply rd_lenL); (walk_at "hl"))
  | ((with_reducible apply rd_lenT); (walk_at "ht"))
  | ((with_reducible apply rd_tupOf); (walk_at "hl"))
  | ((with_reducible apply rd_listOf); (walk_at "hl"))
  | (with_reducible refine rd_min2 ?_)
  | ((with_reducible apply rd_I); (walk_at "ci"))
  | ((with_reducible apply rd_setL); (walk_at "hp"); exact rfl))
local macro_rules | `(tactic| walk_at "gs") => `(tactic| repeat first | walk_at "rd1" | walk_at "ix")
local macro_rules | `(tactic| walk_at "go") => `(tactic| repeat first | walk_at "rd1" | walk_at "ix" | with_reducible refine rd_and ?_ | with_reducible refine rd_or ?_)
local macro_rules | `(tactic| walk_at "fo") => `(tactic| (with_reducible refine rd_for ?_))
local macro_rules | `(tactic| walk_at "pm") => `(tactic| repeat first
  | with_reducible first | refine rd_pcons ?_ | refine rd_pstr ?_ | refine rd_pcap ?_ | refine rd_pwild ?_ | refine rd_pnil ?_ | refine rd_por ?_ | refine rd_pno ?_
  | ((with_reducible refine rd_eq rfl ?_); refine ⟨_, rfl, ?_⟩; first | refine rd_T rfl ?_ | refine rd_F (by decide) ?_)
  | dsimp only [List.nil_append, List.singleton_append, List.cons_append, setAll])
local macro_rules | `(tactic| walk_at "pc") => `(tactic| (refine rd_case ?_); (first | (refine rd_phit (SqT.of (by assumption)) rfl ?_) | (refine rd_pmiss (SqT.of (by assumption)) (by simp) ?_)); (walk_at "pm"))

local macro_rules | `(tactic| walk_at "pq") => `(tactic| (refine rd_case ?_); (first | (refine rd_phit (SqT.of (by assumption)) rfl ?_) | (refine rd_pmiss (SqT.of (by assumption)) (by simp) ?_)); (repeat first
  | with_reducible first | refine rd_pcons ?_ | refine rd_pcap ?_ | refine rd_pwild ?_ | refine rd_pnil ?_ | refine rd_por ?_ | refine rd_pno ?_
  | dsimp only [List.nil_append, List.singleton_append, List.cons_append, setAll]))
local macro_rules | `(tactic| walk_at "pr") => `(tactic| (repeat first
  | with_reducible first | refine rd_pcons ?_ | refine rd_pcap ?_ | refine rd_pwild ?_ | refine rd_pnil ?_ | refine rd_por ?_ | refine rd_pno ?_
  | dsimp only [List.nil_append, List.singleton_append, List.cons_append, setAll]))
/-! ### the looks, at values of any shape -/
theorem room1P {k : Nat} {A : Around} (r : Room k A) : A.units + 1 < cLine := by have := r.un; omega
def spNumV : Sp := fun vs H Q _ => ∃ (p : PV) (v : V), vs = [v] ∧ PVAt H p v ∧ Q (.bl (numB p)) H
def spWithinV : Sp := fun vs H Q _ => ∃ (p : PV) (v : V) (lo hi : Int), vs = [v, .int lo, .int hi] ∧ PVAt H p v ∧ Q (.bl (withinB p lo hi)) H
def spRowV : Sp := fun vs H Q _ => ∃ (p : PV) (v : V), vs = [v] ∧ PVAt H p v ∧ ∀ H', Fr [] H H' → Q (.bl (rowB p)) H'
def spMakerV : Sp := fun vs H Q _ => ∃ (p : PV) (v : V), vs = [v] ∧ PVAt H p v ∧ p.shp ∧ ∀ H', Fr [] H H' → Q (.bl (mkB p)) H'
def spStageV : Sp := fun vs H Q _ => ∃ (p : PV) (v : V), vs = [v] ∧ PVAt H p v ∧ p.shp ∧ Q (.bl (stB p)) H
def spHasV : Sp := fun vs H Q _ => ∃ (p : PV) (v : V), vs = [v] ∧ PVAt H p v ∧ stB p = true ∧ ∀ H', Fr [] H H' → Q (.bl p.sub.isSome) H'
def PV.pair : PV → Bool
  | .tup [_, .tup _] => true
  | _ => false
def spPairV : Sp := fun vs H Q _ => ∃ (p : PV) (v : V), vs = [v] ∧ PVAt H p v ∧ Q (.bl p.pair) H
section
variable {P : Program} {w : World} {K : PySem.W.Frag} {mg : Str → Option Value} {base : Heap} {f : Addr} {fd : FuncData}
theorem okv_is_number (T : Txt K mg) (F : FnP K "is_number" "is_number" s_is_number f fd) : FnOk P w K mg base CX0 1 f fd ["number"] spNumV := by
  refine ok0 F sc_is_number (fun vs H Q E h => ?_) (fun cdv A outer s H vs Q E hr h => ?_)
  · obtain ⟨p, v, rfl, _⟩ := h
    rfl
  · obtain ⟨p, v, rfl, hv, k⟩ := h
    refine ⟨_, (pss_cons (ps_if (PW.pt (pw_or (pt_val (pe_callB (call_isiK1 K) (by rfl) T.free_isinstance (by decide +kernel) (pa_cons (pv 0) (pa_cons (pe_bltn (v := .ty "bool") (u := .type "bool") (by rfl) T.free_bool (by decide +kernel) rfl) pa_nil)))) (pw_or1 (pt_not (pt_val (pe_callB (call_isiK1 K) (by rfl) T.free_isinstance (by decide +kernel) (pa_cons (pv 0) (pa_cons (pe_bltn (v := .ty "int") (u := .type "int") (by rfl) T.free_int (by decide +kernel) rfl) pa_nil))))))))
    (pss_one (ps_ret pe_bl)) pss_nil)
  (pss_one (ps_ret (pe_chain op_lt op_lt (pe_un un_neg (pe_cint T.c_FIRST_TOO_LARGE)) (pv 0) (pe_cint T.c_FIRST_TOO_LARGE))))), ?_⟩
    try dsimp only [cxOf, Cx.nox, Cx.wish]
    refine rd_at (σ' := [some v]) rfl ?_
    rcases tyP (K := K) hv with ⟨l, a, rfl, rfl, ty⟩ | ⟨i, rfl, rfl⟩ | ⟨s, rfl, rfl⟩
    · walk_at "go"
      refine rd_isi ty isiP_tb ?_
      walk_at "go"
      refine rd_isi ty isiP_ti ?_
      walk_at "go"
      exact k
    · walk_at "go"
      refine rd_isi tyx_int isi_int_bool ?_
      walk_at "go"
      refine rd_isi tyx_int isi_int_int ?_
      walk_at "go"
      refine rd_chain ?_
      walk_at "go"
      refine rd_dec (fun c1 => ?_) (fun c1 => ?_)
      · walk_at "go"
        have e : numB (.int i) = decide (i < 1000000000000000000000000000000) := by
          show (decide (-(10 ^ 30) < i) && decide (i < 10 ^ 30)) = _
          rw [decide_eq_true (show -(10 ^ 30) < i from c1), Bool.true_and]
          rfl
        rw [e] at k
        exact k
      · have e : numB (.int i) = false := by
          show (decide (-(10 ^ 30) < i) && decide (i < 10 ^ 30)) = _
          rw [decide_eq_false (show ¬ -(10 ^ 30) < i from c1), Bool.false_and]
        rw [e] at k
        exact k
    · walk_at "go"
      refine rd_isi (.base (.str _)) isiP_sb ?_
      walk_at "go"
      refine rd_isi (.base (.str _)) isiP_si ?_
      walk_at "go"
      exact k
theorem okv_is_within (T : Txt K mg) (F : FnP K "is_within" "is_within" s_is_within f fd) (G_is_number : Cal P w K mg base CX0 1 "is_number" ["number"] spNumV) : FnOk P w K mg base CX0 2 f fd ["number", "low", "high"] spWithinV := by
  refine ok0 F sc_is_within (fun vs H Q E h => ?_) (fun cdv A outer s H vs Q E hr h => ?_)
  · obtain ⟨p, v, lo, hi, rfl, _⟩ := h
    rfl
  · obtain ⟨p, v, lo, hi, rfl, hv, k⟩ := h
    refine ⟨_, (pss_one (ps_ret (pe_and (pe_cal G_is_number (hr.mono (by omega)) pass0 (pa_cons (pv 0) pa_nil)) (pe_one (pe_chain op_le op_le (pv 1) (pv 0) (pv 2)))))), ?_⟩
    try dsimp only [cxOf, Cx.nox, Cx.wish]
    refine rd_at (σ' := [some v, some (.int lo), some (.int hi)]) rfl ?_
    walk_at "go"
    refine ⟨p, v, rfl, hv, ?_⟩
    walk_at "go"
    rcases tyP (K := K) hv with ⟨l, a, rfl, rfl, ty⟩ | ⟨i, rfl, rfl⟩ | ⟨s, rfl, rfl⟩
    · exact iteF k
    · refine rd_b (fun hn => ?_) (fun hn => ?_)
      · walk_at "go"
        refine rd_chain ?_
        walk_at "go"
        have e : withinB (.int i) lo hi = (decide (lo ≤ i) && decide (i ≤ hi)) := by
          show (numB (.int i) && _) = _
          rw [hn, Bool.true_and]
        rw [e] at k
        refine rd_dec (fun c1 => ?_) (fun c1 => ?_)
        · walk_at "go"
          rw [decide_eq_true c1, Bool.true_and] at k
          exact k
        · rw [decide_eq_false c1, Bool.false_and] at k
          exact k
      · have e : withinB (.int i) lo hi = false := by
          show (numB (.int i) && _) = _
          rw [hn, Bool.false_and]
        rw [e] at k
        exact k
    · exact iteF k
theorem okv_is_row (T : Txt K mg) (F : FnP K "is_row" "is_row" s_is_row f fd) (G_is_number : Cal P w K mg base CX0 1 "is_number" ["number"] spNumV) : FnOk P w K mg base CX0 2 f fd ["numbers"] spRowV := by
  refine ok0 F sc_is_row (fun vs H Q E h => ?_) (fun cdv A outer s H vs Q E hr h => ?_)
  · obtain ⟨p, v, rfl, _⟩ := h
    rfl
  · obtain ⟨p, v, rfl, hv, k⟩ := h
    refine ⟨_, (pss_cons (ps_if (PW.pt (pw_or (pt_not (pt_val (pe_callB (call_isiK1 K) (by rfl) T.free_isinstance (by decide +kernel) (pa_cons (pv 0) (pa_cons (pe_bltn (v := .ty "tuple") (u := .type "tuple") (by rfl) T.free_tuple (by decide +kernel) rfl) pa_nil))))) (pw_or1 (pt_cmpR op_gt (pe_callB (call_len1K K) (by rfl) T.free_len (by decide +kernel) (pa_cons (pv 0) pa_nil)) (pe_cint T.c_ROW_AT_MOST) (nomark _)))))
    (pss_one (ps_ret pe_bl)) pss_nil)
  (pss_one (ps_ret (pe_callB (cr_allK K rfl) (by rfl) T.free_all (by decide +kernel) (pa_cons (pe_lc (own := [("number", 1)]) (g := gName 1) rfl sc_is_row.nd (pi_tup (pv 0)) (blkOk_by (N := ["numbers", "number"]) (sc := defScope s_is_row) (by decide +kernel)) (fun _ _ _ _ _ => pg_name (i := 1) sc_is_row.nd rfl (Or.inl rfl)) (fun _ _ _ _ _ => pts_nil) (fun _ _ _ _ _ => (pe_cal G_is_number (hr.mono (by omega)) pass0 (pa_cons (pv 1) pa_nil)))) pa_nil))))), ?_⟩
    try dsimp only [cxOf, Cx.nox, Cx.wish]
    refine rd_at (σ' := [some v, none]) rfl ?_
    cases hv with
    | int i =>
      walk_at "go"
      refine rd_isi tyx_int isiP_it ?_
      walk_at "go"
      exact k _ (Fr.refl _ _)
    | str s =>
      walk_at "go"
      refine rd_isi (.base (.str _)) isiP_st ?_
      walk_at "go"
      exact k _ (Fr.refl _ _)
    | @tup r vs l er al =>
      have hl := al.len
      walk_at "go"
      refine rd_isi (tyx_tup er) isi_tuple ?_
      walk_at "go"
      refine rd_dec (fun c1 => ?_) (fun c1 => ?_)
      · walk_at "go"
        have e : rowB (.tup l) = false := by
          show (decide (l.length ≤ 100) && _) = false
          rw [decide_eq_false (by omega), Bool.false_and]
        rw [e] at k
        exact k _ (Fr.refl _ _)
      · walk_at "go"
        refine ⟨_, rfl, r, rfl, ⟨_, SqT.of er⟩, fun D hD => ?_⟩
        refine lc_tup (K := K) (a := r) (xs := vs) (fun i H1 => H1 D = some (.lst (((l.take i).map numB).map V.bl)) ∧ Fr [] H H1) ⟨upd_same, Fr.new hD⟩ (fun i H1 _ ⟨_, fr⟩ => SqT.of (fr.tp er)) ?_ ?_
        · rintro i y H1 hi ⟨e1, f1⟩
          obtain ⟨p, hp, hpy⟩ := PVAll.at i y al hi
          have il : i < l.length := (List.getElem?_eq_some_iff.mp hp).1
          walk_at "go"
          refine ⟨rfl, ?_⟩
          walk_at "go"
          refine ⟨p, y, rfl, PVAt.fr f1 p y hpy, _, e1, by rw [List.length_map, List.length_map, List.length_take]; exact Nat.lt_of_le_of_lt (show min i l.length ≤ 100 by omega) (by decide), ?_, f1.trans (Fr.put (S := [D]) (by simp) (nt e1)) fun b hb => ?_⟩
          · rw [upd_same, List.take_succ, hp, List.map_append, List.map_append]
            rfl
          · rw [List.mem_singleton] at hb
            rw [hb]; exact .inr hD
        · rintro H1 ⟨e1, f1⟩
          rw [hl, List.take_length] at e1
          walk_at "go"
          refine ⟨D, _, rfl, SqL.of e1, ?_⟩
          have z : (l.map numB).all id = rowB (.tup l) := by
            show _ = (decide (l.length ≤ 100) && l.all numB)
            rw [decide_eq_true (by omega), Bool.true_and, List.all_map]
            rfl
          rw [z]
          exact k _ f1
theorem okv_is_maker (T : Txt K mg) (F : FnP K "is_maker" "is_maker" s_is_maker f fd) (G_is_number : Cal P w K mg base CX0 1 "is_number" ["number"] spNumV) (G_is_row : Cal P w K mg base CX0 2 "is_row" ["numbers"] spRowV) : FnOk P w K mg base CX0 3 f fd ["maker"] spMakerV := by
  refine ok0 F sc_is_maker (fun vs H Q E h => ?_) (fun cdv A outer s H vs Q E hr h => ?_)
  · obtain ⟨p, v, rfl, _⟩ := h
    rfl
  · obtain ⟨p, v, rfl, hv, hs, k⟩ := h
    have hu64 := hr.units
    refine ⟨_, (pss_cons (ps_if (pt_not (pt_val (pe_callB (call_isiK1 K) (by rfl) T.free_isinstance (by decide +kernel) (pa_cons (pv 0) (pa_cons (pe_bltn (v := .ty "tuple") (u := .type "tuple") (by rfl) T.free_tuple (by decide +kernel) rfl) pa_nil)))))
    (pss_one (ps_ret pe_bl)) pss_nil)
  (pss_cons (ps_match (pv 0)
    (pc_cons (is := [1, 2]) sc_is_maker.nd (pat_seq rfl (pp_cons (pat_str (op_eqBK K hu64)) (pp_cons pat_cap (pp_cons pat_cap pp_nil)))) rfl (all_local (by rfl))
      (pss_one (ps_ret (pe_and (pe_cal G_is_number (hr.mono (by omega)) pass0 (pa_cons (pv 1) pa_nil)) (pe_one (pe_cal G_is_number (hr.mono (by omega)) pass0 (pa_cons (pv 2) pa_nil))))))
    (pc_cons (is := [3]) sc_is_maker.nd (pat_seq rfl (pp_cons (pat_str (op_eqBK K hu64)) (pp_cons pat_cap pp_nil))) rfl (all_local (by rfl))
      (pss_one (ps_ret (pe_cal G_is_row (hr.mono (by omega)) pass0 (pa_cons (pv 3) pa_nil))))
    pc_nil)))
  (pss_one (ps_ret pe_bl)))), ?_⟩
    try dsimp only [cxOf, Cx.nox, Cx.wish]
    refine rd_at (σ' := [some v] ++ List.replicate (["maker", "begin", "step", "numbers"].length - 1) none) rfl ?_
    cases hv with
    | int i =>
      walk_at "go"
      refine rd_isi tyx_int isiP_it ?_
      walk_at "go"
      exact k _ (Fr.refl _ _)
    | str s =>
      walk_at "go"
      refine rd_isi (.base (.str _)) isiP_st ?_
      walk_at "go"
      exact k _ (Fr.refl _ _)
    | @tup a vs l er al =>
      walk_at "go"
      refine rd_isi (tyx_tup er) isi_tuple ?_
      walk_at "go"
      refine rd_match ?_
      walk_at "go"
      cases al with
      | nil =>
        walk_at "pq"
        walk_at "pq"
        refine rd_cnil ?_
        walk_at "go"
        exact k _ (Fr.refl _ _)
      | @cons p1 l1 v1 vs1 a1 al =>
        have s1 := hs.mem (p := p1) (by simp)
        cases al with
        | nil =>
          walk_at "pq"
          walk_at "pq"
          refine rd_cnil ?_
          walk_at "go"
          exact k _ (Fr.refl _ _)
        | @cons p2 l2 v2 vs2 a2 al =>
          cases al with
          | nil =>
            walk_at "pq"
            walk_at "pq"
            refine rd_pstrP a1 s1 (by decide +kernel) (fun e => ?_) (fun e => ?_)
            · walk_at "pr"
              walk_at "go"
              refine ⟨p2, v2, rfl, a2, fun H' f => ?_⟩
              have z : mkB (.tup [p1, p2]) = rowB p2 := by show (p1.isS "row" && rowB p2) = _; rw [e, Bool.true_and]
              rw [z] at k
              exact k _ f
            · walk_at "pr"
              refine rd_cnil ?_
              walk_at "go"
              have z : mkB (.tup [p1, p2]) = false := by show (p1.isS "row" && rowB p2) = _; rw [e, Bool.false_and]
              rw [z] at k
              exact k _ (Fr.refl _ _)
          | @cons p3 l3 v3 vs3 a3 al =>
            cases al with
            | nil =>
              walk_at "pq"
              refine rd_pstrP a1 s1 (by decide +kernel) (fun e => ?_) (fun e => ?_)
              · have z : mkB (.tup [p1, p2, p3]) = (numB p2 && numB p3) := by show (p1.isS "count" && _) = _; rw [e, Bool.true_and]
                rw [z] at k
                walk_at "pr"
                walk_at "go"
                refine ⟨p2, v2, rfl, a2, ?_⟩
                walk_at "go"
                refine rd_b (fun e2 => ?_) (fun e2 => ?_)
                · walk_at "go"
                  refine ⟨p3, v3, rfl, a3, ?_⟩
                  rw [e2, Bool.true_and] at k
                  exact k _ (Fr.refl _ _)
                · rw [e2, Bool.false_and] at k
                  exact k _ (Fr.refl _ _)
              · walk_at "pr"
                walk_at "pq"
                refine rd_cnil ?_
                walk_at "go"
                have z : mkB (.tup [p1, p2, p3]) = false := by show (p1.isS "count" && _) = _; rw [e, Bool.false_and]
                rw [z] at k
                exact k _ (Fr.refl _ _)
            | @cons p4 l4 v4 vs4 a4 al =>
              walk_at "pq"
              walk_at "pq"
              refine rd_cnil ?_
              walk_at "go"
              exact k _ (Fr.refl _ _)
end
end Dc

set_option Elab.async false
set_option linter.all false
set_option maxRecDepth 100000
set_option maxHeartbeats 4000000
namespace Dc
open PySem PySem.Spec PyProof.Rows L2
local macro_rules | `(tactic| walk_at "ne") => `(tactic| first | assumption | (refine Ne.symm ?_; assumption) | exact ne_of (by assumption) (by assumption) (by intro q; cases q) | exact ne_of_none (by assumption) (by assumption) | exact Ne.symm (ne_of_none (by assumption) (by assumption)))
local macro_rules | `(tactic| walk_at "hp") => `(tactic| first | assumption | exact upd_same | (refine upd_keep ?_ (by assumption); walk_at "hp") | (refine upd_other ?_ ?_; · walk_at "ne"; · walk_at "hp"))
local macro_rules | `(tactic| walk_at "hl") => `(tactic| first | assumption | exact SqL.of (by walk_at "hp"))
local macro_rules | `(tactic| walk_at "ht") => `(tactic| first | assumption | exact SqT.of (by walk_at "hp"))
local macro_rules | `(tactic| walk_at "rd1") => `(tactic| first
  | ((with_reducible apply rd_var); exact rfl)
  | ((with_reducible apply rd_eq); exact rfl) | ((with_reducible apply rd_ne); exact rfl)
  | with_reducible first
  | refine iteT ?_ | refine iteF ?_ | refine rd_nF ?_ | refine rd_nT ?_ | refine rd_yes ?_ | refine rd_c ?_ | refine rd_op ?_ | refine rd_un ?_ | refine rd_test ?_ | refine rd_B ?_ | refine rd_bl ?_ | refine rd_seq ?_ | refine rd_next ?_ | refine rd_ifs ?_ | refine rd_asg ?_ | refine rd_name ?_ | refine rd_ret ?_ | refine rd_drop ?_
  | refine rd_call ?_ | refine rd_cons ?_ | refine rd_nil ?_ | refine rd_cb ?_ | refine rd_I0 ?_ | refine rd_U ?_ | refine rd_gsub ?_ | refine rd_lst ?_ | refine rd_tup ?_ | refine rd_if ?_ | refine rd_not ?_ | refine rd_rng1 ?_ | refine rd_itup ?_ | refine rd_ilst ?_ | refine rd_bm ?_ | refine rd_bm0 ?_ | refine rd_andV ?_ | refine rd_orV ?_ | refine rd_notV ?_)
local macro_rules | `(tactic| walk_at "rd") => `(tactic| repeat walk_at "rd1")
local macro_rules | `(tactic| walk_at "ci") => `(tactic| first | assumption | (show (0 : Int) < _; first | decide | omega) | exact ⟨by decide, by decide⟩ | exact Or.inr ⟨by decide, by decide⟩ | exact Or.inl ⟨by decide, by decide⟩ | exact ⟨by decide, by decide, by decide⟩ | exact Or.inl ⟨by omega, by omega⟩ | exact Or.inr ⟨by omega, by omega⟩)
local macro_rules | `(tactic| walk_at "ix") => `(tactic| first
  | ((with_reducible apply rd_ixL); (walk_at "hl"); exact rfl)
  | ((with_reducible apply rd_ixT); (walk_at "ht"); exact rfl)
  | ((with_reducible apply rd_lenL); (walk_at "hl"))
  | ((with_reducible apply rd_lenT); (walk_at "ht"))
  | ((with_reducible apply rd_tupOf); (walk_at "hl"))
  | ((with_reducible apply rd_listOf); (walk_at "hl"))
  | (with_reducible refine rd_min2 ?_)
  | ((with_reducible apply rd_I); (walk_at "ci"))
  | ((with_reducible apply rd_setL); (walk_at "hp"); exact rfl))
local macro_rules | `(tactic| walk_at "gs") => `(tactic| repeat first | walk_at "rd1" | walk_at "ix")
local macro_rules | `(tactic| walk_at "go") => `(tactic| repeat first | walk_at "rd1" | walk_at "ix" | with_reducible refine rd_and ?_ | with_reducible refine rd_or ?_)
local macro_rules | `(tactic| walk_at "fo") => `(tactic| (with_reducible refine rd_for ?_))
local macro_rules | `(tactic| walk_at "pm") => `(tactic| repeat first
  | with_reducible first | refine rd_pcons ?_ | refine rd_pstr ?_ | refine rd_pcap ?_ | refine rd_pwild ?_ | refine rd_pnil ?_ | refine rd_por ?_ | refine rd_pno ?_
  | ((with_reducible refine rd_eq rfl ?_); refine ⟨_, rfl, ?_⟩; first | refine rd_T rfl ?_ | refine rd_F (by decide) ?_)
  | dsimp only [List.nil_append, List.singleton_append, List.cons_append, setAll])
local macro_rules | `(tactic| walk_at "pc") => `(tactic| (refine rd_case ?_); (first | (refine rd_phit (SqT.of (by assumption)) rfl ?_) | (refine rd_pmiss (SqT.of (by assumption)) (by simp) ?_)); (walk_at "pm"))

local macro_rules | `(tactic| walk_at "pq") => `(tactic| (refine rd_case ?_); (first | (refine rd_phit (SqT.of (by assumption)) rfl ?_) | (refine rd_pmiss (SqT.of (by assumption)) (by simp) ?_)); (repeat first
  | with_reducible first | refine rd_pcons ?_ | refine rd_pcap ?_ | refine rd_pwild ?_ | refine rd_pnil ?_ | refine rd_por ?_ | refine rd_pno ?_
  | dsimp only [List.nil_append, List.singleton_append, List.cons_append, setAll]))
local macro_rules | `(tactic| walk_at "pr") => `(tactic| (repeat first
  | with_reducible first | refine rd_pcons ?_ | refine rd_pcap ?_ | refine rd_pwild ?_ | refine rd_pnil ?_ | refine rd_por ?_ | refine rd_pno ?_
  | dsimp only [List.nil_append, List.singleton_append, List.cons_append, setAll]))
theorem isS_ne {p : PV} {x y : Str} (h : p.isS x = true) (n : x ≠ y) : p.isS y = false := by
  cases p with
  | int i => rfl
  | tup l => rfl
  | str t =>
    have e : t = x := of_decide_eq_true h
    exact decide_eq_false (by rw [e]; exact n)
theorem stB2_num {a x : PV} (h : a.isS "add" = true ∨ a.isS "times" = true ∨ a.isS "until" = true) : stB (.tup [a, x]) = numB x := if_pos h
theorem stB2_low {a x : PV} (h : a.isS "drop" = true ∨ a.isS "take" = true) : stB (.tup [a, x]) = withinB x 0 100 := by
  refine (if_neg ?_).trans (if_pos h)
  rcases h with h | h
  · rw [isS_ne h (by decide : ("drop" : Str) ≠ "add"), isS_ne h (by decide : ("drop" : Str) ≠ "times"), isS_ne h (by decide : ("drop" : Str) ≠ "until")]; simp
  · rw [isS_ne h (by decide : ("take" : Str) ≠ "add"), isS_ne h (by decide : ("take" : Str) ≠ "times"), isS_ne h (by decide : ("take" : Str) ≠ "until")]; simp
theorem stB2_each {a x : PV} (h : a.isS "each" = true) : stB (.tup [a, x]) = withinB x 1 10 := by
  refine (if_neg ?_).trans ((if_neg ?_).trans (if_pos h))
  · rw [isS_ne h (by decide : ("each" : Str) ≠ "add"), isS_ne h (by decide : ("each" : Str) ≠ "times"), isS_ne h (by decide : ("each" : Str) ≠ "until")]; simp
  · rw [isS_ne h (by decide : ("each" : Str) ≠ "drop"), isS_ne h (by decide : ("each" : Str) ≠ "take")]; simp
theorem stB2_rest {a x : PV} (h1 : a.isS "add" = false) (h2 : a.isS "times" = false) (h3 : a.isS "until" = false) (h4 : a.isS "drop" = false) (h5 : a.isS "take" = false) (h6 : a.isS "each" = false) : stB (.tup [a, x]) = (a.isS "both" || a.isS "then") :=
  (if_neg (by rw [h1, h2, h3]; simp)).trans ((if_neg (by rw [h4, h5]; simp)).trans (if_neg (by rw [h6]; simp)))
theorem within_val {p : PV} {lo hi : Int} (h : withinB p lo hi = true) : p = .int p.val ∧ lo ≤ p.val ∧ p.val ≤ hi ∧ numOk p.val := by
  cases p with
  | int i =>
    have h : (numB (.int i) && (decide (lo ≤ i) && decide (i ≤ hi))) = true := h
    rw [Bool.and_eq_true, Bool.and_eq_true] at h
    have h1 : (decide (-(10 ^ 30) < i) && decide (i < 10 ^ 30)) = true := h.1
    rw [Bool.and_eq_true] at h1
    exact ⟨rfl, of_decide_eq_true h.2.1, of_decide_eq_true h.2.2, of_decide_eq_true h1.1, of_decide_eq_true h1.2⟩
  | str s => cases h
  | tup l => cases h
theorem isS_str {q : PV} {x : Str} (h : q.isS x = true) : q = .str x := by
  cases q with
  | int i => cases h
  | tup l => cases h
  | str t => rw [show t = x from of_decide_eq_true h]
theorem inV_bt (t : Str) : inV (.str t) [.str "both", .str "then"] = ((PV.str t).isS "both" || (PV.str t).isS "then") := by
  by_cases c : t = "both"
  · subst c; decide +kernel
  · by_cases d : t = "then"
    · subst d; decide +kernel
    · rw [show (PV.str t).isS "both" = false from decide_eq_false c, show (PV.str t).isS "then" = false from decide_eq_false d]
      simp only [inV, List.any_cons, List.any_nil, Bool.or_false, Bool.or_eq_false_iff]
      refine ⟨?_, ?_⟩ <;> simp [eqV, Ne.symm c, Ne.symm d, c, d]
theorem isSome_ite {α : Type} {x : α} {a b : Bool} : (if a = true ∨ b = true then some x else none).isSome = (a || b) := by
  cases a <;> cases b <;> rfl
theorem stB_head {p : PV} (h : stB p = true) : ∃ t l, p = .tup (.str t :: l) ∧ inV (.str t) [.str "both", .str "then"] = p.sub.isSome := by
  match p, h with
  | .tup [a], h =>
    have e : a = .str "unlike" := isS_str h
    subst e
    exact ⟨_, _, rfl, by decide +kernel⟩
  | .tup [a, x], h =>
    cases a with
    | int i => exact (Bool.false_ne_true h).elim
    | tup l => exact (Bool.false_ne_true h).elim
    | str t => exact ⟨t, [x], rfl, (inV_bt t).trans isSome_ite.symm⟩
  | .tup [a, r, w], h =>
    have h : (a.isS "keep" && _) = true := h
    rw [Bool.and_eq_true] at h
    have e : a = .str "keep" := isS_str h.1
    subst e
    exact ⟨_, _, rfl, (inV_bt _).trans (show _ = false by decide +kernel)⟩
section
variable {P : Program} {w : World} {K : PySem.W.Frag} {mg : Str → Option Value} {base : Heap} {f : Addr} {fd : FuncData}
theorem okv_is_stage (T : Txt K mg) (F : FnP K "is_stage" "is_stage" s_is_stage f fd) (G_is_number : Cal P w K mg base CX0 1 "is_number" ["number"] spNumV) (G_is_within : Cal P w K mg base CX0 2 "is_within" ["number", "low", "high"] spWithinV) : FnOk P w K mg base CX0 3 f fd ["stage"] spStageV := by
  refine ok0 F sc_is_stage (fun vs H Q E h => ?_) (fun cdv A outer s H vs Q E hr h => ?_)
  · obtain ⟨p, v, rfl, _⟩ := h
    rfl
  · obtain ⟨p, v, rfl, hv, hs, k⟩ := h
    have hu64 := hr.units
    refine ⟨_, (pss_cons (ps_if (pt_not (pt_val (pe_callB (call_isiK1 K) (by rfl) T.free_isinstance (by decide +kernel) (pa_cons (pv 0) (pa_cons (pe_bltn (v := .ty "tuple") (u := .type "tuple") (by rfl) T.free_tuple (by decide +kernel) rfl) pa_nil)))))
    (pss_one (ps_ret pe_bl)) pss_nil)
  (pss_cons (ps_match (pv 0)
    (pc_cons (is := [1]) sc_is_stage.nd (pat_seq rfl (pp_cons (pat_or (pf_cons (pat_str (op_eqBK K hu64)) (pf_cons (pat_str (op_eqBK K hu64)) (pf_cons (pat_str (op_eqBK K hu64)) pf_nil)))) (pp_cons pat_cap pp_nil))) rfl (all_local (by rfl))
      (pss_one (ps_ret (pe_cal G_is_number (hr.mono (by omega)) pass0 (pa_cons (pv 1) pa_nil))))
    (pc_cons (is := [2, 3]) sc_is_stage.nd (pat_seq rfl (pp_cons (pat_str (op_eqBK K hu64)) (pp_cons pat_cap (pp_cons pat_cap pp_nil)))) rfl (all_local (by rfl))
      (pss_one (ps_ret (pe_and (pe_cal G_is_within (hr.mono (by omega)) pass0 (pa_cons (pv 3) (pa_cons pe_int (pa_cons pe_int pa_nil)))) (pe_one (pe_cal G_is_within (hr.mono (by omega)) pass0 (pa_cons (pv 2) (pa_cons pe_int (pa_cons (pe_op op_sub (pv 3) pe_int) pa_nil))))))))
    (pc_cons (is := [4]) sc_is_stage.nd (pat_seq rfl (pp_cons (pat_or (pf_cons (pat_str (op_eqBK K hu64)) (pf_cons (pat_str (op_eqBK K hu64)) pf_nil))) (pp_cons pat_cap pp_nil))) rfl (all_local (by rfl))
      (pss_one (ps_ret (pe_cal G_is_within (hr.mono (by omega)) pass0 (pa_cons (pv 4) (pa_cons pe_int (pa_cons pe_int pa_nil))))))
    (pc_cons (is := [4]) sc_is_stage.nd (pat_seq rfl (pp_cons (pat_str (op_eqBK K hu64)) (pp_cons pat_cap pp_nil))) rfl (all_local (by rfl))
      (pss_one (ps_ret (pe_cal G_is_within (hr.mono (by omega)) pass0 (pa_cons (pv 4) (pa_cons pe_int (pa_cons pe_int pa_nil))))))
    (pc_cons (is := []) sc_is_stage.nd (pat_seq rfl (pp_cons (pat_str (op_eqBK K hu64)) pp_nil)) rfl (all_local (by rfl))
      (pss_one (ps_ret pe_bl))
    (pc_cons (is := []) sc_is_stage.nd (pat_seq rfl (pp_cons (pat_or (pf_cons (pat_str (op_eqBK K hu64)) (pf_cons (pat_str (op_eqBK K hu64)) pf_nil))) (pp_cons pat_wild pp_nil))) rfl (all_local (by rfl))
      (pss_one (ps_ret pe_bl))
    pc_nil)))))))
  (pss_one (ps_ret pe_bl)))), ?_⟩
    try dsimp only [cxOf, Cx.nox, Cx.wish]
    refine rd_at (σ' := [some v] ++ List.replicate (["stage", "n", "rest", "wheel", "many"].length - 1) none) rfl ?_
    cases hv with
    | int i =>
      walk_at "go"
      refine rd_isi tyx_int isiP_it ?_
      walk_at "go"
      exact k
    | str s =>
      walk_at "go"
      refine rd_isi (.base (.str _)) isiP_st ?_
      walk_at "go"
      exact k
    | @tup a vs l er al =>
      walk_at "go"
      refine rd_isi (tyx_tup er) isi_tuple ?_
      walk_at "go"
      refine rd_match ?_
      walk_at "go"
      cases al with
      | nil =>
        repeat walk_at "pq"
        refine rd_cnil ?_
        walk_at "go"
        exact k
      | @cons p1 l1 v1 vs1 a1 al =>
        have s1 := hs.mem (p := p1) (by simp)
        cases al with
        | nil =>
          walk_at "pq"
          walk_at "pq"
          walk_at "pq"
          walk_at "pq"
          walk_at "pq"
          refine rd_pstrP a1 s1 (by decide +kernel) (fun e => ?_) (fun e => ?_)
          · walk_at "pr"
            walk_at "go"
            have z : stB (.tup [p1]) = true := e
            rw [z] at k
            exact k
          · walk_at "pr"
            walk_at "pq"
            refine rd_cnil ?_
            walk_at "go"
            have z : stB (.tup [p1]) = false := e
            rw [z] at k
            exact k
        | @cons p2 l2 v2 vs2 a2 al =>
          cases al with
          | nil =>
            walk_at "pq"
            refine rd_pstrP a1 s1 (by decide +kernel) (fun e1 => ?_) (fun e1 => ?_)
            · walk_at "pr"
              walk_at "go"
              refine ⟨p2, v2, rfl, a2, ?_⟩
              rw [stB2_num (.inl e1)] at k
              exact k
            walk_at "pr"
            refine rd_pstrP a1 s1 (by decide +kernel) (fun e2 => ?_) (fun e2 => ?_)
            · walk_at "pr"
              walk_at "go"
              refine ⟨p2, v2, rfl, a2, ?_⟩
              rw [stB2_num (.inr (.inl e2))] at k
              exact k
            walk_at "pr"
            refine rd_pstrP a1 s1 (by decide +kernel) (fun e3 => ?_) (fun e3 => ?_)
            · walk_at "pr"
              walk_at "go"
              refine ⟨p2, v2, rfl, a2, ?_⟩
              rw [stB2_num (.inr (.inr e3))] at k
              exact k
            walk_at "pr"
            walk_at "pq"
            walk_at "pq"
            refine rd_pstrP a1 s1 (by decide +kernel) (fun e4 => ?_) (fun e4 => ?_)
            · walk_at "pr"
              walk_at "go"
              refine ⟨p2, v2, 0, 100, rfl, a2, ?_⟩
              rw [stB2_low (.inl e4)] at k
              exact k
            walk_at "pr"
            refine rd_pstrP a1 s1 (by decide +kernel) (fun e5 => ?_) (fun e5 => ?_)
            · walk_at "pr"
              walk_at "go"
              refine ⟨p2, v2, 0, 100, rfl, a2, ?_⟩
              rw [stB2_low (.inr e5)] at k
              exact k
            walk_at "pr"
            walk_at "pq"
            refine rd_pstrP a1 s1 (by decide +kernel) (fun e6 => ?_) (fun e6 => ?_)
            · walk_at "pr"
              walk_at "go"
              refine ⟨p2, v2, 1, 10, rfl, a2, ?_⟩
              rw [stB2_each e6] at k
              exact k
            walk_at "pr"
            walk_at "pq"
            walk_at "pq"
            rw [stB2_rest e1 e2 e3 e4 e5 e6] at k
            refine rd_pstrP a1 s1 (by decide +kernel) (fun e7 => ?_) (fun e7 => ?_)
            · walk_at "pr"
              walk_at "go"
              rw [e7, Bool.true_or] at k
              exact k
            walk_at "pr"
            refine rd_pstrP a1 s1 (by decide +kernel) (fun e8 => ?_) (fun e8 => ?_)
            · walk_at "pr"
              walk_at "go"
              rw [e8, Bool.or_true] at k
              exact k
            walk_at "pr"
            refine rd_cnil ?_
            walk_at "go"
            rw [e7, e8] at k
            exact k
          | @cons p3 l3 v3 vs3 a3 al =>
            cases al with
            | nil =>
              walk_at "pq"
              walk_at "pq"
              refine rd_pstrP a1 s1 (by decide +kernel) (fun e => ?_) (fun e => ?_)
              · have z : stB (.tup [p1, p2, p3]) = (withinB p3 2 1000 && withinB p2 0 (p3.val - 1)) := by show (p1.isS "keep" && _) = _; rw [e, Bool.true_and]
                rw [z] at k
                walk_at "pr"
                walk_at "go"
                refine ⟨p3, v3, 2, 1000, rfl, a3, ?_⟩
                walk_at "go"
                refine rd_b (fun e2 => ?_) (fun e2 => ?_)
                · obtain ⟨q1, q2, q3, _⟩ := within_val e2
                  rw [e2, Bool.true_and] at k
                  rw [q1] at a3
                  cases a3
                  walk_at "go"
                  exact ⟨p2, v2, 0, p3.val - 1, rfl, a2, k⟩
                · rw [e2, Bool.false_and] at k
                  exact k
              · walk_at "pr"
                repeat walk_at "pq"
                refine rd_cnil ?_
                walk_at "go"
                have z : stB (.tup [p1, p2, p3]) = false := by show (p1.isS "keep" && _) = _; rw [e, Bool.false_and]
                rw [z] at k
                exact k
            | @cons p4 l4 v4 vs4 a4 al =>
              repeat walk_at "pq"
              refine rd_cnil ?_
              walk_at "go"
              exact k
theorem okv_has_chain (T : Txt K mg) (F : FnP K "has_chain" "has_chain" s_has_chain f fd) : FnOk P w K mg base CX0 1 f fd ["stage"] spHasV := by
  refine ok0 F sc_has_chain (fun vs H Q E h => ?_) (fun cdv A outer s H vs Q E hr h => ?_)
  · obtain ⟨p, v, rfl, _⟩ := h
    rfl
  · obtain ⟨p, v, rfl, hv, hst, k⟩ := h
    refine ⟨_, (pss_one (ps_ret (pe_cmpR (op_in_seqK K) (pe_ix (ix_tupK K) (pv 0) pe_int (fun _ _ => rfl)) (pe_tup (pa_cons pe_str (pa_cons pe_str pa_nil))) (by rfl)))), ?_⟩
    try dsimp only [cxOf, Cx.nox, Cx.wish]
    refine rd_at (σ' := [some v]) rfl ?_
    obtain ⟨a, vs, t, rfl, ev, e0, hb⟩ : ∃ (a : Addr) (vs : List V) (t : Str), v = .ref a ∧ H a = some (.tup vs) ∧ atI vs 0 = some (.str t) ∧ inV (.str t) [.str "both", .str "then"] = p.sub.isSome := by
      obtain ⟨t, l, rfl, h⟩ := stB_head hst
      cases hv with
      | @tup a vs _ er al =>
        cases al with
        | @cons p1 l1 v1 vs1 a1 al =>
          cases a1
          exact ⟨a, _, t, rfl, er, atI_nat (xs := .str t :: vs1) (j := 0) rfl, h⟩
    walk_at "go"
    refine rd_ixT (SqT.of ev) e0 ?_
    walk_at "go"
    refine ⟨by show 2 ≤ sizeLine; decide, fun q hq => ?_⟩
    refine ⟨q, _, rfl, .inr (SqT.of upd_same), rfl, rfl, ?_⟩
    rw [if_neg (by decide), hb]
    exact k _ (Fr.new hq)
theorem okv_is_pair (T : Txt K mg) (F : FnP K "is_pair" "is_pair" s_is_pair f fd) : FnOk P w K mg base CX0 1 f fd ["part"] spPairV := by
  refine ok0 F sc_is_pair (fun vs H Q E h => ?_) (fun cdv A outer s H vs Q E hr h => ?_)
  · obtain ⟨p, v, rfl, _⟩ := h
    rfl
  · obtain ⟨p, v, rfl, hv, k⟩ := h
    refine ⟨_, (pss_one (ps_ret (pe_and (pe_callB (call_isiK1 K) (by rfl) T.free_isinstance (by decide +kernel) (pa_cons (pv 0) (pa_cons (pe_bltn (v := .ty "tuple") (u := .type "tuple") (by rfl) T.free_tuple (by decide +kernel) rfl) pa_nil))) (pe_and (pe_cmpR op_eq (pe_callB (call_len1K K) (by rfl) T.free_len (by decide +kernel) (pa_cons (pv 0) pa_nil)) pe_int (nomark _)) (pe_one (pe_callB (call_isiK1 K) (by rfl) T.free_isinstance (by decide +kernel) (pa_cons (pe_ix (ix_tupK K) (pv 0) pe_int (fun _ _ => rfl)) (pa_cons (pe_bltn (v := .ty "tuple") (u := .type "tuple") (by rfl) T.free_tuple (by decide +kernel) rfl) pa_nil)))))))), ?_⟩
    try dsimp only [cxOf, Cx.nox, Cx.wish]
    refine rd_at (σ' := [some v]) rfl ?_
    cases hv with
    | int i =>
      walk_at "go"
      refine rd_isi tyx_int isiP_it ?_
      walk_at "go"
      exact k
    | str s =>
      walk_at "go"
      refine rd_isi (.base (.str _)) isiP_st ?_
      walk_at "go"
      exact k
    | @tup a vs l er al =>
      have hl := al.len
      walk_at "go"
      refine rd_isi (tyx_tup er) isi_tuple ?_
      walk_at "go"
      refine rd_dec (fun c1 => ?_) (fun c1 => ?_)
      · have l2 : l.length = 2 := by have := V.int.inj c1; omega
        match l, vs, al, l2 with
        | [p1, p2], _, .cons a1 (.cons a2 .nil), _ =>
          walk_at "go"
          cases a2 with
          | int i =>
            refine rd_isi tyx_int isiP_it ?_
            exact k
          | str s =>
            refine rd_isi (.base (.str _)) isiP_st ?_
            exact k
          | tup e2 _ =>
            refine rd_isi (tyx_tup e2) isi_tuple ?_
            exact k
      · have e : (PV.tup l).pair = false := by
          match l, vs, al, hl with
          | [], _, _, _ => rfl
          | [_], _, _, _ => rfl
          | [_, _], vs, _, hl => exact absurd (by rw [hl]; rfl) c1
          | _ :: p2 :: _ :: _, _, _, _ => cases p2 <;> rfl
        rw [e] at k
        exact k
end
end Dc

set_option Elab.async false
set_option linter.all false
set_option maxRecDepth 100000
set_option maxHeartbeats 4000000
namespace Dc
open PySem PySem.Spec PyProof.Rows L2
local macro_rules | `(tactic| walk_at "ne") => `(tactic| first | assumption | (refine Ne.symm ?_; assumption) | exact ne_of (by assumption) (by assumption) (by intro q; cases q) | exact ne_of_none (by assumption) (by assumption) | exact Ne.symm (ne_of_none (by assumption) (by assumption)))
local macro_rules | `(tactic| walk_at "hp") => `(tactic| first | assumption | exact upd_same | (refine upd_keep ?_ (by assumption); walk_at "hp") | (refine upd_other ?_ ?_; · walk_at "ne"; · walk_at "hp"))
local macro_rules | `(tactic| walk_at "hl") => `(tactic| first | assumption | exact SqL.of (by walk_at "hp"))
local macro_rules | `(tactic| walk_at "ht") => `(tactic| first | assumption | exact SqT.of (by walk_at "hp"))
local macro_rules | `(tactic| walk_at "rd1") => `(tactic| first
  | ((with_reducible apply rd_var); exact rfl)
  | ((with_reducible apply rd_eq); exact rfl) | ((with_reducible apply rd_ne); exact rfl)
  | with_reducible first
  | refine iteT ?_ | refine iteF ?_ | refine rd_nF ?_ | refine rd_nT ?_ | refine rd_yes ?_ | refine rd_c ?_ | refine rd_op ?_ | refine rd_un ?_ | refine rd_test ?_ | refine rd_B ?_ | refine rd_bl ?_ | refine rd_seq ?_ | refine rd_next ?_ | refine rd_ifs ?_ | refine rd_asg ?_ | refine rd_name ?_ | refine rd_ret ?_ | refine rd_drop ?_
  | refine rd_call ?_ | refine rd_cons ?_ | refine rd_nil ?_ | refine rd_cb ?_ | refine rd_I0 ?_ | refine rd_U ?_ | refine rd_gsub ?_ | refine rd_lst ?_ | refine rd_tup ?_ | refine rd_if ?_ | refine rd_not ?_ | refine rd_rng1 ?_ | refine rd_itup ?_ | refine rd_ilst ?_ | refine rd_bm ?_ | refine rd_bm0 ?_ | refine rd_andV ?_ | refine rd_orV ?_ | refine rd_notV ?_)
local macro_rules | `(tactic| walk_at "rd") => `(tactic| repeat walk_at "rd1")
local macro_rules | `(tactic| walk_at "ci") => `(tactic| first | assumption | (show (0 : Int) < _; first | decide | omega) | exact ⟨by decide, by decide⟩ | exact Or.inr ⟨by decide, by decide⟩ | exact Or.inl ⟨by decide, by decide⟩ | exact ⟨by decide, by decide, by decide⟩ | exact Or.inl ⟨by omega, by omega⟩ | exact Or.inr ⟨by omega, by omega⟩)
local macro_rules | `(tactic| walk_at "ix") => `(tactic| first
  | ((with_reducible apply rd_ixL); (walk_at "hl"); exact rfl)
  | ((with_reducible apply rd_ixT); (walk_at "ht"); exact rfl)
  | ((with_reducible apply rd_lenL); (walk_at "hl"))
  | ((with_reducible apply rd_lenT); (walk_at "ht"))
  | ((with_reducible apply rd_tupOf); (walk_at "hl"))
  | ((with_reducible apply rd_listOf); (walk_at "hl"))
  | (with_reducible refine rd_min2 ?_)
  | ((with_reducible apply rd_I); (walk_at "ci"))
  | ((with_reducible apply rd_setL); (walk_at "hp"); exact rfl))
local macro_rules | `(tactic| walk_at "gs") => `(tactic| repeat first | walk_at "rd1" | walk_at "ix")
local macro_rules | `(tactic| walk_at "go") => `(tactic| repeat first | walk_at "rd1" | walk_at "ix" | with_reducible refine rd_and ?_ | with_reducible refine rd_or ?_)
local macro_rules | `(tactic| walk_at "fo") => `(tactic| (with_reducible refine rd_for ?_))
local macro_rules | `(tactic| walk_at "pm") => `(tactic| repeat first
  | with_reducible first | refine rd_pcons ?_ | refine rd_pstr ?_ | refine rd_pcap ?_ | refine rd_pwild ?_ | refine rd_pnil ?_ | refine rd_por ?_ | refine rd_pno ?_
  | ((with_reducible refine rd_eq rfl ?_); refine ⟨_, rfl, ?_⟩; first | refine rd_T rfl ?_ | refine rd_F (by decide) ?_)
  | dsimp only [List.nil_append, List.singleton_append, List.cons_append, setAll])
local macro_rules | `(tactic| walk_at "pc") => `(tactic| (refine rd_case ?_); (first | (refine rd_phit (SqT.of (by assumption)) rfl ?_) | (refine rd_pmiss (SqT.of (by assumption)) (by simp) ?_)); (walk_at "pm"))

local macro_rules | `(tactic| walk_at "pq") => `(tactic| (refine rd_case ?_); (first | (refine rd_phit (SqT.of (by assumption)) rfl ?_) | (refine rd_pmiss (SqT.of (by assumption)) (by simp) ?_)); (repeat first
  | with_reducible first | refine rd_pcons ?_ | refine rd_pcap ?_ | refine rd_pwild ?_ | refine rd_pnil ?_ | refine rd_por ?_ | refine rd_pno ?_
  | dsimp only [List.nil_append, List.singleton_append, List.cons_append, setAll]))
local macro_rules | `(tactic| walk_at "pr") => `(tactic| (repeat first
  | with_reducible first | refine rd_pcons ?_ | refine rd_pcap ?_ | refine rd_pwild ?_ | refine rd_pnil ?_ | refine rd_por ?_ | refine rd_pno ?_
  | dsimp only [List.nil_append, List.singleton_append, List.cons_append, setAll]))
/-- what a stage begins with can be laid out -/
def PV.h0 (p : PV) : Prop := ∀ q l, p = .tup (q :: l) → q.shp
def spStageH : Sp := fun vs H Q _ => ∃ (p : PV) (v : V), vs = [v] ∧ PVAt H p v ∧ p.h0 ∧ Q (.bl (stB p)) H
section
variable {P : Program} {w : World} {K : PySem.W.Frag} {mg : Str → Option Value} {base : Heap} {f : Addr} {fd : FuncData}
theorem okz_is_stage (T : Txt K mg) (F : FnP K "is_stage" "is_stage" s_is_stage f fd) (G_is_number : Cal P w K mg base CX0 1 "is_number" ["number"] spNumV) (G_is_within : Cal P w K mg base CX0 2 "is_within" ["number", "low", "high"] spWithinV) : FnOk P w K mg base CX0 3 f fd ["stage"] spStageH := by
  refine ok0 F sc_is_stage (fun vs H Q E h => ?_) (fun cdv A outer s H vs Q E hr h => ?_)
  · obtain ⟨p, v, rfl, _⟩ := h
    rfl
  · obtain ⟨p, v, rfl, hv, hs, k⟩ := h
    have hu64 := hr.units
    refine ⟨_, (pss_cons (ps_if (pt_not (pt_val (pe_callB (call_isiK1 K) (by rfl) T.free_isinstance (by decide +kernel) (pa_cons (pv 0) (pa_cons (pe_bltn (v := .ty "tuple") (u := .type "tuple") (by rfl) T.free_tuple (by decide +kernel) rfl) pa_nil)))))
    (pss_one (ps_ret pe_bl)) pss_nil)
  (pss_cons (ps_match (pv 0)
    (pc_cons (is := [1]) sc_is_stage.nd (pat_seq rfl (pp_cons (pat_or (pf_cons (pat_str (op_eqBK K hu64)) (pf_cons (pat_str (op_eqBK K hu64)) (pf_cons (pat_str (op_eqBK K hu64)) pf_nil)))) (pp_cons pat_cap pp_nil))) rfl (all_local (by rfl))
      (pss_one (ps_ret (pe_cal G_is_number (hr.mono (by omega)) pass0 (pa_cons (pv 1) pa_nil))))
    (pc_cons (is := [2, 3]) sc_is_stage.nd (pat_seq rfl (pp_cons (pat_str (op_eqBK K hu64)) (pp_cons pat_cap (pp_cons pat_cap pp_nil)))) rfl (all_local (by rfl))
      (pss_one (ps_ret (pe_and (pe_cal G_is_within (hr.mono (by omega)) pass0 (pa_cons (pv 3) (pa_cons pe_int (pa_cons pe_int pa_nil)))) (pe_one (pe_cal G_is_within (hr.mono (by omega)) pass0 (pa_cons (pv 2) (pa_cons pe_int (pa_cons (pe_op op_sub (pv 3) pe_int) pa_nil))))))))
    (pc_cons (is := [4]) sc_is_stage.nd (pat_seq rfl (pp_cons (pat_or (pf_cons (pat_str (op_eqBK K hu64)) (pf_cons (pat_str (op_eqBK K hu64)) pf_nil))) (pp_cons pat_cap pp_nil))) rfl (all_local (by rfl))
      (pss_one (ps_ret (pe_cal G_is_within (hr.mono (by omega)) pass0 (pa_cons (pv 4) (pa_cons pe_int (pa_cons pe_int pa_nil))))))
    (pc_cons (is := [4]) sc_is_stage.nd (pat_seq rfl (pp_cons (pat_str (op_eqBK K hu64)) (pp_cons pat_cap pp_nil))) rfl (all_local (by rfl))
      (pss_one (ps_ret (pe_cal G_is_within (hr.mono (by omega)) pass0 (pa_cons (pv 4) (pa_cons pe_int (pa_cons pe_int pa_nil))))))
    (pc_cons (is := []) sc_is_stage.nd (pat_seq rfl (pp_cons (pat_str (op_eqBK K hu64)) pp_nil)) rfl (all_local (by rfl))
      (pss_one (ps_ret pe_bl))
    (pc_cons (is := []) sc_is_stage.nd (pat_seq rfl (pp_cons (pat_or (pf_cons (pat_str (op_eqBK K hu64)) (pf_cons (pat_str (op_eqBK K hu64)) pf_nil))) (pp_cons pat_wild pp_nil))) rfl (all_local (by rfl))
      (pss_one (ps_ret pe_bl))
    pc_nil)))))))
  (pss_one (ps_ret pe_bl)))), ?_⟩
    try dsimp only [cxOf, Cx.nox, Cx.wish]
    refine rd_at (σ' := [some v] ++ List.replicate (["stage", "n", "rest", "wheel", "many"].length - 1) none) rfl ?_
    cases hv with
    | int i =>
      walk_at "go"
      refine rd_isi tyx_int isiP_it ?_
      walk_at "go"
      exact k
    | str s =>
      walk_at "go"
      refine rd_isi (.base (.str _)) isiP_st ?_
      walk_at "go"
      exact k
    | @tup a vs l er al =>
      walk_at "go"
      refine rd_isi (tyx_tup er) isi_tuple ?_
      walk_at "go"
      refine rd_match ?_
      walk_at "go"
      cases al with
      | nil =>
        repeat walk_at "pq"
        refine rd_cnil ?_
        walk_at "go"
        exact k
      | @cons p1 l1 v1 vs1 a1 al =>
        have s1 := hs p1 l1 rfl
        cases al with
        | nil =>
          walk_at "pq"
          walk_at "pq"
          walk_at "pq"
          walk_at "pq"
          walk_at "pq"
          refine rd_pstrP a1 s1 (by decide +kernel) (fun e => ?_) (fun e => ?_)
          · walk_at "pr"
            walk_at "go"
            have z : stB (.tup [p1]) = true := e
            rw [z] at k
            exact k
          · walk_at "pr"
            walk_at "pq"
            refine rd_cnil ?_
            walk_at "go"
            have z : stB (.tup [p1]) = false := e
            rw [z] at k
            exact k
        | @cons p2 l2 v2 vs2 a2 al =>
          cases al with
          | nil =>
            walk_at "pq"
            refine rd_pstrP a1 s1 (by decide +kernel) (fun e1 => ?_) (fun e1 => ?_)
            · walk_at "pr"
              walk_at "go"
              refine ⟨p2, v2, rfl, a2, ?_⟩
              rw [stB2_num (.inl e1)] at k
              exact k
            walk_at "pr"
            refine rd_pstrP a1 s1 (by decide +kernel) (fun e2 => ?_) (fun e2 => ?_)
            · walk_at "pr"
              walk_at "go"
              refine ⟨p2, v2, rfl, a2, ?_⟩
              rw [stB2_num (.inr (.inl e2))] at k
              exact k
            walk_at "pr"
            refine rd_pstrP a1 s1 (by decide +kernel) (fun e3 => ?_) (fun e3 => ?_)
            · walk_at "pr"
              walk_at "go"
              refine ⟨p2, v2, rfl, a2, ?_⟩
              rw [stB2_num (.inr (.inr e3))] at k
              exact k
            walk_at "pr"
            walk_at "pq"
            walk_at "pq"
            refine rd_pstrP a1 s1 (by decide +kernel) (fun e4 => ?_) (fun e4 => ?_)
            · walk_at "pr"
              walk_at "go"
              refine ⟨p2, v2, 0, 100, rfl, a2, ?_⟩
              rw [stB2_low (.inl e4)] at k
              exact k
            walk_at "pr"
            refine rd_pstrP a1 s1 (by decide +kernel) (fun e5 => ?_) (fun e5 => ?_)
            · walk_at "pr"
              walk_at "go"
              refine ⟨p2, v2, 0, 100, rfl, a2, ?_⟩
              rw [stB2_low (.inr e5)] at k
              exact k
            walk_at "pr"
            walk_at "pq"
            refine rd_pstrP a1 s1 (by decide +kernel) (fun e6 => ?_) (fun e6 => ?_)
            · walk_at "pr"
              walk_at "go"
              refine ⟨p2, v2, 1, 10, rfl, a2, ?_⟩
              rw [stB2_each e6] at k
              exact k
            walk_at "pr"
            walk_at "pq"
            walk_at "pq"
            rw [stB2_rest e1 e2 e3 e4 e5 e6] at k
            refine rd_pstrP a1 s1 (by decide +kernel) (fun e7 => ?_) (fun e7 => ?_)
            · walk_at "pr"
              walk_at "go"
              rw [e7, Bool.true_or] at k
              exact k
            walk_at "pr"
            refine rd_pstrP a1 s1 (by decide +kernel) (fun e8 => ?_) (fun e8 => ?_)
            · walk_at "pr"
              walk_at "go"
              rw [e8, Bool.or_true] at k
              exact k
            walk_at "pr"
            refine rd_cnil ?_
            walk_at "go"
            rw [e7, e8] at k
            exact k
          | @cons p3 l3 v3 vs3 a3 al =>
            cases al with
            | nil =>
              walk_at "pq"
              walk_at "pq"
              refine rd_pstrP a1 s1 (by decide +kernel) (fun e => ?_) (fun e => ?_)
              · have z : stB (.tup [p1, p2, p3]) = (withinB p3 2 1000 && withinB p2 0 (p3.val - 1)) := by show (p1.isS "keep" && _) = _; rw [e, Bool.true_and]
                rw [z] at k
                walk_at "pr"
                walk_at "go"
                refine ⟨p3, v3, 2, 1000, rfl, a3, ?_⟩
                walk_at "go"
                refine rd_b (fun e2 => ?_) (fun e2 => ?_)
                · obtain ⟨q1, q2, q3, _⟩ := within_val e2
                  rw [e2, Bool.true_and] at k
                  rw [q1] at a3
                  cases a3
                  walk_at "go"
                  exact ⟨p2, v2, 0, p3.val - 1, rfl, a2, k⟩
                · rw [e2, Bool.false_and] at k
                  exact k
              · walk_at "pr"
                repeat walk_at "pq"
                refine rd_cnil ?_
                walk_at "go"
                have z : stB (.tup [p1, p2, p3]) = false := by show (p1.isS "keep" && _) = _; rw [e, Bool.false_and]
                rw [z] at k
                exact k
            | @cons p4 l4 v4 vs4 a4 al =>
              repeat walk_at "pq"
              refine rd_cnil ?_
              walk_at "go"
              exact k
end
end Dc

set_option Elab.async false
set_option linter.all false
set_option maxRecDepth 100000
set_option maxHeartbeats 2000000
namespace Dc
open PySem PySem.Spec PyProof.Rows L2
local macro_rules | `(tactic| walk_at "ne") => `(tactic| first | assumption | (refine Ne.symm ?_; assumption) | exact ne_of (by assumption) (by assumption) (by intro q; cases q) | exact ne_of_none (by assumption) (by assumption) | exact Ne.symm (ne_of_none (by assumption) (by assumption)))
local macro_rules | `(tactic| walk_at "hp") => `(tactic| first | assumption | exact upd_same | (refine upd_keep ?_ (by assumption); walk_at "hp") | (refine upd_other ?_ ?_; · walk_at "ne"; · walk_at "hp"))
local macro_rules | `(tactic| walk_at "hl") => `(tactic| first | assumption | exact SqL.of (by walk_at "hp"))
local macro_rules | `(tactic| walk_at "ht") => `(tactic| first | assumption | exact SqT.of (by walk_at "hp"))
local macro_rules | `(tactic| walk_at "rd1") => `(tactic| first
  | ((with_reducible apply rd_var); exact rfl)
  | ((with_reducible apply rd_eq); exact rfl) | ((with_reducible apply rd_ne); exact rfl)
  | with_reducible first
  | refine iteT ?_ | refine iteF ?_ | refine rd_nF ?_ | refine rd_nT ?_ | refine rd_yes ?_ | refine rd_c ?_ | refine rd_op ?_ | refine rd_un ?_ | refine rd_test ?_ | refine rd_B ?_ | refine rd_bl ?_ | refine rd_seq ?_ | refine rd_next ?_ | refine rd_ifs ?_ | refine rd_asg ?_ | refine rd_name ?_ | refine rd_ret ?_ | refine rd_drop ?_
  | refine rd_call ?_ | refine rd_cons ?_ | refine rd_nil ?_ | refine rd_cb ?_ | refine rd_I0 ?_ | refine rd_U ?_ | refine rd_gsub ?_ | refine rd_lst ?_ | refine rd_tup ?_ | refine rd_if ?_ | refine rd_not ?_ | refine rd_rng1 ?_ | refine rd_itup ?_ | refine rd_ilst ?_ | refine rd_bm ?_ | refine rd_bm0 ?_ | refine rd_andV ?_ | refine rd_orV ?_ | refine rd_notV ?_)
local macro_rules | `(tactic| walk_at "rd") => `(tactic| repeat walk_at "rd1")
local macro_rules | `(tactic| walk_at "ci") => `(tactic| first | assumption | (show (0 : Int) < _; first | decide | omega) | exact ⟨by decide, by decide⟩ | exact Or.inr ⟨by decide, by decide⟩ | exact Or.inl ⟨by decide, by decide⟩ | exact ⟨by decide, by decide, by decide⟩ | exact Or.inl ⟨by omega, by omega⟩ | exact Or.inr ⟨by omega, by omega⟩)
local macro_rules | `(tactic| walk_at "ix") => `(tactic| first
  | ((with_reducible apply rd_ixL); (walk_at "hl"); exact rfl)
  | ((with_reducible apply rd_ixT); (walk_at "ht"); exact rfl)
  | ((with_reducible apply rd_lenL); (walk_at "hl"))
  | ((with_reducible apply rd_lenT); (walk_at "ht"))
  | ((with_reducible apply rd_tupOf); (walk_at "hl"))
  | ((with_reducible apply rd_listOf); (walk_at "hl"))
  | (with_reducible refine rd_min2 ?_)
  | ((with_reducible apply rd_I); (walk_at "ci"))
  | ((with_reducible apply rd_setL); (walk_at "hp"); exact rfl))
local macro_rules | `(tactic| walk_at "gs") => `(tactic| repeat first | walk_at "rd1" | walk_at "ix")
local macro_rules | `(tactic| walk_at "go") => `(tactic| repeat first | walk_at "rd1" | walk_at "ix" | with_reducible refine rd_and ?_ | with_reducible refine rd_or ?_)
local macro_rules | `(tactic| walk_at "fo") => `(tactic| (with_reducible refine rd_for ?_))
local macro_rules | `(tactic| walk_at "pm") => `(tactic| repeat first
  | with_reducible first | refine rd_pcons ?_ | refine rd_pstr ?_ | refine rd_pcap ?_ | refine rd_pwild ?_ | refine rd_pnil ?_ | refine rd_por ?_ | refine rd_pno ?_
  | ((with_reducible refine rd_eq rfl ?_); refine ⟨_, rfl, ?_⟩; first | refine rd_T rfl ?_ | refine rd_F (by decide) ?_)
  | dsimp only [List.nil_append, List.singleton_append, List.cons_append, setAll])
local macro_rules | `(tactic| walk_at "pc") => `(tactic| (refine rd_case ?_); (first | (refine rd_phit (SqT.of (by assumption)) rfl ?_) | (refine rd_pmiss (SqT.of (by assumption)) (by simp) ?_)); (walk_at "pm"))

/-! ### what is left to be looked at -/
inductive WfL : List PV → Nat → Nat → Prop
  | nil : WfL [] 0 0
  | snoc {L : List PV} {p : PV} {a b a' b' : Nat} : WfL L a b → Wf p a' b' → WfL (L ++ [p]) (a + a') (b + b')
theorem WfL.inv {L : List PV} {a b : Nat} (h : WfL L a b) : (L = [] ∧ a = 0 ∧ b = 0) ∨ ∃ L' p a1 b1 a2 b2, L = L' ++ [p] ∧ WfL L' a1 b1 ∧ Wf p a2 b2 ∧ a = a1 + a2 ∧ b = b1 + b2 := by
  cases h with
  | nil => exact .inl ⟨rfl, rfl, rfl⟩
  | snoc h1 h2 => exact .inr ⟨_, _, _, _, _, _, rfl, h1, h2, rfl, rfl⟩
theorem WfL.inv1 {L : List PV} {p : PV} {a b : Nat} (h : WfL (L ++ [p]) a b) : ∃ a1 b1 a2 b2, WfL L a1 b1 ∧ Wf p a2 b2 ∧ a = a1 + a2 ∧ b = b1 + b2 := by
  rcases h.inv with ⟨e, _⟩ | ⟨L', q, a1, b1, a2, b2, e, h1, h2, ea, eb⟩
  · simp at e
  · obtain ⟨e1, e2⟩ := List.append_inj' e rfl
    cases e2
    subst e1
    exact ⟨a1, b1, a2, b2, h1, h2, ea, eb⟩
def Rest (L : List PV) (mc sc : Nat) : Prop := ∃ a b, WfL L a b ∧ mc + a ≤ 4 ∧ sc + b ≤ 12
def RestA (L ss : List PV) (mc sc : Nat) : Prop := ∃ a b a' b', WfL L a b ∧ WfA ss a' b' ∧ mc + a + a' ≤ 4 ∧ sc + b + b' ≤ 12
theorem Rest.one {p : PV} : Rest [p] 0 0 ↔ GoodP p := by
  constructor
  · rintro ⟨a, b, h, h1, h2⟩
    obtain ⟨a1, b1, a2, b2, g1, g2, rfl, rfl⟩ := WfL.inv1 (L := []) h
    exact ⟨a2, b2, g2, by omega, by omega⟩
  · rintro ⟨a, b, h, h1, h2⟩
    exact ⟨0 + a, 0 + b, WfL.snoc (L := []) .nil h, by omega, by omega⟩
theorem Rest.nil {mc sc : Nat} (h1 : mc ≤ 4) (h2 : sc ≤ 12) : Rest [] mc sc := ⟨0, 0, .nil, h1, h2⟩
theorem Wf.inv {p : PV} {a b : Nat} (h : Wf p a b) : ∃ m ss a' b', p = .tup [m, .tup ss] ∧ mkB m = true ∧ WfA ss a' b' ∧ a = a' + 1 ∧ b = b' + ss.length := by
  cases h with
  | mk h1 h2 => exact ⟨_, _, _, _, rfl, h1, h2, rfl, rfl⟩
theorem Rest.pop {L : List PV} {m : PV} {ss : List PV} {mc sc : Nat} (hm : mkB m = true) : Rest (L ++ [.tup [m, .tup ss]]) mc sc ↔ RestA L ss (mc + 1) (sc + ss.length) := by
  constructor
  · rintro ⟨a, b, h, h1, h2⟩
    obtain ⟨a1, b1, a2, b2, g1, g2, rfl, rfl⟩ := h.inv1
    obtain ⟨m', ss', a', b', e, hm', hw, rfl, rfl⟩ := g2.inv
    cases e
    exact ⟨a1, b1, a', b', g1, hw, by omega, by omega⟩
  · rintro ⟨a, b, a', b', h, hw, h1, h2⟩
    exact ⟨_, _, h.snoc (.mk hm hw), by omega, by omega⟩
theorem Rest.pop_pair {L : List PV} {p : PV} {mc sc : Nat} (h : Rest (L ++ [p]) mc sc) : p.pair = true := by
  obtain ⟨a, b, h, h1, h2⟩ := h
  obtain ⟨a1, b1, a2, b2, g1, g2, rfl, rfl⟩ := h.inv1
  obtain ⟨m', ss', a', b', e, hm', hw, rfl, rfl⟩ := g2.inv
  subst e; rfl
theorem Rest.pop_maker {L : List PV} {m : PV} {ss : List PV} {mc sc : Nat} (h : Rest (L ++ [.tup [m, .tup ss]]) mc sc) : mkB m = true := by
  obtain ⟨a, b, h, h1, h2⟩ := h
  obtain ⟨a1, b1, a2, b2, g1, g2, rfl, rfl⟩ := h.inv1
  obtain ⟨m', ss', a', b', e, hm', hw, rfl, rfl⟩ := g2.inv
  cases e; exact hm'
theorem RestA.bound {L ss : List PV} {mc sc : Nat} (h : RestA L ss mc sc) : mc ≤ 4 ∧ sc ≤ 12 := by
  obtain ⟨a, b, a', b', h, hw, h1, h2⟩ := h
  exact ⟨by omega, by omega⟩
theorem RestA.nil {L : List PV} {mc sc : Nat} : RestA L [] mc sc ↔ Rest L mc sc := by
  constructor
  · rintro ⟨a, b, a', b', h, hw, h1, h2⟩
    cases hw
    exact ⟨a, b, h, h1, h2⟩
  · rintro ⟨a, b, h, h1, h2⟩
    exact ⟨a, b, 0, 0, h, .nil, h1, h2⟩
theorem RestA.head {L ss : List PV} {s : PV} {mc sc : Nat} (h : RestA L (s :: ss) mc sc) : stB s = true := by
  obtain ⟨a, b, a', b', h, hw, h1, h2⟩ := h
  cases hw with
  | one h _ _ => exact h
  | sub h _ _ _ => exact h
theorem RestA.step {L ss : List PV} {s : PV} {mc sc : Nat} (hs : stB s = true) (e : s.sub = none) : RestA L (s :: ss) mc sc ↔ RestA L ss mc sc := by
  constructor
  · rintro ⟨a, b, a', b', h, hw, h1, h2⟩
    cases hw with
    | one _ _ hw => exact ⟨_, _, _, _, h, hw, h1, h2⟩
    | sub _ e' _ _ => rw [e] at e'; cases e'
  · rintro ⟨a, b, a', b', h, hw, h1, h2⟩
    exact ⟨_, _, _, _, h, .one hs e hw, h1, h2⟩
theorem RestA.stepC {L ss : List PV} {s x : PV} {mc sc : Nat} (hs : stB s = true) (e : s.sub = some x) : RestA L (s :: ss) mc sc ↔ RestA (L ++ [x]) ss mc sc := by
  constructor
  · rintro ⟨a, b, a', b', h, hw, h1, h2⟩
    cases hw with
    | one _ e' _ => rw [e] at e'; cases e'
    | sub _ e' hx hw =>
      rw [e] at e'; cases e'
      exact ⟨_, _, _, _, h.snoc hx, hw, by omega, by omega⟩
  · rintro ⟨a, b, a', b', h, hw, h1, h2⟩
    obtain ⟨a1, b1, a2, b2, g1, g2, rfl, rfl⟩ := h.inv1
    exact ⟨_, _, _, _, g1, .sub hs e g2 hw, by omega, by omega⟩
theorem PVAll.snoc {H : Hp} : ∀ {L : List PV} {vs : List V} {p : PV} {v : V}, PVAll H L vs → PVAt H p v → PVAll H (L ++ [p]) (vs ++ [v])
  | [], _, p, v, h, h2 => by cases h; exact .cons h2 .nil
  | q :: L, _, p, v, h, h2 => by
    cases h with
    | cons a b => exact .cons a (PVAll.snoc b h2)
theorem PVAll.unsnoc {H : Hp} : ∀ {L : List PV} {vs : List V} {p : PV}, PVAll H (L ++ [p]) vs → ∃ ws v, vs = ws ++ [v] ∧ PVAll H L ws ∧ PVAt H p v
  | [], _, p, h => by
    cases h with
    | cons a b => cases b; exact ⟨[], _, rfl, .nil, a⟩
  | q :: L, _, p, h => by
    cases h with
    | @cons _ _ v vs a b =>
      obtain ⟨ws, w, e, h1, h2⟩ := PVAll.unsnoc b
      exact ⟨v :: ws, w, by rw [e]; rfl, .cons a h1, h2⟩
theorem PV.sub_shp {s x : PV} (e : s.sub = some x) (h : s.shp) : x.shp := by
  match s, e with
  | .tup [a, y], e =>
    have e : (if a.isS "both" = true ∨ a.isS "then" = true then some y else none) = some x := e
    split at e
    · cases e; exact h.mem (by simp)
    · cases e
theorem PVAt.sub {H : Hp} {s x : PV} {v : V} (e : s.sub = some x) (h : PVAt H s v) : ∃ q a w, v = .ref q ∧ H q = some (.tup [a, w]) ∧ PVAt H x w := by
  match s, e with
  | .tup [a, y], e =>
    have e : (if a.isS "both" = true ∨ a.isS "then" = true then some y else none) = some x := e
    split at e
    · cases e
      cases h with
      | tup er al =>
        cases al with
        | cons a1 al =>
          cases al with
          | cons a2 al =>
            cases al
            exact ⟨_, _, _, rfl, er, a2⟩
    · cases e
theorem PV.pair_inv {p : PV} (h : p.pair = true) : ∃ m ss, p = .tup [m, .tup ss] := by
  match p, h with
  | .tup [m, .tup ss], _ => exact ⟨m, ss, rfl⟩
theorem PVAt.pair {H : Hp} {m : PV} {ss : List PV} {v : V} (h : PVAt H (.tup [m, .tup ss]) v) : ∃ q w r ws, v = .ref q ∧ H q = some (.tup [w, .ref r]) ∧ PVAt H m w ∧ H r = some (.tup ws) ∧ PVAll H ss ws := by
  cases h with
  | tup er al =>
    cases al with
    | cons a1 al =>
      cases al with
      | cons a2 al =>
        cases al
        cases a2 with
        | tup e2 al2 => exact ⟨_, _, _, _, rfl, er, a1, e2, al2⟩
theorem rd_nb {b : Bool} {A B : Prop} (h1 : b = true → B) (h2 : b = false → A) : if (!b) = true then A else B := by
  cases b
  · exact h2 rfl
  · exact h1 rfl
def spIsChainV : Sp := fun vs H Q _ => ∃ (p : PV) (v : V), vs = [v] ∧ PVAt H p v ∧ p.shp ∧ ∀ H', Fr [] H H' → ∀ b : Bool, (b = true ↔ GoodP p) → Q (.bl b) H'
section
variable {P : Program} {w : World} {K : PySem.W.Frag} {mg : Str → Option Value} {base : Heap} {f : Addr} {fd : FuncData}
theorem okv_is_chain (T : Txt K mg) (F : FnP K "is_chain" "is_chain" s_is_chain f fd) (G_is_pair : Cal P w K mg base CX0 1 "is_pair" ["part"] spPairV) (G_is_maker : Cal P w K mg base CX0 3 "is_maker" ["maker"] spMakerV)
    (G_is_stage : Cal P w K mg base CX0 3 "is_stage" ["stage"] spStageV) (G_has_chain : Cal P w K mg base CX0 1 "has_chain" ["stage"] spHasV) : FnOk P w K mg base CX0 4 f fd ["chain"] spIsChainV := by
  refine ok0 F sc_is_chain (fun vs H Q E h => ?_) (fun cdv A outer s H vs Q E hr h => ?_)
  · obtain ⟨p, v, rfl, _⟩ := h
    rfl
  · obtain ⟨p, v, rfl, hv, hsh, k⟩ := h
    refine ⟨_, (pss_cons (ps_set (i := 1) sc_is_chain.nd rfl (Or.inl rfl) pe_int)
  (pss_cons (ps_set (i := 2) sc_is_chain.nd rfl (Or.inl rfl) pe_int)
  (pss_cons (ps_set (i := 3) sc_is_chain.nd rfl (Or.inl rfl) (pe_lst (pa_cons (pv 0) pa_nil)))
  (pss_cons (ps_while PassesOwn.never (pt_truth (pv 3) (by intro _; rfl))
    (pss_cons (ps_set (i := 4) sc_is_chain.nd rfl (Or.inl rfl) (pe_bm0 PySem.F.plainAttrs_list PySem.F.slot_list_pop PySem.F.type_list_pop mt_pop (pv 3)))
    (pss_cons (ps_if (PW.pt (pw_or (pt_not (pt_val (pe_cal G_is_pair (hr.mono (by omega)) pass0 (pa_cons (pv 4) pa_nil)))) (pw_or1 (pt_not (pt_val (pe_cal G_is_maker (hr.mono (by omega)) pass0 (pa_cons (pe_ix (ix_tupK K) (pv 4) pe_int (fun _ _ => rfl)) pa_nil)))))))
      (pss_one (ps_ret pe_bl)) pss_nil)
    (pss_cons (ps_aug (i := 1) sc_is_chain.nd rfl (Or.inl rfl) pe_int ip_add)
    (pss_cons (ps_aug (i := 2) sc_is_chain.nd rfl (Or.inl rfl) (pe_callB (call_len1K K) (by rfl) T.free_len (by decide +kernel) (pa_cons (pe_ix (ix_tupK K) (pv 4) pe_int (fun _ _ => rfl)) pa_nil)) ip_add)
    (pss_cons (ps_if (PW.pt (pw_or (pt_cmpR op_gt (pv 1) (pe_cint T.c_MAKERS_AT_MOST) (nomark _)) (pw_or1 (pt_cmpR op_gt (pv 2) (pe_cint T.c_STAGES_AT_MOST) (nomark _)))))
      (pss_one (ps_ret pe_bl)) pss_nil)
    (pss_one (ps_for PassesOwn.never rfl (pi_tup (pe_ix (ix_tupK K) (pv 4) pe_int (fun _ _ => rfl))) (pg_name (i := 5) sc_is_chain.nd rfl (Or.inl rfl))
      (pss_cons (ps_if (pt_not (pt_val (pe_cal G_is_stage (hr.mono (by omega)) pass0 (pa_cons (pv 5) pa_nil))))
        (pss_one (ps_ret pe_bl)) pss_nil)
      (pss_one (ps_if (pt_val (pe_cal G_has_chain (hr.mono (by omega)) pass0 (pa_cons (pv 5) pa_nil)))
        (pss_one (ps_expr (pe_bm PySem.F.plainAttrs_list PySem.F.slot_list_append PySem.F.type_list_append mt_append (pv 3) (pa_cons (pe_ix (ix_tupK K) (pv 5) pe_int (fun _ _ => rfl)) pa_nil)))) pss_nil)))))))))))
  (pss_one (ps_ret pe_bl)))))), ?_⟩
    try dsimp only [cxOf, Cx.nox, Cx.wish]
    refine rd_at (σ' := [some v, none, none, none, none, none]) rfl ?_
    walk_at "go"
    refine ⟨by show 1 ≤ sizeLine; decide, fun l hl => ?_⟩
    walk_at "go"
    refine ⟨fun μ σ H' => ∃ (L : List PV) (vs : List V) (mc sc : Nat) (v1 v2 : Option V), σ = [some v, some (.int mc), some (.int sc), some (.ref l), v1, v2] ∧ H' l = some (.lst vs) ∧ PVAll H' L vs ∧ (∀ x ∈ L, x.shp) ∧ (GoodP p ↔ Rest L mc sc) ∧ mc ≤ 4 ∧ sc ≤ 12 ∧ L.length ≤ sc + 1 ∧ Fr [] H H' ∧ μ = 4 - mc,
      ⟨4 - 0, [p], [v], 0, 0, none, none, rfl, upd_same, .cons (PVAt.fr (Fr.new (S := []) hl) _ _ hv) .nil, fun x hx => by rw [List.mem_singleton] at hx; subst hx; exact hsh, Rest.one.symm, by decide, by decide, Nat.le_refl _, Fr.new hl, rfl⟩, ?_⟩
    rintro μ σ H' ⟨L, vs, mc, sc, v1, v2, rfl, el, hL, hS, hgd, hmc, hsc, hlen, fr, rfl⟩
    walk_at "go"
    rcases List.eq_nil_or_concat L with rfl | ⟨L', x, e⟩
    · cases hL
      refine ⟨false, .inl ⟨_, SqL.of el, rfl⟩, ?_⟩
      walk_at "go"
      exact k _ fr true ⟨fun _ => hgd.mpr (Rest.nil hmc hsc), fun _ => rfl⟩
    · rw [List.concat_eq_append] at e
      subst e
      obtain ⟨ws, y, rfl, hL', hx⟩ := hL.unsnoc
      have xsh := hS x (by simp)
      refine ⟨true, .inl ⟨_, SqL.of el, by simp⟩, ?_⟩
      dsimp only
      refine iteT ?_
      refine ⟨fun σ' H' => ∃ μ', μ' < 4 - mc ∧ _, fun σ' H' z => z, ?_⟩
      walk_at "go"
      refine ⟨.inl ⟨rfl, _, SqL.of el⟩, l, _, y, rfl, rfl, el, by simp, ?_⟩
      have el1 : upd H' l (.lst (ws ++ [y]).dropLast) l = some (.lst ws) := by rw [upd_same]; simp
      have f1 : Fr [l] H' (upd H' l (.lst (ws ++ [y]).dropLast)) := Fr.put (by simp) (nt el)
      have fr1 := fr.putN (o := .lst (ws ++ [y]).dropLast) (.inr hl) (nt el)
      replace hL' := PVAll.fr f1 _ _ hL'
      replace hx := PVAt.fr f1 _ _ hx
      clear f1 fr el
      generalize upd H' l (.lst (ws ++ [y]).dropLast) = H1 at *
      walk_at "go"
      refine ⟨x, y, rfl, hx, ?_⟩
      refine ⟨_, rfl, rd_nb (fun hp => ?_) (fun hp => ?_)⟩
      rotate_left
      · walk_at "go"
        exact k _ fr1 false ⟨fun z => (Bool.false_ne_true z).elim, fun z => absurd (Rest.pop_pair (hgd.mp z)) (by rw [hp]; decide)⟩
      obtain ⟨m, ss, rfl⟩ := PV.pair_inv hp
      obtain ⟨q, mv, r, bs, rfl, eq, hm, er, hss⟩ := hx.pair
      walk_at "go"
      refine ⟨m, mv, rfl, hm, xsh.mem (by simp), fun H2 f2 => ?_⟩
      replace eq := f2.tp eq
      replace er := f2.tp er
      replace hss := PVAll.fr f2 _ _ hss
      replace hL' := PVAll.fr f2 _ _ hL'
      have fr2 := fr1.tr f2
      have el2 := f2.at el1 (by simp)
      clear f2 fr1 el1 hm hx
      refine ⟨_, rfl, rd_nb (fun hm => ?_) (fun hm => ?_)⟩
      rotate_left
      · walk_at "go"
        exact k _ fr2 false ⟨fun z => (Bool.false_ne_true z).elim, fun z => absurd (Rest.pop_maker (hgd.mp z)) (by rw [hm]; decide)⟩
      rw [Rest.pop hm] at hgd
      have bl : bs.length = ss.length := hss.len
      walk_at "go"
      refine ⟨_, rfl, ?_⟩
      walk_at "go"
      refine ⟨_, _, rfl, rfl, ?_⟩
      have e1 : (mc : Int) + 1 = ((mc + 1 : Nat) : Int) := by omega
      dsimp only
      rw [e1]
      refine ⟨_, rfl, ?_⟩
      walk_at "go"
      refine ⟨_, _, rfl, rfl, ?_⟩
      have e2 : (sc : Int) + (bs.length : Nat) = ((sc + ss.length : Nat) : Int) := by rw [bl]; omega
      dsimp only
      rw [e2]
      refine rd_at (σ' := [some v, some (.int ((mc + 1 : Nat) : Int)), some (.int ((sc + ss.length : Nat) : Int)), some (.ref l), some (.ref q), v2]) rfl ?_
      walk_at "go"
      by_cases c4 : mc + 1 ≤ 4 ∧ sc + ss.length ≤ 12
      rotate_left
      · have no : ¬ GoodP p := fun z => c4 (RestA.bound (hgd.mp z))
        refine rd_dec (fun c1 => ?_) (fun c1 => ?_)
        · walk_at "go"
          exact k _ fr2 false ⟨fun z => (Bool.false_ne_true z).elim, fun z => absurd z no⟩
        · walk_at "go"
          refine rd_T (by omega) ?_
          walk_at "go"
          exact k _ fr2 false ⟨fun z => (Bool.false_ne_true z).elim, fun z => absurd z no⟩
      obtain ⟨c41, c42⟩ := c4
      refine rd_F (by omega) ?_
      walk_at "go"
      refine rd_F (by omega) ?_
      walk_at "go"
      walk_at "fo"
      walk_at "go"
      refine ⟨r, rfl, ⟨_, SqT.of er⟩, for_tup (K := K) (a := r) (xs := bs) (fun i σ H' => ∃ (M : List PV) (vs : List V) (v9 : Option V), σ = [some v, some (.int ((mc + 1 : Nat) : Int)), some (.int ((sc + ss.length : Nat) : Int)), some (.ref l), some (.ref q), v9] ∧
        H' l = some (.lst vs) ∧ PVAll H2 M vs ∧ (∀ x ∈ M, x.shp) ∧ (GoodP p ↔ RestA M (ss.drop i) (mc + 1) (sc + ss.length)) ∧ M.length ≤ sc + i ∧ Fr [l] H2 H')
        ⟨L', ws, v2, rfl, el2, hL', fun x hx => hS x (by simp [hx]), by rw [List.drop_zero]; exact hgd, by rw [List.length_append] at hlen; simp at hlen; omega, Fr.refl _ _⟩ (fun i σ H' _ ⟨_, _, _, _, _, _, _, _, _, fr⟩ => SqT.of (fr.tp er)) ?_ ?_⟩
      · rintro i y σ H3 hi ⟨M, vs, v9, rfl, el3, hM, hMS, meq, mlen, f3⟩
        obtain ⟨g, hgi, gat⟩ := PVAll.at i y hss hi
        have gi : i < ss.length := (List.getElem?_eq_some_iff.mp hgi).1
        have gs : g.shp := (xsh.mem (p := .tup ss) (by simp)).mem (List.mem_of_getElem? hgi)
        have gd : ss.drop i = g :: ss.drop (i + 1) := by
          rw [List.drop_eq_getElem_cons gi]
          rw [List.getElem?_eq_getElem gi] at hgi
          cases hgi; rfl
        rw [gd] at meq
        walk_at "go"
        refine ⟨g, y, rfl, PVAt.fr f3 _ _ gat, gs, ?_⟩
        refine ⟨_, rfl, rd_nb (fun cs => ?_) (fun cs => ?_)⟩
        rotate_left
        · walk_at "go"
          exact k _ (fr2.trans f3 fun b hb => by rw [List.mem_singleton] at hb; rw [hb]; exact .inr hl) false ⟨fun z => (Bool.false_ne_true z).elim, fun z => absurd (RestA.head (meq.mp z)) (by rw [cs]; decide)⟩
        walk_at "go"
        refine ⟨g, y, rfl, PVAt.fr f3 _ _ gat, cs, fun H4 f4 => ?_⟩
        have f24 := f3.trans f4 (fun b hb => by cases hb)
        have el4 := f4.at el3 (by simp)
        refine ⟨_, rfl, ?_⟩
        refine rd_b (fun cg => ?_) (fun cg => ?_)
        · obtain ⟨z, ez⟩ := Option.isSome_iff_exists.mp cg
          rw [RestA.stepC cs ez] at meq
          obtain ⟨q', a', w', rfl, eq', hw⟩ := PVAt.sub ez gat
          replace eq' := f24.tp eq'
          walk_at "go"
          refine ⟨tyl el4, ?_⟩
          walk_at "go"
          refine rd_append el4 (by rw [hM.len]; exact Nat.lt_of_le_of_lt (show M.length ≤ 24 by omega) (by decide)) ?_
          walk_at "go"
          refine ⟨M ++ [z], _, _, rfl, upd_same, hM.snoc hw, fun y hy => ?_, meq, by rw [List.length_append]; simp; omega, f24.putN (.inl (by simp)) (nt el4)⟩
          rcases List.mem_append.mp hy with z | z
          · exact hMS y z
          · rw [List.mem_singleton] at z
            subst z
            exact PV.sub_shp ez gs
        · have ez : g.sub = none := Option.not_isSome_iff_eq_none.mp (by rw [cg]; decide)
          rw [RestA.step cs ez] at meq
          walk_at "go"
          exact ⟨M, _, _, rfl, el4, hM, hMS, meq, by omega, f24⟩
      · rintro σ H3 ⟨M, vs, v9, rfl, el3, hM, hMS, meq, mlen, f3⟩
        rw [bl, List.drop_length, RestA.nil] at meq
        refine ⟨4 - (mc + 1), by omega, M, vs, mc + 1, sc + ss.length, _, _, rfl, el3, PVAll.fr f3 _ _ hM, hMS, meq, c41, c42, by rw [bl] at mlen; omega, ?_, rfl⟩
        exact fr2.trans f3 fun b hb => by rw [List.mem_singleton] at hb; rw [hb]; exact .inr hl
end
end Dc

set_option Elab.async false
set_option linter.all false
set_option maxRecDepth 100000
set_option maxHeartbeats 2000000
namespace Dc
open PySem PySem.Spec PyProof.Rows L2
local macro_rules | `(tactic| walk_at "ne") => `(tactic| first | assumption | (refine Ne.symm ?_; assumption) | exact ne_of (by assumption) (by assumption) (by intro q; cases q) | exact ne_of_none (by assumption) (by assumption) | exact Ne.symm (ne_of_none (by assumption) (by assumption)))
local macro_rules | `(tactic| walk_at "hp") => `(tactic| first | assumption | exact upd_same | (refine upd_keep ?_ (by assumption); walk_at "hp") | (refine upd_other ?_ ?_; · walk_at "ne"; · walk_at "hp"))
local macro_rules | `(tactic| walk_at "hl") => `(tactic| first | assumption | exact SqL.of (by walk_at "hp"))
local macro_rules | `(tactic| walk_at "ht") => `(tactic| first | assumption | exact SqT.of (by walk_at "hp"))
local macro_rules | `(tactic| walk_at "rd1") => `(tactic| first
  | ((with_reducible apply rd_var); exact rfl)
  | ((with_reducible apply rd_eq); exact rfl) | ((with_reducible apply rd_ne); exact rfl)
  | with_reducible first
  | refine iteT ?_ | refine iteF ?_ | refine rd_nF ?_ | refine rd_nT ?_ | refine rd_yes ?_ | refine rd_c ?_ | refine rd_op ?_ | refine rd_un ?_ | refine rd_test ?_ | refine rd_B ?_ | refine rd_bl ?_ | refine rd_seq ?_ | refine rd_next ?_ | refine rd_ifs ?_ | refine rd_asg ?_ | refine rd_name ?_ | refine rd_ret ?_ | refine rd_drop ?_
  | refine rd_call ?_ | refine rd_cons ?_ | refine rd_nil ?_ | refine rd_cb ?_ | refine rd_I0 ?_ | refine rd_U ?_ | refine rd_gsub ?_ | refine rd_lst ?_ | refine rd_tup ?_ | refine rd_if ?_ | refine rd_not ?_ | refine rd_rng1 ?_ | refine rd_itup ?_ | refine rd_ilst ?_ | refine rd_bm ?_ | refine rd_bm0 ?_ | refine rd_andV ?_ | refine rd_orV ?_ | refine rd_notV ?_)
local macro_rules | `(tactic| walk_at "rd") => `(tactic| repeat walk_at "rd1")
local macro_rules | `(tactic| walk_at "ci") => `(tactic| first | assumption | (show (0 : Int) < _; first | decide | omega) | exact ⟨by decide, by decide⟩ | exact Or.inr ⟨by decide, by decide⟩ | exact Or.inl ⟨by decide, by decide⟩ | exact ⟨by decide, by decide, by decide⟩ | exact Or.inl ⟨by omega, by omega⟩ | exact Or.inr ⟨by omega, by omega⟩)
local macro_rules | `(tactic| walk_at "ix") => `(tactic| first
  | ((with_reducible apply rd_ixL); (walk_at "hl"); exact rfl)
  | ((with_reducible apply rd_ixT); (walk_at "ht"); exact rfl)
  | ((with_reducible apply rd_lenL); (walk_at "hl"))
  | ((with_reducible apply rd_lenT); (walk_at "ht"))
  | ((with_reducible apply rd_tupOf); (walk_at "hl"))
  | ((with_reducible apply rd_listOf); (walk_at "hl"))
  | (with_reducible refine rd_min2 ?_)
  | ((with_reducible apply rd_I); (walk_at "ci"))
  | ((with_reducible apply rd_setL); (walk_at "hp"); exact rfl))
local macro_rules | `(tactic| walk_at "gs") => `(tactic| repeat first | walk_at "rd1" | walk_at "ix")
local macro_rules | `(tactic| walk_at "go") => `(tactic| repeat first | walk_at "rd1" | walk_at "ix" | with_reducible refine rd_and ?_ | with_reducible refine rd_or ?_)
local macro_rules | `(tactic| walk_at "fo") => `(tactic| (with_reducible refine rd_for ?_))
local macro_rules | `(tactic| walk_at "pm") => `(tactic| repeat first
  | with_reducible first | refine rd_pcons ?_ | refine rd_pstr ?_ | refine rd_pcap ?_ | refine rd_pwild ?_ | refine rd_pnil ?_ | refine rd_por ?_ | refine rd_pno ?_
  | ((with_reducible refine rd_eq rfl ?_); refine ⟨_, rfl, ?_⟩; first | refine rd_T rfl ?_ | refine rd_F (by decide) ?_)
  | dsimp only [List.nil_append, List.singleton_append, List.cons_append, setAll])
local macro_rules | `(tactic| walk_at "pc") => `(tactic| (refine rd_case ?_); (first | (refine rd_phit (SqT.of (by assumption)) rfl ?_) | (refine rd_pmiss (SqT.of (by assumption)) (by simp) ?_)); (walk_at "pm"))

/-! ### what is left to be looked at -/
/-- what is handed down from a chain to those within -/
structure Hold (Z : PV → Prop) : Prop where
  mak : ∀ {m ss}, Z (.tup [m, .tup ss]) → m.shp
  st : ∀ {m ss s}, Z (.tup [m, .tup ss]) → s ∈ ss → s.h0
  sub : ∀ {m ss s x}, Z (.tup [m, .tup ss]) → s ∈ ss → s.sub = some x → Z x
def spIsChainZ (Z : PV → Prop) : Sp := fun vs H Q _ => ∃ (p : PV) (v : V), vs = [v] ∧ PVAt H p v ∧ Z p ∧ ∀ H', Fr [] H H' → ∀ b : Bool, (b = true ↔ GoodP p) → Q (.bl b) H'
section
variable {P : Program} {w : World} {K : PySem.W.Frag} {mg : Str → Option Value} {base : Heap} {f : Addr} {fd : FuncData}
theorem okz_is_chain {Z : PV → Prop} (hZ : Hold Z) (T : Txt K mg) (F : FnP K "is_chain" "is_chain" s_is_chain f fd) (G_is_pair : Cal P w K mg base CX0 1 "is_pair" ["part"] spPairV) (G_is_maker : Cal P w K mg base CX0 3 "is_maker" ["maker"] spMakerV)
    (G_is_stage : Cal P w K mg base CX0 3 "is_stage" ["stage"] spStageH) (G_has_chain : Cal P w K mg base CX0 1 "has_chain" ["stage"] spHasV) : FnOk P w K mg base CX0 4 f fd ["chain"] (spIsChainZ Z) := by
  refine ok0 F sc_is_chain (fun vs H Q E h => ?_) (fun cdv A outer s H vs Q E hr h => ?_)
  · obtain ⟨p, v, rfl, _⟩ := h
    rfl
  · obtain ⟨p, v, rfl, hv, hsh, k⟩ := h
    refine ⟨_, (pss_cons (ps_set (i := 1) sc_is_chain.nd rfl (Or.inl rfl) pe_int)
  (pss_cons (ps_set (i := 2) sc_is_chain.nd rfl (Or.inl rfl) pe_int)
  (pss_cons (ps_set (i := 3) sc_is_chain.nd rfl (Or.inl rfl) (pe_lst (pa_cons (pv 0) pa_nil)))
  (pss_cons (ps_while PassesOwn.never (pt_truth (pv 3) (by intro _; rfl))
    (pss_cons (ps_set (i := 4) sc_is_chain.nd rfl (Or.inl rfl) (pe_bm0 PySem.F.plainAttrs_list PySem.F.slot_list_pop PySem.F.type_list_pop mt_pop (pv 3)))
    (pss_cons (ps_if (PW.pt (pw_or (pt_not (pt_val (pe_cal G_is_pair (hr.mono (by omega)) pass0 (pa_cons (pv 4) pa_nil)))) (pw_or1 (pt_not (pt_val (pe_cal G_is_maker (hr.mono (by omega)) pass0 (pa_cons (pe_ix (ix_tupK K) (pv 4) pe_int (fun _ _ => rfl)) pa_nil)))))))
      (pss_one (ps_ret pe_bl)) pss_nil)
    (pss_cons (ps_aug (i := 1) sc_is_chain.nd rfl (Or.inl rfl) pe_int ip_add)
    (pss_cons (ps_aug (i := 2) sc_is_chain.nd rfl (Or.inl rfl) (pe_callB (call_len1K K) (by rfl) T.free_len (by decide +kernel) (pa_cons (pe_ix (ix_tupK K) (pv 4) pe_int (fun _ _ => rfl)) pa_nil)) ip_add)
    (pss_cons (ps_if (PW.pt (pw_or (pt_cmpR op_gt (pv 1) (pe_cint T.c_MAKERS_AT_MOST) (nomark _)) (pw_or1 (pt_cmpR op_gt (pv 2) (pe_cint T.c_STAGES_AT_MOST) (nomark _)))))
      (pss_one (ps_ret pe_bl)) pss_nil)
    (pss_one (ps_for PassesOwn.never rfl (pi_tup (pe_ix (ix_tupK K) (pv 4) pe_int (fun _ _ => rfl))) (pg_name (i := 5) sc_is_chain.nd rfl (Or.inl rfl))
      (pss_cons (ps_if (pt_not (pt_val (pe_cal G_is_stage (hr.mono (by omega)) pass0 (pa_cons (pv 5) pa_nil))))
        (pss_one (ps_ret pe_bl)) pss_nil)
      (pss_one (ps_if (pt_val (pe_cal G_has_chain (hr.mono (by omega)) pass0 (pa_cons (pv 5) pa_nil)))
        (pss_one (ps_expr (pe_bm PySem.F.plainAttrs_list PySem.F.slot_list_append PySem.F.type_list_append mt_append (pv 3) (pa_cons (pe_ix (ix_tupK K) (pv 5) pe_int (fun _ _ => rfl)) pa_nil)))) pss_nil)))))))))))
  (pss_one (ps_ret pe_bl)))))), ?_⟩
    try dsimp only [cxOf, Cx.nox, Cx.wish]
    refine rd_at (σ' := [some v, none, none, none, none, none]) rfl ?_
    walk_at "go"
    refine ⟨by show 1 ≤ sizeLine; decide, fun l hl => ?_⟩
    walk_at "go"
    refine ⟨fun μ σ H' => ∃ (L : List PV) (vs : List V) (mc sc : Nat) (v1 v2 : Option V), σ = [some v, some (.int mc), some (.int sc), some (.ref l), v1, v2] ∧ H' l = some (.lst vs) ∧ PVAll H' L vs ∧ (∀ x ∈ L, Z x) ∧ (GoodP p ↔ Rest L mc sc) ∧ mc ≤ 4 ∧ sc ≤ 12 ∧ L.length ≤ sc + 1 ∧ Fr [] H H' ∧ μ = 4 - mc,
      ⟨4 - 0, [p], [v], 0, 0, none, none, rfl, upd_same, .cons (PVAt.fr (Fr.new (S := []) hl) _ _ hv) .nil, fun x hx => by rw [List.mem_singleton] at hx; subst hx; exact hsh, Rest.one.symm, by decide, by decide, Nat.le_refl _, Fr.new hl, rfl⟩, ?_⟩
    rintro μ σ H' ⟨L, vs, mc, sc, v1, v2, rfl, el, hL, hS, hgd, hmc, hsc, hlen, fr, rfl⟩
    walk_at "go"
    rcases List.eq_nil_or_concat L with rfl | ⟨L', x, e⟩
    · cases hL
      refine ⟨false, .inl ⟨_, SqL.of el, rfl⟩, ?_⟩
      walk_at "go"
      exact k _ fr true ⟨fun _ => hgd.mpr (Rest.nil hmc hsc), fun _ => rfl⟩
    · rw [List.concat_eq_append] at e
      subst e
      obtain ⟨ws, y, rfl, hL', hx⟩ := hL.unsnoc
      have xsh := hS x (by simp)
      refine ⟨true, .inl ⟨_, SqL.of el, by simp⟩, ?_⟩
      dsimp only
      refine iteT ?_
      refine ⟨fun σ' H' => ∃ μ', μ' < 4 - mc ∧ _, fun σ' H' z => z, ?_⟩
      walk_at "go"
      refine ⟨.inl ⟨rfl, _, SqL.of el⟩, l, _, y, rfl, rfl, el, by simp, ?_⟩
      have el1 : upd H' l (.lst (ws ++ [y]).dropLast) l = some (.lst ws) := by rw [upd_same]; simp
      have f1 : Fr [l] H' (upd H' l (.lst (ws ++ [y]).dropLast)) := Fr.put (by simp) (nt el)
      have fr1 := fr.putN (o := .lst (ws ++ [y]).dropLast) (.inr hl) (nt el)
      replace hL' := PVAll.fr f1 _ _ hL'
      replace hx := PVAt.fr f1 _ _ hx
      clear f1 fr el
      generalize upd H' l (.lst (ws ++ [y]).dropLast) = H1 at *
      walk_at "go"
      refine ⟨x, y, rfl, hx, ?_⟩
      refine ⟨_, rfl, rd_nb (fun hp => ?_) (fun hp => ?_)⟩
      rotate_left
      · walk_at "go"
        exact k _ fr1 false ⟨fun z => (Bool.false_ne_true z).elim, fun z => absurd (Rest.pop_pair (hgd.mp z)) (by rw [hp]; decide)⟩
      obtain ⟨m, ss, rfl⟩ := PV.pair_inv hp
      obtain ⟨q, mv, r, bs, rfl, eq, hm, er, hss⟩ := hx.pair
      walk_at "go"
      refine ⟨m, mv, rfl, hm, hZ.mak xsh, fun H2 f2 => ?_⟩
      replace eq := f2.tp eq
      replace er := f2.tp er
      replace hss := PVAll.fr f2 _ _ hss
      replace hL' := PVAll.fr f2 _ _ hL'
      have fr2 := fr1.tr f2
      have el2 := f2.at el1 (by simp)
      clear f2 fr1 el1 hm hx
      refine ⟨_, rfl, rd_nb (fun hm => ?_) (fun hm => ?_)⟩
      rotate_left
      · walk_at "go"
        exact k _ fr2 false ⟨fun z => (Bool.false_ne_true z).elim, fun z => absurd (Rest.pop_maker (hgd.mp z)) (by rw [hm]; decide)⟩
      rw [Rest.pop hm] at hgd
      have bl : bs.length = ss.length := hss.len
      walk_at "go"
      refine ⟨_, rfl, ?_⟩
      walk_at "go"
      refine ⟨_, _, rfl, rfl, ?_⟩
      have e1 : (mc : Int) + 1 = ((mc + 1 : Nat) : Int) := by omega
      dsimp only
      rw [e1]
      refine ⟨_, rfl, ?_⟩
      walk_at "go"
      refine ⟨_, _, rfl, rfl, ?_⟩
      have e2 : (sc : Int) + (bs.length : Nat) = ((sc + ss.length : Nat) : Int) := by rw [bl]; omega
      dsimp only
      rw [e2]
      refine rd_at (σ' := [some v, some (.int ((mc + 1 : Nat) : Int)), some (.int ((sc + ss.length : Nat) : Int)), some (.ref l), some (.ref q), v2]) rfl ?_
      walk_at "go"
      by_cases c4 : mc + 1 ≤ 4 ∧ sc + ss.length ≤ 12
      rotate_left
      · have no : ¬ GoodP p := fun z => c4 (RestA.bound (hgd.mp z))
        refine rd_dec (fun c1 => ?_) (fun c1 => ?_)
        · walk_at "go"
          exact k _ fr2 false ⟨fun z => (Bool.false_ne_true z).elim, fun z => absurd z no⟩
        · walk_at "go"
          refine rd_T (by omega) ?_
          walk_at "go"
          exact k _ fr2 false ⟨fun z => (Bool.false_ne_true z).elim, fun z => absurd z no⟩
      obtain ⟨c41, c42⟩ := c4
      refine rd_F (by omega) ?_
      walk_at "go"
      refine rd_F (by omega) ?_
      walk_at "go"
      walk_at "fo"
      walk_at "go"
      refine ⟨r, rfl, ⟨_, SqT.of er⟩, for_tup (K := K) (a := r) (xs := bs) (fun i σ H' => ∃ (M : List PV) (vs : List V) (v9 : Option V), σ = [some v, some (.int ((mc + 1 : Nat) : Int)), some (.int ((sc + ss.length : Nat) : Int)), some (.ref l), some (.ref q), v9] ∧
        H' l = some (.lst vs) ∧ PVAll H2 M vs ∧ (∀ x ∈ M, Z x) ∧ (GoodP p ↔ RestA M (ss.drop i) (mc + 1) (sc + ss.length)) ∧ M.length ≤ sc + i ∧ Fr [l] H2 H')
        ⟨L', ws, v2, rfl, el2, hL', fun x hx => hS x (by simp [hx]), by rw [List.drop_zero]; exact hgd, by rw [List.length_append] at hlen; simp at hlen; omega, Fr.refl _ _⟩ (fun i σ H' _ ⟨_, _, _, _, _, _, _, _, _, fr⟩ => SqT.of (fr.tp er)) ?_ ?_⟩
      · rintro i y σ H3 hi ⟨M, vs, v9, rfl, el3, hM, hMS, meq, mlen, f3⟩
        obtain ⟨g, hgi, gat⟩ := PVAll.at i y hss hi
        have gi : i < ss.length := (List.getElem?_eq_some_iff.mp hgi).1
        have gs : g.h0 := hZ.st xsh (List.mem_of_getElem? hgi)
        have gd : ss.drop i = g :: ss.drop (i + 1) := by
          rw [List.drop_eq_getElem_cons gi]
          rw [List.getElem?_eq_getElem gi] at hgi
          cases hgi; rfl
        rw [gd] at meq
        walk_at "go"
        refine ⟨g, y, rfl, PVAt.fr f3 _ _ gat, gs, ?_⟩
        refine ⟨_, rfl, rd_nb (fun cs => ?_) (fun cs => ?_)⟩
        rotate_left
        · walk_at "go"
          exact k _ (fr2.trans f3 fun b hb => by rw [List.mem_singleton] at hb; rw [hb]; exact .inr hl) false ⟨fun z => (Bool.false_ne_true z).elim, fun z => absurd (RestA.head (meq.mp z)) (by rw [cs]; decide)⟩
        walk_at "go"
        refine ⟨g, y, rfl, PVAt.fr f3 _ _ gat, cs, fun H4 f4 => ?_⟩
        have f24 := f3.trans f4 (fun b hb => by cases hb)
        have el4 := f4.at el3 (by simp)
        refine ⟨_, rfl, ?_⟩
        refine rd_b (fun cg => ?_) (fun cg => ?_)
        · obtain ⟨z, ez⟩ := Option.isSome_iff_exists.mp cg
          rw [RestA.stepC cs ez] at meq
          obtain ⟨q', a', w', rfl, eq', hw⟩ := PVAt.sub ez gat
          replace eq' := f24.tp eq'
          walk_at "go"
          refine ⟨tyl el4, ?_⟩
          walk_at "go"
          refine rd_append el4 (by rw [hM.len]; exact Nat.lt_of_le_of_lt (show M.length ≤ 24 by omega) (by decide)) ?_
          walk_at "go"
          refine ⟨M ++ [z], _, _, rfl, upd_same, hM.snoc hw, fun y hy => ?_, meq, by rw [List.length_append]; simp; omega, f24.putN (.inl (by simp)) (nt el4)⟩
          rcases List.mem_append.mp hy with z | z
          · exact hMS y z
          · rw [List.mem_singleton] at z
            subst z
            exact hZ.sub xsh (List.mem_of_getElem? hgi) ez
        · have ez : g.sub = none := Option.not_isSome_iff_eq_none.mp (by rw [cg]; decide)
          rw [RestA.step cs ez] at meq
          walk_at "go"
          exact ⟨M, _, _, rfl, el4, hM, hMS, meq, by omega, f24⟩
      · rintro σ H3 ⟨M, vs, v9, rfl, el3, hM, hMS, meq, mlen, f3⟩
        rw [bl, List.drop_length, RestA.nil] at meq
        refine ⟨4 - (mc + 1), by omega, M, vs, mc + 1, sc + ss.length, _, _, rfl, el3, PVAll.fr f3 _ _ hM, hMS, meq, c41, c42, by rw [bl] at mlen; omega, ?_, rfl⟩
        exact fr2.trans f3 fun b hb => by rw [List.mem_singleton] at hb; rw [hb]; exact .inr hl
end
end Dc

set_option Elab.async false
set_option linter.all false
set_option maxRecDepth 100000
set_option maxHeartbeats 2000000
namespace Dc
open PySem PySem.Spec PyProof.Rows L2
/-! ### good chains as values of any shape -/
def Lo (p : PV) (n : Nat) : Prop := PyData.canLay0 p.pd = true ∧ p.pd.depth ≤ n
theorem Lo.mono {p : PV} {n m : Nat} (h : Lo p n) (k : n ≤ m) : Lo p m := ⟨h.1, Nat.le_trans h.2 k⟩
theorem Lo.shp {p : PV} {n : Nat} (h : Lo p n) (k : n ≤ 64) : p.shp := (shp_iff _).mpr ⟨h.1, Nat.le_trans h.2 k⟩
theorem Lo.int (i : Int) {n : Nat} : Lo (.int i) (n + 1) := ⟨by simp only [PV.pd, PyData.canLay0], by simp only [PV.pd, PyData.depth]; omega⟩
theorem Lo.str {s : Str} (h : PyData.strOk s = true) {n : Nat} : Lo (.str s) (n + 1) := ⟨by simp only [PV.pd, PyData.canLay0]; exact h, by simp only [PV.pd, PyData.depth]; omega⟩
theorem Lo.all : ∀ {l : List PV} {n : Nat}, (∀ p ∈ l, Lo p n) → PyData.canLayAll0 (PV.pds l) = true ∧ PyData.depthAll (PV.pds l) ≤ n
  | [], n, _ => ⟨by simp only [PV.pds, PyData.canLayAll0], by simp only [PV.pds, PyData.depthAll]; omega⟩
  | p :: l, n, h => by
    obtain ⟨h1, h2⟩ := h p (by simp)
    obtain ⟨h3, h4⟩ := Lo.all (l := l) (n := n) fun q hq => h q (by simp [hq])
    refine ⟨by simp only [PV.pds, PyData.canLayAll0]; rw [h1, h3]; rfl, by simp only [PV.pds, PyData.depthAll]; omega⟩
theorem Lo.tup {l : List PV} {n : Nat} (h : ∀ p ∈ l, Lo p n) : Lo (.tup l) (n + 1) := by
  obtain ⟨h1, h2⟩ := Lo.all h
  exact ⟨by simp only [PV.pd, PyData.canLay0]; exact h1, by simp only [PV.pd, PyData.depth]; omega⟩
def Mkr.pv : Mkr → PV
  | .count b s => .tup [.str "count", .int b, .int s]
  | .row ns => .tup [.str "row", .tup (ns.map PV.int)]
def Kd.pvs : Kd → List PV
  | .add n => [.str "add", .int n]
  | .times n => [.str "times", .int n]
  | .keep r w => [.str "keep", .int r, .int w]
  | .drop k => [.str "drop", .int k]
  | .take k => [.str "take", .int k]
  | .each k => [.str "each", .int k]
  | .until n => [.str "until", .int n]
  | .unlike => [.str "unlike"]
def Ch.sp : Ch → List PV
  | .mkr _ => []
  | .st c k => c.sp ++ [.tup k.pvs]
  | .both c o => c.sp ++ [.tup [.str "both", .tup [o.root.pv, .tup o.sp]]]
  | .thn c o => c.sp ++ [.tup [.str "then", .tup [o.root.pv, .tup o.sp]]]
def Ch.pv (c : Ch) : PV := .tup [c.root.pv, .tup c.sp]
theorem ints_all (H : Hp) : ∀ ns : List Int, PVAll H (ns.map PV.int) (ns.map V.int)
  | [] => .nil
  | n :: ns => .cons (.int n) (ints_all H ns)
theorem MkAt.pv {H : Hp} {a : Addr} {m : Mkr} (h : MkAt H a m) : PVAt H m.pv (.ref a) := by
  cases m with
  | count b s => exact .tup h (.cons (.str _) (.cons (.int _) (.cons (.int _) .nil)))
  | row ns => obtain ⟨r, h1, h2⟩ := h; exact .tup h1 (.cons (.str _) (.cons (.tup h2 (ints_all H ns)) .nil))
theorem Kd.all (H : Hp) (k : Kd) : PVAll H k.pvs k.vals := by
  cases k
  all_goals first
    | exact .cons (.str _) .nil
    | exact .cons (.str _) (.cons (.int _) .nil)
    | exact .cons (.str _) (.cons (.int _) (.cons (.int _) .nil))
theorem StsAt.pv {H : Hp} : ∀ {c : Ch} {a : Addr} {as : List Addr}, StsAt H c a as → PVAt H c.root.pv (.ref a) ∧ PVAll H c.sp (as.map V.ref)
  | .mkr m, a, as, ⟨h1, h2⟩ => ⟨h2.pv, by rw [h1]; exact .nil⟩
  | .st c k, a, as, ⟨as', x, h1, h2, h3⟩ => by
    obtain ⟨q1, q2⟩ := StsAt.pv h2
    exact ⟨q1, by rw [h1, List.map_append]; exact PVAll.snoc q2 (.tup h3 (k.all H))⟩
  | .both c o, a, as, ⟨as', x, p, h1, h2, h3, m, ss, bs, h4, h5, h6⟩ => by
    obtain ⟨q1, q2⟩ := StsAt.pv h2
    obtain ⟨q3, q4⟩ := StsAt.pv h6
    exact ⟨q1, by rw [h1, List.map_append]; exact PVAll.snoc q2 (.tup h3 (.cons (.str _) (.cons (.tup h4 (.cons q3 (.cons (.tup h5 q4) .nil))) .nil)))⟩
  | .thn c o, a, as, ⟨as', x, p, h1, h2, h3, m, ss, bs, h4, h5, h6⟩ => by
    obtain ⟨q1, q2⟩ := StsAt.pv h2
    obtain ⟨q3, q4⟩ := StsAt.pv h6
    exact ⟨q1, by rw [h1, List.map_append]; exact PVAll.snoc q2 (.tup h3 (.cons (.str _) (.cons (.tup h4 (.cons q3 (.cons (.tup h5 q4) .nil))) .nil)))⟩
theorem ChAt.pv {H : Hp} {p : Addr} {c : Ch} (h : ChAt H p c) : PVAt H c.pv (.ref p) := by
  obtain ⟨m, ss, bs, h4, h5, h6⟩ := h
  obtain ⟨q3, q4⟩ := StsAt.pv h6
  exact .tup h4 (.cons q3 (.cons (.tup h5 q4) .nil))
theorem Mkr.lo (m : Mkr) : Lo m.pv 3 := by
  cases m with
  | count b s =>
    refine Lo.tup (n := 2) fun p hp => ?_
    simp only [List.mem_cons, List.not_mem_nil, or_false] at hp
    rcases hp with rfl | rfl | rfl
    · exact .str (by decide +kernel)
    · exact .int _
    · exact .int _
  | row ns =>
    refine Lo.tup (n := 2) fun p hp => ?_
    simp only [List.mem_cons, List.not_mem_nil, or_false] at hp
    rcases hp with rfl | rfl
    · exact .str (by decide +kernel)
    · refine Lo.tup (n := 1) fun p hp => ?_
      obtain ⟨i, _, rfl⟩ := List.mem_map.mp hp
      exact .int _
theorem Kd.lo (k : Kd) : Lo (.tup k.pvs) 2 := by
  refine Lo.tup (n := 1) fun p hp => ?_
  cases k <;> simp only [Kd.pvs, List.mem_cons, List.not_mem_nil, or_false] at hp <;> (try rcases hp with rfl | rfl | rfl) <;> (try rcases hp with rfl | rfl) <;> (try subst hp) <;> first | exact .int _ | exact .str (by decide +kernel)

/-! ### any chain of a text: what of it keeps to the bounds -/
theorem kd_head (k : Kd) : ∃ l, k.pvs = .str k.name :: l := by cases k <;> exact ⟨_, rfl⟩
theorem kd_sub (k : Kd) : PV.sub (.tup k.pvs) = none := by cases k <;> first | rfl | (show (if _ then _ else _) = _; exact if_neg (by decide +kernel))
theorem strOk_kd (k : Kd) : PyData.strOk k.name = true := by cases k <;> (simp only [Kd.name]; decide +kernel)
theorem sp_mem : ∀ {c : Ch} {s : PV}, s ∈ c.sp → (∃ k : Kd, s = .tup k.pvs) ∨ ∃ o : Ch, s = .tup [.str "both", o.pv] ∨ s = .tup [.str "then", o.pv]
  | .mkr _, s, h => by cases h
  | .st c k, s, h => (List.mem_append.mp (show s ∈ c.sp ++ [.tup k.pvs] from h)).elim (fun q => sp_mem q) fun q => .inl ⟨k, List.mem_singleton.mp q⟩
  | .both c o, s, h => (List.mem_append.mp (show s ∈ c.sp ++ [_] from h)).elim (fun q => sp_mem q) fun q => .inr ⟨o, .inl (List.mem_singleton.mp q)⟩
  | .thn c o, s, h => (List.mem_append.mp (show s ∈ c.sp ++ [_] from h)).elim (fun q => sp_mem q) fun q => .inr ⟨o, .inr (List.mem_singleton.mp q)⟩
def IsCh (p : PV) : Prop := ∃ c : Ch, p = c.pv
theorem isCh_inv {m : PV} {ss : List PV} (h : IsCh (.tup [m, .tup ss])) : ∃ c : Ch, m = c.root.pv ∧ ss = c.sp := by
  obtain ⟨c, e⟩ := h
  unfold Ch.pv at e
  cases e
  exact ⟨c, rfl, rfl⟩
theorem sub_bt {t : Str} (ht : t = "both" ∨ t = "then") {x : PV} : PV.sub (.tup [.str t, x]) = some x := by
  show (if PV.isS "both" (.str t) = true ∨ PV.isS "then" (.str t) = true then some x else none) = some x
  rw [if_pos]
  rcases ht with rfl | rfl
  · exact .inl (by decide +kernel)
  · exact .inr (by decide +kernel)
theorem hold_ch : Hold IsCh where
  mak := fun h => by
    obtain ⟨c, rfl, rfl⟩ := isCh_inv h
    exact (Mkr.lo c.root).shp (by decide)
  st := fun {m ss s} h hs q l e => by
    obtain ⟨c, rfl, rfl⟩ := isCh_inv h
    rcases sp_mem hs with ⟨k, rfl⟩ | ⟨o, rfl | rfl⟩
    · obtain ⟨l', e'⟩ := kd_head k
      rw [e'] at e
      cases e
      exact (Lo.str (strOk_kd k) (n := 1)).shp (by decide)
    · cases e; exact (Lo.str (by decide +kernel) (n := 1)).shp (by decide)
    · cases e; exact (Lo.str (by decide +kernel) (n := 1)).shp (by decide)
  sub := fun {m ss s x} h hs e => by
    obtain ⟨c, rfl, rfl⟩ := isCh_inv h
    rcases sp_mem hs with ⟨k, rfl⟩ | ⟨o, rfl | rfl⟩
    · rw [kd_sub] at e; cases e
    · rw [sub_bt (.inl rfl)] at e
      cases e; exact ⟨o, rfl⟩
    · rw [sub_bt (.inr rfl)] at e
      cases e; exact ⟨o, rfl⟩
def gdM : Mkr → Prop
  | .count _ _ => True
  | .row ns => ns.length ≤ 100
def gdK : Kd → Prop
  | .keep r w => 2 ≤ w ∧ w ≤ 1000 ∧ 0 ≤ r ∧ r < w
  | .drop k => 0 ≤ k ∧ k ≤ 100
  | .take k => 0 ≤ k ∧ k ≤ 100
  | .each k => 1 ≤ k ∧ k ≤ 10
  | _ => True
def Ch.gM : Ch → Prop
  | .mkr m => gdM m
  | .st c _ => c.gM
  | .both c o => c.gM ∧ o.gM
  | .thn c o => c.gM ∧ o.gM
def Ch.gK : Ch → Prop
  | .mkr _ => True
  | .st c k => c.gK ∧ gdK k
  | .both c o => c.gK ∧ o.gK
  | .thn c o => c.gK ∧ o.gK
def Ch.good (c : Ch) : Prop := c.gM ∧ c.gK ∧ c.nm ≤ 4 ∧ c.ns ≤ 12
theorem numB_ok {i : Int} : numB (.int i) = true ↔ numOk i := by
  show (decide _ && decide _) = true ↔ _
  rw [Bool.and_eq_true, decide_eq_true_iff, decide_eq_true_iff]
  exact Iff.rfl
theorem within_ok {i lo hi : Int} (h : numOk i) : withinB (.int i) lo hi = true ↔ lo ≤ i ∧ i ≤ hi := by
  show (numB (.int i) && (decide _ && decide _)) = true ↔ _
  rw [numB_ok.mpr h, Bool.true_and, Bool.and_eq_true, decide_eq_true_iff, decide_eq_true_iff]
theorem all_num : ∀ {ns : List Int}, (∀ n ∈ ns, numOk n) → (ns.map PV.int).all numB = true
  | [], _ => rfl
  | n :: ns, h => by
    rw [List.map_cons, List.all_cons, numB_ok.mpr (h n (by simp)), all_num fun x hx => h x (by simp [hx])]
    rfl
theorem mkB_iff {m : Mkr} (h : m.num) : mkB m.pv = true ↔ gdM m := by
  cases m with
  | count b s =>
    refine ⟨fun _ => trivial, fun _ => ?_⟩
    show (PV.isS "count" (.str "count") && (numB (.int b) && numB (.int s))) = true
    rw [numB_ok.mpr h.1, numB_ok.mpr h.2]
    decide +kernel
  | row ns =>
    show (PV.isS "row" (.str "row") && (decide ((ns.map PV.int).length ≤ 100) && (ns.map PV.int).all numB)) = true ↔ ns.length ≤ 100
    rw [all_num h, show PV.isS "row" (.str "row") = true by decide +kernel, Bool.true_and, Bool.and_true, decide_eq_true_iff, List.length_map]
theorem stB_iff {k : Kd} (h : k.num) : stB (.tup k.pvs) = true ↔ gdK k := by
  cases k with
  | add n => exact ⟨fun _ => trivial, fun _ => (stB2_num (.inl (by decide +kernel))).trans (numB_ok.mpr (h n (by simp [Kd.nums])))⟩
  | times n => exact ⟨fun _ => trivial, fun _ => (stB2_num (.inr (.inl (by decide +kernel)))).trans (numB_ok.mpr (h n (by simp [Kd.nums])))⟩
  | «until» n => exact ⟨fun _ => trivial, fun _ => (stB2_num (.inr (.inr (by decide +kernel)))).trans (numB_ok.mpr (h n (by simp [Kd.nums])))⟩
  | unlike => exact ⟨fun _ => trivial, fun _ => by decide +kernel⟩
  | drop n =>
    rw [show stB (.tup (Kd.drop n).pvs) = withinB (.int n) 0 100 from stB2_low (.inl (by decide +kernel))]
    exact within_ok (h n (by simp [Kd.nums]))
  | take n =>
    rw [show stB (.tup (Kd.take n).pvs) = withinB (.int n) 0 100 from stB2_low (.inr (by decide +kernel))]
    exact within_ok (h n (by simp [Kd.nums]))
  | each n =>
    rw [show stB (.tup (Kd.each n).pvs) = withinB (.int n) 1 10 from stB2_each (by decide +kernel)]
    exact within_ok (h n (by simp [Kd.nums]))
  | keep r w =>
    show (PV.isS "keep" (.str "keep") && (withinB (.int w) 2 1000 && withinB (.int r) 0 (w - 1))) = true ↔ _
    rw [show PV.isS "keep" (.str "keep") = true by decide +kernel, Bool.true_and, Bool.and_eq_true, within_ok (h w (by simp [Kd.nums])), within_ok (h r (by simp [Kd.nums]))]
    show (2 ≤ w ∧ w ≤ 1000) ∧ 0 ≤ r ∧ r ≤ w - 1 ↔ 2 ≤ w ∧ w ≤ 1000 ∧ 0 ≤ r ∧ r < w
    omega
theorem WfA.app : ∀ {l m : List PV} {a b : Nat}, WfA (l ++ m) a b ↔ ∃ a1 b1 a2 b2, WfA l a1 b1 ∧ WfA m a2 b2 ∧ a = a1 + a2 ∧ b = b1 + b2
  | [], m, a, b => ⟨fun h => ⟨0, 0, a, b, .nil, h, by omega, by omega⟩, fun ⟨_, _, _, _, h1, h2, e1, e2⟩ => by cases h1; rw [e1, e2, Nat.zero_add, Nat.zero_add]; exact h2⟩
  | s :: l, m, a, b => by
    constructor
    · intro h
      cases h with
      | one h1 h2 h3 =>
        obtain ⟨a1, b1, a2, b2, q1, q2, e1, e2⟩ := WfA.app.mp h3
        exact ⟨a1, b1, a2, b2, .one h1 h2 q1, q2, e1, e2⟩
      | sub h1 h2 h3 h4 =>
        obtain ⟨a1, b1, a2, b2, q1, q2, rfl, rfl⟩ := WfA.app.mp h4
        exact ⟨_, _, a2, b2, .sub h1 h2 h3 q1, q2, by omega, by omega⟩
    · rintro ⟨a1, b1, a2, b2, q1, q2, rfl, rfl⟩
      cases q1 with
      | one h1 h2 h3 => exact .one h1 h2 (WfA.app.mpr ⟨_, _, _, _, h3, q2, rfl, rfl⟩)
      | sub h1 h2 h3 h4 => rw [Nat.add_assoc, Nat.add_assoc]; exact .sub h1 h2 h3 (WfA.app.mpr ⟨_, _, _, _, h4, q2, rfl, rfl⟩)
theorem WfA.single {k : Kd} {a b : Nat} : WfA [.tup k.pvs] a b ↔ stB (.tup k.pvs) = true ∧ a = 0 ∧ b = 0 := by
  constructor
  · intro h
    cases h with
    | one h1 h2 h3 => cases h3; exact ⟨h1, rfl, rfl⟩
    | sub h1 h2 h3 h4 => rw [kd_sub] at h2; cases h2
  · rintro ⟨h, rfl, rfl⟩
    exact .one h (kd_sub k) .nil
theorem Wf.pair {m : PV} {ss : List PV} {a b : Nat} : Wf (.tup [m, .tup ss]) a b ↔ ∃ a' b', mkB m = true ∧ WfA ss a' b' ∧ a = a' + 1 ∧ b = b' + ss.length :=
  ⟨fun h => by cases h with | mk h1 h2 => exact ⟨_, _, h1, h2, rfl, rfl⟩, fun ⟨_, _, h1, h2, e1, e2⟩ => by rw [e1, e2]; exact .mk h1 h2⟩
theorem WfA.inner {t : Str} (ht : t = "both" ∨ t = "then") {o : Ch} {a b : Nat} : WfA [.tup [.str t, o.pv]] a b ↔ Wf o.pv a b := by
  have h1 : stB (.tup [.str t, o.pv]) = true := by
    rcases ht with rfl | rfl
    · rw [stB2_rest (by decide +kernel) (by decide +kernel) (by decide +kernel) (by decide +kernel) (by decide +kernel) (by decide +kernel)]; decide +kernel
    · rw [stB2_rest (by decide +kernel) (by decide +kernel) (by decide +kernel) (by decide +kernel) (by decide +kernel) (by decide +kernel)]; decide +kernel
  have h2 : PV.sub (.tup [.str t, o.pv]) = some o.pv := sub_bt ht
  constructor
  · intro h
    cases h with
    | one q1 q2 q3 => rw [h2] at q2; cases q2
    | sub q1 q2 q3 q4 => rw [h2] at q2; cases q2; cases q4; exact q3
  · intro h
    exact WfA.sub (a' := 0) (b' := 0) h1 h2 h .nil
theorem sp_ns : ∀ c : Ch, c.sp.length ≤ c.ns
  | .mkr _ => Nat.le_refl _
  | .st c k => by have := sp_ns c; show (c.sp ++ [_]).length ≤ c.ns + 1; rw [List.length_append, List.length_singleton]; omega
  | .both c o => by have := sp_ns c; show (c.sp ++ [_]).length ≤ c.ns + o.ns + 1; rw [List.length_append, List.length_singleton]; omega
  | .thn c o => by have := sp_ns c; show (c.sp ++ [_]).length ≤ c.ns + o.ns + 1; rw [List.length_append, List.length_singleton]; omega
theorem ch_wf : ∀ {c : Ch}, c.num → ∀ {a b : Nat}, (mkB c.root.pv = true ∧ WfA c.sp a b) ↔ (c.gM ∧ c.gK) ∧ a + 1 = c.nm ∧ b + c.sp.length = c.ns
  | .mkr m, h, a, b => by
    constructor
    · rintro ⟨h1, h2⟩
      have h2 : WfA [] a b := h2
      cases h2
      exact ⟨⟨(mkB_iff h).mp h1, trivial⟩, rfl, rfl⟩
    · rintro ⟨⟨h1, _⟩, h2, h3⟩
      have h2 : a + 1 = 1 := h2
      have h3 : b + 0 = 0 := h3
      obtain rfl : a = 0 := by omega
      obtain rfl : b = 0 := by omega
      exact ⟨(mkB_iff h).mpr h1, .nil⟩
  | .st c k, h, a, b => by
    have ih := fun {a b} => ch_wf h.1 (a := a) (b := b)
    show (mkB c.root.pv = true ∧ WfA (c.sp ++ [.tup k.pvs]) a b) ↔ (c.gM ∧ c.gK ∧ gdK k) ∧ a + 1 = c.nm ∧ b + (c.sp ++ [PV.tup k.pvs]).length = c.ns + 1
    rw [List.length_append, List.length_singleton]
    constructor
    · rintro ⟨h1, h2⟩
      obtain ⟨a1, b1, a2, b2, q1, q2, rfl, rfl⟩ := WfA.app.mp h2
      obtain ⟨q3, rfl, rfl⟩ := WfA.single.mp q2
      obtain ⟨⟨g1, g2⟩, g3, g4⟩ := ih.mp ⟨h1, q1⟩
      exact ⟨⟨g1, g2, (stB_iff h.2).mp q3⟩, g3, by omega⟩
    · rintro ⟨⟨g1, g2, g3⟩, g4, g5⟩
      obtain ⟨h1, h2⟩ := ih.mpr ⟨⟨g1, g2⟩, g4, (by omega : b + c.sp.length = c.ns)⟩
      exact ⟨h1, WfA.app.mpr ⟨a, b, 0, 0, h2, WfA.single.mpr ⟨(stB_iff h.2).mpr g3, rfl, rfl⟩, rfl, rfl⟩⟩
  | .both c o, h, a, b => by
    have ih := fun {a b} => ch_wf h.1 (a := a) (b := b)
    have ih2 := fun {a b} => ch_wf h.2 (a := a) (b := b)
    show (mkB c.root.pv = true ∧ WfA (c.sp ++ [.tup [.str "both", o.pv]]) a b) ↔ ((c.gM ∧ o.gM) ∧ c.gK ∧ o.gK) ∧ a + 1 = c.nm + o.nm ∧ b + (c.sp ++ [PV.tup [.str "both", o.pv]]).length = c.ns + o.ns + 1
    rw [List.length_append, List.length_singleton]
    constructor
    · rintro ⟨h1, h2⟩
      obtain ⟨a1, b1, a2, b2, q1, q2, rfl, rfl⟩ := WfA.app.mp h2
      obtain ⟨a', b', q3, q4, rfl, rfl⟩ := Wf.pair.mp ((WfA.inner (.inl rfl)).mp q2)
      obtain ⟨⟨g1, g2⟩, g3, g4⟩ := ih.mp ⟨h1, q1⟩
      obtain ⟨⟨k1, k2⟩, k3, k4⟩ := ih2.mp ⟨q3, q4⟩
      exact ⟨⟨⟨g1, k1⟩, g2, k2⟩, by omega, by omega⟩
    · rintro ⟨⟨⟨g1, k1⟩, g2, k2⟩, e1, e2⟩
      have := c.nm_pos
      have := o.nm_pos
      have l1 := sp_ns c
      have l2 := sp_ns o
      obtain ⟨h1, h2⟩ := ih.mpr ⟨⟨g1, g2⟩, (by omega : (c.nm - 1) + 1 = c.nm), (by omega : (c.ns - c.sp.length) + c.sp.length = c.ns)⟩
      obtain ⟨h3, h4⟩ := ih2.mpr ⟨⟨k1, k2⟩, (by omega : (o.nm - 1) + 1 = o.nm), (by omega : (o.ns - o.sp.length) + o.sp.length = o.ns)⟩
      exact ⟨h1, WfA.app.mpr ⟨_, _, _, _, h2, (WfA.inner (.inl rfl)).mpr (Wf.pair.mpr ⟨_, _, h3, h4, rfl, rfl⟩), by omega, by omega⟩⟩
  | .thn c o, h, a, b => by
    have ih := fun {a b} => ch_wf h.1 (a := a) (b := b)
    have ih2 := fun {a b} => ch_wf h.2 (a := a) (b := b)
    show (mkB c.root.pv = true ∧ WfA (c.sp ++ [.tup [.str "then", o.pv]]) a b) ↔ ((c.gM ∧ o.gM) ∧ c.gK ∧ o.gK) ∧ a + 1 = c.nm + o.nm ∧ b + (c.sp ++ [PV.tup [.str "then", o.pv]]).length = c.ns + o.ns + 1
    rw [List.length_append, List.length_singleton]
    constructor
    · rintro ⟨h1, h2⟩
      obtain ⟨a1, b1, a2, b2, q1, q2, rfl, rfl⟩ := WfA.app.mp h2
      obtain ⟨a', b', q3, q4, rfl, rfl⟩ := Wf.pair.mp ((WfA.inner (.inr rfl)).mp q2)
      obtain ⟨⟨g1, g2⟩, g3, g4⟩ := ih.mp ⟨h1, q1⟩
      obtain ⟨⟨k1, k2⟩, k3, k4⟩ := ih2.mp ⟨q3, q4⟩
      exact ⟨⟨⟨g1, k1⟩, g2, k2⟩, by omega, by omega⟩
    · rintro ⟨⟨⟨g1, k1⟩, g2, k2⟩, e1, e2⟩
      have := c.nm_pos
      have := o.nm_pos
      have l1 := sp_ns c
      have l2 := sp_ns o
      obtain ⟨h1, h2⟩ := ih.mpr ⟨⟨g1, g2⟩, (by omega : (c.nm - 1) + 1 = c.nm), (by omega : (c.ns - c.sp.length) + c.sp.length = c.ns)⟩
      obtain ⟨h3, h4⟩ := ih2.mpr ⟨⟨k1, k2⟩, (by omega : (o.nm - 1) + 1 = o.nm), (by omega : (o.ns - o.sp.length) + o.sp.length = o.ns)⟩
      exact ⟨h1, WfA.app.mpr ⟨_, _, _, _, h2, (WfA.inner (.inr rfl)).mpr (Wf.pair.mpr ⟨_, _, h3, h4, rfl, rfl⟩), by omega, by omega⟩⟩
theorem good_iff {c : Ch} (h : c.num) : GoodP c.pv ↔ c.good := by
  constructor
  · rintro ⟨a, b, hw, h1, h2⟩
    obtain ⟨a', b', q1, q2, rfl, rfl⟩ := Wf.pair.mp hw
    obtain ⟨⟨g1, g2⟩, g3, g4⟩ := (ch_wf h).mp ⟨q1, q2⟩
    exact ⟨g1, g2, by omega, by omega⟩
  · rintro ⟨g1, g2, g3, g4⟩
    have := c.nm_pos
    have := sp_ns c
    obtain ⟨h1, h2⟩ := (ch_wf h).mpr ⟨⟨g1, g2⟩, (by omega : (c.nm - 1) + 1 = c.nm), (by omega : (c.ns - c.sp.length) + c.sp.length = c.ns)⟩
    exact ⟨_, _, Wf.pair.mpr ⟨_, _, h1, h2, rfl, rfl⟩, by omega, by omega⟩
end Dc

set_option Elab.async false
set_option linter.all false
set_option maxRecDepth 100000
set_option maxHeartbeats 4000000
namespace Dc
open PySem PySem.Spec PyProof.Rows L2
local macro_rules | `(tactic| walk_at "ne") => `(tactic| first | assumption | (refine Ne.symm ?_; assumption) | exact ne_of (by assumption) (by assumption) (by intro q; cases q) | exact ne_of_none (by assumption) (by assumption) | exact Ne.symm (ne_of_none (by assumption) (by assumption)))
local macro_rules | `(tactic| walk_at "hp") => `(tactic| first | assumption | exact upd_same | (refine upd_keep ?_ (by assumption); walk_at "hp") | (refine upd_other ?_ ?_; · walk_at "ne"; · walk_at "hp"))
local macro_rules | `(tactic| walk_at "hl") => `(tactic| first | assumption | exact SqL.of (by walk_at "hp"))
local macro_rules | `(tactic| walk_at "ht") => `(tactic| first | assumption | exact SqT.of (by walk_at "hp"))
local macro_rules | `(tactic| walk_at "rd1") => `(tactic| first
  | ((with_reducible apply rd_var); exact rfl)
  | ((with_reducible apply rd_eq); exact rfl) | ((with_reducible apply rd_ne); exact rfl)
  | with_reducible first
  | refine iteT ?_ | refine iteF ?_ | refine rd_nF ?_ | refine rd_nT ?_ | refine rd_yes ?_ | refine rd_c ?_ | refine rd_op ?_ | refine rd_un ?_ | refine rd_test ?_ | refine rd_B ?_ | refine rd_bl ?_ | refine rd_seq ?_ | refine rd_next ?_ | refine rd_ifs ?_ | refine rd_asg ?_ | refine rd_name ?_ | refine rd_ret ?_ | refine rd_drop ?_
  | refine rd_call ?_ | refine rd_cons ?_ | refine rd_nil ?_ | refine rd_cb ?_ | refine rd_I0 ?_ | refine rd_U ?_ | refine rd_gsub ?_ | refine rd_lst ?_ | refine rd_tup ?_ | refine rd_if ?_ | refine rd_not ?_ | refine rd_rng1 ?_ | refine rd_itup ?_ | refine rd_ilst ?_ | refine rd_bm ?_ | refine rd_bm0 ?_ | refine rd_andV ?_ | refine rd_orV ?_ | refine rd_notV ?_)
local macro_rules | `(tactic| walk_at "rd") => `(tactic| repeat walk_at "rd1")
local macro_rules | `(tactic| walk_at "ci") => `(tactic| first | assumption | (show (0 : Int) < _; first | decide | omega) | exact ⟨by decide, by decide⟩ | exact Or.inr ⟨by decide, by decide⟩ | exact Or.inl ⟨by decide, by decide⟩ | exact ⟨by decide, by decide, by decide⟩ | exact Or.inl ⟨by omega, by omega⟩ | exact Or.inr ⟨by omega, by omega⟩)
local macro_rules | `(tactic| walk_at "ix") => `(tactic| first
  | ((with_reducible apply rd_ixL); (walk_at "hl"); exact rfl)
  | ((with_reducible apply rd_ixT); (walk_at "ht"); exact rfl)
  | ((with_reducible apply rd_lenL); (walk_at "hl"))
  | ((with_reducible apply rd_lenT); (walk_at "ht"))
  | ((with_reducible apply rd_tupOf); (walk_at "hl"))
  | ((with_reducible apply rd_listOf); (walk_at "hl"))
  | (with_reducible refine rd_min2 ?_)
  | ((with_reducible apply rd_I); (walk_at "ci"))
  | ((with_reducible apply rd_setL); (walk_at "hp"); exact rfl))
local macro_rules | `(tactic| walk_at "gs") => `(tactic| repeat first | walk_at "rd1" | walk_at "ix")
local macro_rules | `(tactic| walk_at "go") => `(tactic| repeat first | walk_at "rd1" | walk_at "ix" | with_reducible refine rd_and ?_ | with_reducible refine rd_or ?_)
local macro_rules | `(tactic| walk_at "fo") => `(tactic| (with_reducible refine rd_for ?_))
local macro_rules | `(tactic| walk_at "pm") => `(tactic| repeat first
  | with_reducible first | refine rd_pcons ?_ | refine rd_pstr ?_ | refine rd_pcap ?_ | refine rd_pwild ?_ | refine rd_pnil ?_ | refine rd_por ?_ | refine rd_pno ?_
  | ((with_reducible refine rd_eq rfl ?_); refine ⟨_, rfl, ?_⟩; first | refine rd_T rfl ?_ | refine rd_F (by decide) ?_)
  | dsimp only [List.nil_append, List.singleton_append, List.cons_append, setAll])
local macro_rules | `(tactic| walk_at "pc") => `(tactic| (refine rd_case ?_); (first | (refine rd_phit (SqT.of (by assumption)) rfl ?_) | (refine rd_pmiss (SqT.of (by assumption)) (by simp) ?_)); (walk_at "pm"))

/-- the stages of the chains within -/
def Ch.inn : Ch → List Sg
  | .mkr _ => []
  | .st c _ => c.inn
  | .both c o => c.inn ++ (o.sgs ++ o.inn)
  | .thn c o => c.inn ++ (o.sgs ++ o.inn)
def Ch.alls (c : Ch) : List Sg := c.sgs ++ c.inn
def Sg.alls : Sg → List Sg
  | .one _ => []
  | .both o => o.alls
  | .thn o => o.alls
theorem Ch.snoc_inn (c : Ch) (g : Sg) : (c.snoc g).inn = c.inn ++ g.alls := by
  cases g with
  | one k => exact (List.append_nil _).symm
  | both o => rfl
  | thn o => rfl
theorem Ch.alls_len : ∀ c : Ch, c.alls.length = c.ns
  | .mkr _ => rfl
  | .st c k => by
    have := c.alls_len
    unfold Ch.alls at this ⊢
    rw [List.length_append] at this ⊢
    show (c.sgs ++ [Sg.one k]).length + c.inn.length = c.ns + 1
    rw [List.length_append, List.length_singleton]; omega
  | .both c o => by
    have h1 := c.alls_len
    have h2 := o.alls_len
    unfold Ch.alls at h1 h2 ⊢
    rw [List.length_append] at h1 h2 ⊢
    show (c.sgs ++ [Sg.both o]).length + (c.inn ++ (o.sgs ++ o.inn)).length = c.ns + o.ns + 1
    rw [List.length_append, List.length_singleton, List.length_append, List.length_append]; omega
  | .thn c o => by
    have h1 := c.alls_len
    have h2 := o.alls_len
    unfold Ch.alls at h1 h2 ⊢
    rw [List.length_append] at h1 h2 ⊢
    show (c.sgs ++ [Sg.thn o]).length + (c.inn ++ (o.sgs ++ o.inn)).length = c.ns + o.ns + 1
    rw [List.length_append, List.length_singleton, List.length_append, List.length_append]; omega
def gdS : Sg → Prop
  | .one k => gdK k
  | _ => True
theorem gK_iff : ∀ c : Ch, c.gK ↔ ∀ g ∈ c.alls, gdS g
  | .mkr _ => ⟨fun _ g h => (by cases h), fun _ => trivial⟩
  | .st c k => by
    have h := gK_iff c
    show (c.gK ∧ gdK k) ↔ ∀ g ∈ (c.sgs ++ [Sg.one k]) ++ c.inn, gdS g
    rw [h]
    unfold Ch.alls
    simp only [List.mem_append, List.mem_singleton]
    constructor
    · rintro ⟨h1, h2⟩ g ((h | rfl) | h)
      · exact h1 g (.inl h)
      · exact h2
      · exact h1 g (.inr h)
    · intro h
      exact ⟨fun g hg => hg.elim (fun q => h g (.inl (.inl q))) fun q => h g (.inr q), h (.one k) (.inl (.inr rfl))⟩
  | .both c o => by
    have h1 := gK_iff c
    have h2 := gK_iff o
    show (c.gK ∧ o.gK) ↔ ∀ g ∈ (c.sgs ++ [Sg.both o]) ++ (c.inn ++ (o.sgs ++ o.inn)), gdS g
    rw [h1, h2]
    unfold Ch.alls
    simp only [List.mem_append, List.mem_singleton]
    constructor
    · rintro ⟨h1, h2⟩ g ((h | rfl) | (h | h))
      · exact h1 g (.inl h)
      · exact trivial
      · exact h1 g (.inr h)
      · exact h2 g h
    · intro h
      exact ⟨fun g hg => hg.elim (fun q => h g (.inl (.inl q))) fun q => h g (.inr (.inl q)), fun g hg => h g (.inr (.inr hg))⟩
  | .thn c o => by
    have h1 := gK_iff c
    have h2 := gK_iff o
    show (c.gK ∧ o.gK) ↔ ∀ g ∈ (c.sgs ++ [Sg.thn o]) ++ (c.inn ++ (o.sgs ++ o.inn)), gdS g
    rw [h1, h2]
    unfold Ch.alls
    simp only [List.mem_append, List.mem_singleton]
    constructor
    · rintro ⟨h1, h2⟩ g ((h | rfl) | (h | h))
      · exact h1 g (.inl h)
      · exact trivial
      · exact h1 g (.inr h)
      · exact h2 g h
    · intro h
      exact ⟨fun g hg => hg.elim (fun q => h g (.inl (.inl q))) fun q => h g (.inr (.inl q)), fun g hg => h g (.inr (.inr hg))⟩
theorem gM_iff : ∀ c : Ch, c.gM ↔ ∀ m ∈ c.mks, gdM m
  | .mkr m => by simp [Ch.gM, Ch.mks]
  | .st c k => gM_iff c
  | .both c o => by
    show (c.gM ∧ o.gM) ↔ ∀ m ∈ c.mks ++ o.mks, gdM m
    rw [gM_iff c, gM_iff o]
    simp only [List.mem_append]
    exact ⟨fun h m hm => hm.elim (h.1 m) (h.2 m), fun h => ⟨fun m hm => h m (.inl hm), fun m hm => h m (.inr hm)⟩⟩
  | .thn c o => by
    show (c.gM ∧ o.gM) ↔ ∀ m ∈ c.mks ++ o.mks, gdM m
    rw [gM_iff c, gM_iff o]
    simp only [List.mem_append]
    exact ⟨fun h m hm => hm.elim (h.1 m) (h.2 m), fun h => ⟨fun m hm => h m (.inl hm), fun m hm => h m (.inr hm)⟩⟩
theorem sgs_get {H : Hp} : ∀ {as : List Addr} {gs : List Sg}, as.length = gs.length → (∀ (i : Nat) (x : Addr), as[i]? = some x → ∃ g, gs[i]? = some g ∧ SgAt H x g) → SgsAt H as gs
  | [], [], _, _ => trivial
  | x :: as, g :: gs, hl, h => by
    refine ⟨?_, sgs_get (Nat.succ.inj hl) fun i y hy => h (i + 1) y hy⟩
    obtain ⟨g', e, q⟩ := h 0 x rfl
    cases e
    exact q
  | [], _ :: _, h, _ => by cases h
  | _ :: _, [], h, _ => by cases h
theorem SgsAt.get {H : Hp} : ∀ {as : List Addr} {gs : List Sg}, SgsAt H as gs → ∀ (i : Nat) (x : Addr), as[i]? = some x → ∃ g, gs[i]? = some g ∧ SgAt H x g
  | [], [], _, _, _, h => by cases h
  | x :: as, g :: gs, h, 0, y, hy => by cases hy; exact ⟨g, rfl, h.1⟩
  | x :: as, g :: gs, h, i + 1, y, hy => SgsAt.get h.2 i y hy
  | [], _ :: _, h, _, _, _ => h.elim
  | _ :: _, [], h, _, _, _ => h.elim
def spStages (n : Nat) : Sp := fun vs H Q _ => ∃ (p : Addr) (c : Ch), vs = [.ref p] ∧ ChAt H p c ∧ c.nm ≤ n ∧ c.ns ≤ 1000 ∧ ∀ H' q as, H' q = some (.lst (as.map V.ref)) → SgsAt H' as c.alls → H q = none → Fr [] H H' → Q (.ref q) H'
section
variable {P : Program} {w : World} {K : PySem.W.Frag} {mg : Str → Option Value} {base : Heap} {f f2 : Addr} {fd fd2 : FuncData}
theorem sc__law_stages : FnScope ["_law_chain_here", "_law_found", "_law_stage_here"] ["_law_chain_here"] (defScope s__law_stages) := ⟨rfl, rfl, rfl, by decide +kernel, rfl, by decide +kernel, by decide +kernel⟩
theorem ok_law_stages {n : Nat} (hn1 : n ≤ 1000) (T : Txt K mg) (F : FnP K "_law_stages" "_law_stages" s__law_stages f fd) (G__law_stages : Cal P w K mg base CX0 (n + 1) "_law_stages" ["_law_chain_here"] (spStages n)) :
    FnOk P w K mg base CX0 (n + 2) f fd ["_law_chain_here"] (spStages (n + 1)) := by
  refine ok0 F sc__law_stages (fun vs H Q E h => ?_) (fun cdv A outer s H vs Q E hr h => ?_)
  · obtain ⟨p, c, rfl, _⟩ := h
    rfl
  · obtain ⟨p, c, rfl, ⟨mk, ss, bs, ep, ess, hst⟩, hn, hns, k⟩ := h
    have hg := hst.get
    refine ⟨_, (pss_cons (ps_set (i := 1) sc__law_stages.nd rfl (Or.inl rfl) (pe_callTy (call_listOfK K) (by rfl) T.free_list (by decide +kernel) (pa_cons (pe_ix (ix_tupK K) (pv 0) pe_int (fun _ _ => rfl)) pa_nil)))
  (pss_cons (ps_for PassesOwn.never rfl (pi_tup (pe_ix (ix_tupK K) (pv 0) pe_int (fun _ _ => rfl))) (pg_name (i := 2) sc__law_stages.nd rfl (Or.inl rfl))
    (pss_one (ps_if (pt_cmpR (op_in_seqK K) (pe_ix (ix_tupK K) (pv 2) pe_int (fun _ _ => rfl)) (pe_tup (pa_cons pe_str (pa_cons pe_str pa_nil))) (by rfl))
      (pss_one (ps_set (i := 1) sc__law_stages.nd rfl (Or.inl rfl) (pe_op op_cat (pv 1) (pe_cal G__law_stages (hr.mono (by omega)) pass0 (pa_cons (pe_ix (ix_tupK K) (pv 2) pe_int (fun _ _ => rfl)) pa_nil))))) pss_nil)))
  (pss_one (ps_ret (pv 1))))), ?_⟩
    try dsimp only [cxOf, Cx.nox, Cx.wish]
    refine rd_at (σ' := [some (.ref p), none, none]) rfl ?_
    walk_at "go"
    refine ⟨ss, _, rfl, .inr (SqT.of ess), fun q0 hq0 => ?_⟩
    have f0 : Fr [] H (upd H q0 (.lst (bs.map V.ref))) := Fr.new hq0
    walk_at "go"
    walk_at "fo"
    walk_at "go"
    refine ⟨ss, rfl, ⟨_, SqT.of (f0.tp ess)⟩, for_tup (K := K) (a := ss) (xs := bs.map V.ref) (fun i σ H' => ∃ (ms : List Addr) (q : Addr) (v : Option V), σ = [some (.ref p), some (.ref q), v] ∧ H' q = some (.lst (ms.map V.ref)) ∧ SgsAt H' ms (c.sgs ++ (Ch.of c.root (c.sgs.take i)).inn) ∧ H q = none ∧ Fr [] H H')
      ⟨bs, q0, none, rfl, upd_same, by rw [show (Ch.of c.root (c.sgs.take 0)).inn = [] from rfl, List.append_nil]; exact (sgs_get hg.1 hg.2).fr f0, hq0, f0⟩ (fun i σ H' _ ⟨_, _, _, _, _, _, _, fr⟩ => SqT.of (fr.tp ess)) ?_ ?_⟩
    · rintro i y σ H' hi ⟨ms, q, v, rfl, eq, hm, hq, fi⟩
      obtain ⟨sx, hsx, rfl⟩ : ∃ sx, bs[i]? = some sx ∧ y = .ref sx := by
        rw [List.getElem?_map] at hi
        cases e : bs[i]? with
        | none => rw [e] at hi; cases hi
        | some z => rw [e] at hi; exact ⟨z, rfl, (Option.some.inj hi).symm⟩
      obtain ⟨g, hgi, gat⟩ := hg.2 i sx hsx
      have nn := Ch.of_take c.root hgi
      have hle := Ch.of_take_nm c (i + 1)
      rw [nn, Ch.snoc_nm] at hle
      have hls := Ch.of_take_ns c (i + 1)
      rw [nn, Ch.snoc_ns] at hls
      have hp1 := (Ch.of c.root (c.sgs.take i)).nm_pos
      have gat' := gat.fr fi
      obtain ⟨vs, nm, ev, e0, hb⟩ := sg_name gat'
      walk_at "go"
      refine rd_ixT (SqT.of ev) e0 ?_
      walk_at "go"
      refine ⟨by show 2 ≤ sizeLine; decide, fun tp htp => ?_⟩
      refine ⟨tp, _, rfl, .inr (SqT.of upd_same), rfl, rfl, ?_⟩
      rw [if_neg (by decide), hb]
      have ft : Fr [] H' (upd H' tp (.tup [.str "both", .str "then"])) := Fr.new htp
      have fi2 := fi.tr ft
      replace eq := ft.at eq (by simp)
      replace hm := hm.fr ft
      replace gat' := gat'.fr ft
      clear ev e0 hb
      show ∃ k, _
      generalize upd H' tp (.tup [.str "both", .str "then"]) = H2 at *
      walk_at "go"
      refine rd_b (fun cg => ?_) (fun cg => ?_)
      · obtain ⟨o, pi, eqn, ho, gnm, gns, gmk⟩ : ∃ (o : Ch) (pi : Addr), (∃ nm : Str, H2 sx = some (.tup [.str nm, .ref pi])) ∧ ChAt H2 pi o ∧ g.nm = o.nm ∧ g.ns = o.ns ∧ g.alls = o.alls := by
          cases g with
          | one k => cases cg
          | both o => obtain ⟨pi, e1, e2⟩ := gat'; exact ⟨o, pi, ⟨_, e1⟩, e2, rfl, rfl, rfl⟩
          | thn o => obtain ⟨pi, e1, e2⟩ := gat'; exact ⟨o, pi, ⟨_, e1⟩, e2, rfl, rfl, rfl⟩
        obtain ⟨nm, eqn⟩ := eqn
        walk_at "go"
        refine ⟨pi, o, rfl, ho, by omega, by omega, fun H3 q3 ms3 e3 m3 hq3 f3 => ?_⟩
        have eq3 := f3.at eq (by simp)
        walk_at "go"
        refine rd_cat eq3 e3 ?_ fun q4 hq4 => ?_
        · rw [List.length_map, List.length_map, hm.len, m3.len, Ch.alls_len, List.length_append]
          have h1 := c.alls_len
          have h2 := (Ch.of c.root (c.sgs.take i)).alls_len
          unfold Ch.alls at h1 h2
          rw [List.length_append] at h1 h2
          exact Nat.le_trans (show _ ≤ 3000 by omega) (by decide)
        · walk_at "go"
          refine ⟨ms ++ ms3, q4, _, rfl, by rw [upd_same, List.map_append], ?_, (fi2.tr f3).free (by simp) hq4, (fi2.tr f3).newN hq4⟩
          rw [nn, Ch.snoc_inn, gmk, ← List.append_assoc]
          exact ((hm.fr f3).app m3).fr (Fr.new (S := []) hq4)
      · obtain ⟨gnm, gmk⟩ : g.nm = 0 ∧ g.alls = [] := by
          cases g with
          | one k => exact ⟨rfl, rfl⟩
          | both o => cases cg
          | thn o => cases cg
        walk_at "go"
        refine ⟨ms, q, _, rfl, eq, ?_, hq, fi2⟩
        rw [nn, Ch.snoc_inn, gmk, List.append_nil]
        exact hm
    · rintro σ H' ⟨ms, q, v, rfl, eq, hm, hq, fi⟩
      rw [List.length_map, hg.1, List.take_length, Ch.of_sgs] at hm
      walk_at "go"
      exact k H' q ms eq hm hq fi
theorem lawstages {f : Addr} {fd : FuncData} (T : Txt K mg) (F : FnP K "_law_stages" "_law_stages" s__law_stages f fd) (g : mg "_law_stages" = some (.ref f)) : ∀ n, n ≤ 1001 → Cal P w K mg base CX0 (n + 1) "_law_stages" ["_law_chain_here"] (spStages n)
  | 0, _ => by
    have void : ∀ {vs : List V} {H : Hp} {Q : VK} {E : XK}, spStages 0 vs H Q E → False := by
      rintro vs H Q E ⟨p, c, _, _, h, _⟩
      have := c.nm_pos
      omega
    exact cal_of F g (ok0 F sc__law_stages (fun vs H Q E h => (void h).elim) fun cdv A outer s H vs Q E hr h => (void h).elim) fun _ _ _ _ _ _ us hl => match us, hl with | [_], _ => rfl
  | n + 1, h => cal_of F g (ok_law_stages (by omega) T F (lawstages T F g n (by omega))) fun _ _ _ _ _ _ us hl => match us, hl with | [_], _ => rfl
theorem lawparsed {f : Addr} {fd : FuncData} (T : Txt K mg) (F : FnP K "_law_parsed" "_law_parsed" s__law_parsed f fd) (g : mg "_law_parsed" = some (.ref f)) : ∀ n, n ≤ 1001 → Cal P w K mg base CX0 (n + 1) "_law_parsed" ["_law_words_here", "_law_at"] (spPa n)
  | 0, _ => by
    have void : ∀ {vs : List V} {H : Hp} {Q : VK} {E : XK}, spPa 0 vs H Q E → False := by
      rintro vs H Q E ⟨p, at_, ws, rest, c, _, _, _, _, _, h, _⟩
      have := c.nm_pos
      omega
    exact cal_of F g (ok0 F sc__law_parsed (fun vs H Q E h => (void h).elim) fun cdv A outer s H vs Q E hr h => (void h).elim) fun _ _ _ _ _ _ us hl => match us, hl with | [_, _], _ => rfl
  | n + 1, h => cal_of F g (ok_law_parsed (by omega) T F (lawparsed T F g n (by omega))) fun _ _ _ _ _ _ us hl => match us, hl with | [_, _], _ => rfl
end
end Dc

set_option Elab.async false
set_option linter.all false
set_option maxRecDepth 100000
set_option maxHeartbeats 4000000
namespace Dc
open PySem PySem.Spec PyProof.Rows L2
theorem Sm.up {H : Hp} : ∀ {n : Nat} {v w : V}, Sm n H v w → Sm (n + 1) H v w
  | 0, _, _, h => .inl h
  | n + 1, _, _, .inl h => .inl h
  | n + 1, _, _, .inr ⟨a, b, xs, ys, e1, e2, e3, e4, e5, e6⟩ => .inr ⟨a, b, xs, ys, e1, e2, e3, e4, e5, fun i x y h1 h2 => (e6 i x y h1 h2).up⟩
theorem Sm.le {H : Hp} {n m : Nat} {v w : V} (h : Sm n H v w) (le : n ≤ m) : Sm m H v w := by
  induction le with
  | refl => exact h
  | step _ ih => exact ih.up
theorem Sm.str {H : Hp} {n : Nat} (s : Str) : Sm n H (.str s) (.str s) := by
  cases n with
  | zero => exact .inr ⟨s, rfl, rfl⟩
  | succ n => exact .inl (.inr ⟨s, rfl, rfl⟩)
theorem Sm.int {H : Hp} {n : Nat} (s : Int) : Sm n H (.int s) (.int s) := by
  cases n with
  | zero => exact .inl ⟨s, rfl, rfl⟩
  | succ n => exact .inl (.inl ⟨s, rfl, rfl⟩)
theorem sm_mk2 {H : Hp} {a b : Addr} {m : Mkr} (ok : gdM m) (h1 : MkAt H a m) (h2 : MkAt H b m) : Sm 2 H (.ref a) (.ref b) := by
  cases m with
  | count x y =>
    refine .inr ⟨a, b, _, _, rfl, rfl, .inr ⟨h1, h2⟩, rfl, by simp only [List.length_cons, List.length_nil]; omega, sm0_at fun v hv => ?_⟩
    simp only [List.mem_cons, List.not_mem_nil, or_false] at hv
    rcases hv with rfl | rfl | rfl
    · exact .inr ⟨_, rfl, rfl⟩
    · exact .inl ⟨_, rfl, rfl⟩
    · exact .inl ⟨_, rfl, rfl⟩
  | row ns =>
    obtain ⟨r, e1, e2⟩ := h1
    obtain ⟨r', e1', e2'⟩ := h2
    refine .inr ⟨a, b, _, _, rfl, rfl, .inr ⟨e1, e1'⟩, rfl, by simp only [List.length_cons, List.length_nil]; omega, fun i x y hx hy => ?_⟩
    match i, hx, hy with
    | 0, hx, hy => cases hx; cases hy; exact .inl (.inr ⟨_, rfl, rfl⟩)
    | 1, hx, hy =>
      cases hx; cases hy
      refine .inr ⟨r, r', _, _, rfl, rfl, .inr ⟨e2, e2'⟩, rfl, ?_, fun i x y hx hy => ?_⟩
      · rw [List.length_map]; have : ns.length ≤ 100 := ok; omega
      · rw [hx] at hy
        cases hy
        obtain ⟨z, _, rfl⟩ := List.mem_map.mp (List.mem_of_getElem? hx)
        exact .inl ⟨_, rfl, rfl⟩
    | i + 2, hx, hy => cases hx
def Sg.gM : Sg → Prop
  | .one _ => True
  | .both o => o.gM
  | .thn o => o.gM
theorem root_gM : ∀ {c : Ch}, c.gM → gdM c.root
  | .mkr _, h => h
  | .st c _, h => root_gM (c := c) h
  | .both c _, h => root_gM (c := c) h.1
  | .thn c _, h => root_gM (c := c) h.1
theorem sg_gM : ∀ {c : Ch}, c.gM → ∀ g ∈ c.sgs, g.gM
  | .mkr _, _, g, hg => by cases hg
  | .st c k, h, g, hg => (List.mem_append.mp (show g ∈ c.sgs ++ [.one k] from hg)).elim (sg_gM (c := c) h g) fun q => by rw [List.mem_singleton.mp q]; trivial
  | .both c o, h, g, hg => (List.mem_append.mp (show g ∈ c.sgs ++ [.both o] from hg)).elim (sg_gM (c := c) h.1 g) fun q => by rw [List.mem_singleton.mp q]; exact h.2
  | .thn c o, h, g, hg => (List.mem_append.mp (show g ∈ c.sgs ++ [.thn o] from hg)).elim (sg_gM (c := c) h.1 g) fun q => by rw [List.mem_singleton.mp q]; exact h.2
theorem sg_nm : ∀ {c : Ch}, ∀ g ∈ c.sgs, g.nm + 1 ≤ c.nm
  | .mkr _, g, hg => by cases hg
  | .st c k, g, hg => (List.mem_append.mp (show g ∈ c.sgs ++ [.one k] from hg)).elim (sg_nm (c := c) g) fun q => by rw [List.mem_singleton.mp q]; exact c.nm_pos
  | .both c o, g, hg => by
    show g.nm + 1 ≤ c.nm + o.nm
    have := c.nm_pos
    rcases List.mem_append.mp (show g ∈ c.sgs ++ [.both o] from hg) with q | q
    · have := sg_nm (c := c) g q; omega
    · rw [List.mem_singleton.mp q]; show o.nm + 1 ≤ _; omega
  | .thn c o, g, hg => by
    show g.nm + 1 ≤ c.nm + o.nm
    have := c.nm_pos
    rcases List.mem_append.mp (show g ∈ c.sgs ++ [.thn o] from hg) with q | q
    · have := sg_nm (c := c) g q; omega
    · rw [List.mem_singleton.mp q]; show o.nm + 1 ≤ _; omega
theorem sgs_ns (c : Ch) : c.sgs.length ≤ c.ns := by rw [← c.alls_len]; unfold Ch.alls; rw [List.length_append]; omega
theorem sg_ns {c : Ch} {g : Sg} (h : g ∈ c.sgs) : g.ns ≤ c.ns := by
  have h1 := fold_ns c.sgs (.mkr c.root)
  rw [show c.sgs.foldl Ch.snoc (.mkr c.root) = c from Ch.of_sgs c] at h1
  have h2 : ∀ l : List Sg, g ∈ l → g.ns + 1 ≤ nsS l := fun l hl => by
    induction l with
    | nil => cases hl
    | cons x l ih =>
      unfold nsS at ih ⊢
      rw [List.map_cons, List.sum_cons]
      rcases List.mem_cons.mp hl with rfl | hl
      · omega
      · have := ih hl; omega
  have := h2 _ h
  omega
theorem sm_ch {H : Hp} : ∀ (n : Nat) {c : Ch} {p q : Addr}, c.nm ≤ n → c.gM → c.ns ≤ 1000 → ChAt H p c → ChAt H q c → Sm (3 * n) H (.ref p) (.ref q)
  | 0, c, p, q, hn, _, _, _, _ => by have := c.nm_pos; omega
  | n + 1, c, p, q, hn, hg, hs, ⟨m, ss, bs, ep, es, hst⟩, ⟨m', ss', bs', ep', es', hst'⟩ => by
    show Sm (3 * n + 3) H _ _
    refine .inr ⟨p, q, _, _, rfl, rfl, .inr ⟨ep, ep'⟩, rfl, by simp only [List.length_cons, List.length_nil]; omega, fun i x y hx hy => ?_⟩
    match i, hx, hy with
    | 0, hx, hy =>
      cases hx; cases hy
      exact (sm_mk2 (root_gM hg) hst.root hst'.root).le (by omega)
    | 1, hx, hy =>
      cases hx; cases hy
      obtain ⟨l1, g1⟩ := hst.get
      obtain ⟨l2, g2⟩ := hst'.get
      refine .inr ⟨ss, ss', _, _, rfl, rfl, .inr ⟨es, es'⟩, by rw [List.length_map, List.length_map, l1, l2], ?_, fun j x y hx hy => ?_⟩
      · rw [List.length_map, l1]; have := sgs_ns c; omega
      rw [List.getElem?_map] at hx hy
      obtain ⟨a, ha, rfl⟩ : ∃ a, bs[j]? = some a ∧ x = .ref a := by
        cases e : bs[j]? with
        | none => rw [e] at hx; cases hx
        | some z => rw [e] at hx; exact ⟨z, rfl, (Option.some.inj hx).symm⟩
      obtain ⟨b, hb, rfl⟩ : ∃ b, bs'[j]? = some b ∧ y = .ref b := by
        cases e : bs'[j]? with
        | none => rw [e] at hy; cases hy
        | some z => rw [e] at hy; exact ⟨z, rfl, (Option.some.inj hy).symm⟩
      obtain ⟨g, e1, s1⟩ := g1 j a ha
      obtain ⟨g', e2, s2⟩ := g2 j b hb
      rw [e1] at e2
      cases e2
      have gm := List.mem_of_getElem? e1
      have h1 := sg_nm g gm
      have h2 := sg_gM hg g gm
      have h3 := sg_ns gm
      cases g with
      | one k =>
        refine .inr ⟨a, b, _, _, rfl, rfl, .inr ⟨s1, s2⟩, rfl, ?_, sm0_at fun v hv => ?_⟩
        · have := k.nums_len
          rw [k.vals_eq, List.length_cons, List.length_map]; omega
        · rw [k.vals_eq] at hv
          rcases List.mem_cons.mp hv with rfl | hv
          · exact .inr ⟨_, rfl, rfl⟩
          · obtain ⟨z, _, rfl⟩ := List.mem_map.mp hv
            exact .inl ⟨_, rfl, rfl⟩
      | both o =>
        obtain ⟨pa, ea, ca⟩ := s1
        obtain ⟨pb, eb, cb⟩ := s2
        refine .inr ⟨a, b, _, _, rfl, rfl, .inr ⟨ea, eb⟩, rfl, by simp only [List.length_cons, List.length_nil]; omega, fun k x y hx hy => ?_⟩
        match k, hx, hy with
        | 0, hx, hy => cases hx; cases hy; exact Sm.str _
        | 1, hx, hy => cases hx; cases hy; exact sm_ch n (by have : o.nm + 1 ≤ c.nm := h1; omega) h2 (by have : o.ns ≤ c.ns := h3; omega) ca cb
        | k + 2, hx, hy => cases hx
      | thn o =>
        obtain ⟨pa, ea, ca⟩ := s1
        obtain ⟨pb, eb, cb⟩ := s2
        refine .inr ⟨a, b, _, _, rfl, rfl, .inr ⟨ea, eb⟩, rfl, by simp only [List.length_cons, List.length_nil]; omega, fun k x y hx hy => ?_⟩
        match k, hx, hy with
        | 0, hx, hy => cases hx; cases hy; exact Sm.str _
        | 1, hx, hy => cases hx; cases hy; exact sm_ch n (by have : o.nm + 1 ≤ c.nm := h1; omega) h2 (by have : o.ns ≤ c.ns := h3; omega) ca cb
        | k + 2, hx, hy => cases hx
    | i + 2, hx, hy => cases hx
theorem sm_bt {H : Hp} {a b : Addr} {i : Int} {n : Nat} (h1 : H a = some (.tup [.str "BadText", .int i])) (h2 : H b = some (.tup [.str "BadText", .int i])) : Sm (n + 1) H (.ref a) (.ref b) := by
  refine .inr ⟨a, b, _, _, rfl, rfl, .inr ⟨h1, h2⟩, rfl, by simp only [List.length_cons, List.length_nil]; omega, sm0_at fun v hv => ?_⟩
  simp only [List.mem_cons, List.not_mem_nil, or_false] at hv
  rcases hv with rfl | rfl
  · exact .inr ⟨_, rfl, rfl⟩
  · exact .inl ⟨_, rfl, rfl⟩
theorem ok_gM : ∀ {c : Ch}, c.ok → c.gM
  | .mkr m, h => by
    cases m with
    | count b s => trivial
    | row ns => exact h.1
  | .st c k, h => ok_gM (c := c) h.1
  | .both c o, h => ⟨ok_gM h.1, ok_gM h.2⟩
  | .thn c o, h => ⟨ok_gM h.1, ok_gM h.2⟩
theorem ok_gK : ∀ {c : Ch}, c.ok → c.gK
  | .mkr m, h => trivial
  | .st c k, h => ⟨ok_gK (c := c) h.1, by cases k <;> first | exact trivial | exact h.2⟩
  | .both c o, h => ⟨ok_gK h.1, ok_gK h.2⟩
  | .thn c o, h => ⟨ok_gK h.1, ok_gK h.2⟩
theorem ok_good {c : Ch} (h : c.ok) (h1 : c.nm ≤ 4) (h2 : c.ns ≤ 12) : c.good := ⟨ok_gM h, ok_gK h, h1, h2⟩
end Dc

set_option Elab.async false
set_option linter.all false
set_option maxRecDepth 100000
set_option maxHeartbeats 4000000
namespace Dc
open PySem PySem.Spec PyProof.Rows L2
local macro_rules | `(tactic| walk_at "ne") => `(tactic| first | assumption | (refine Ne.symm ?_; assumption) | exact ne_of (by assumption) (by assumption) (by intro q; cases q) | exact ne_of_none (by assumption) (by assumption) | exact Ne.symm (ne_of_none (by assumption) (by assumption)))
local macro_rules | `(tactic| walk_at "hp") => `(tactic| first | assumption | exact upd_same | (refine upd_keep ?_ (by assumption); walk_at "hp") | (refine upd_other ?_ ?_; · walk_at "ne"; · walk_at "hp"))
local macro_rules | `(tactic| walk_at "hl") => `(tactic| first | assumption | exact SqL.of (by walk_at "hp"))
local macro_rules | `(tactic| walk_at "ht") => `(tactic| first | assumption | exact SqT.of (by walk_at "hp"))
local macro_rules | `(tactic| walk_at "rd1") => `(tactic| first
  | ((with_reducible apply rd_var); exact rfl)
  | ((with_reducible apply rd_eq); exact rfl) | ((with_reducible apply rd_ne); exact rfl)
  | with_reducible first
  | refine iteT ?_ | refine iteF ?_ | refine rd_nF ?_ | refine rd_nT ?_ | refine rd_yes ?_ | refine rd_c ?_ | refine rd_op ?_ | refine rd_un ?_ | refine rd_test ?_ | refine rd_B ?_ | refine rd_bl ?_ | refine rd_seq ?_ | refine rd_next ?_ | refine rd_ifs ?_ | refine rd_asg ?_ | refine rd_name ?_ | refine rd_ret ?_ | refine rd_drop ?_
  | refine rd_call ?_ | refine rd_cons ?_ | refine rd_nil ?_ | refine rd_cb ?_ | refine rd_I0 ?_ | refine rd_U ?_ | refine rd_gsub ?_ | refine rd_lst ?_ | refine rd_tup ?_ | refine rd_if ?_ | refine rd_not ?_ | refine rd_rng1 ?_ | refine rd_itup ?_ | refine rd_ilst ?_ | refine rd_bm ?_ | refine rd_bm0 ?_ | refine rd_andV ?_ | refine rd_orV ?_ | refine rd_notV ?_)
local macro_rules | `(tactic| walk_at "rd") => `(tactic| repeat walk_at "rd1")
local macro_rules | `(tactic| walk_at "ci") => `(tactic| first | assumption | (show (0 : Int) < _; first | decide | omega) | exact ⟨by decide, by decide⟩ | exact Or.inr ⟨by decide, by decide⟩ | exact Or.inl ⟨by decide, by decide⟩ | exact ⟨by decide, by decide, by decide⟩ | exact Or.inl ⟨by omega, by omega⟩ | exact Or.inr ⟨by omega, by omega⟩)
local macro_rules | `(tactic| walk_at "ix") => `(tactic| first
  | ((with_reducible apply rd_ixL); (walk_at "hl"); exact rfl)
  | ((with_reducible apply rd_ixT); (walk_at "ht"); exact rfl)
  | ((with_reducible apply rd_lenL); (walk_at "hl"))
  | ((with_reducible apply rd_lenT); (walk_at "ht"))
  | ((with_reducible apply rd_tupOf); (walk_at "hl"))
  | ((with_reducible apply rd_listOf); (walk_at "hl"))
  | (with_reducible refine rd_min2 ?_)
  | ((with_reducible apply rd_I); (walk_at "ci"))
  | ((with_reducible apply rd_setL); (walk_at "hp"); exact rfl))
local macro_rules | `(tactic| walk_at "gs") => `(tactic| repeat first | walk_at "rd1" | walk_at "ix")
local macro_rules | `(tactic| walk_at "go") => `(tactic| repeat first | walk_at "rd1" | walk_at "ix" | with_reducible refine rd_and ?_ | with_reducible refine rd_or ?_)
local macro_rules | `(tactic| walk_at "fo") => `(tactic| (with_reducible refine rd_for ?_))
local macro_rules | `(tactic| walk_at "pm") => `(tactic| repeat first
  | with_reducible first | refine rd_pcons ?_ | refine rd_pstr ?_ | refine rd_pcap ?_ | refine rd_pwild ?_ | refine rd_pnil ?_ | refine rd_por ?_ | refine rd_pno ?_
  | ((with_reducible refine rd_eq rfl ?_); refine ⟨_, rfl, ?_⟩; first | refine rd_T rfl ?_ | refine rd_F (by decide) ?_)
  | dsimp only [List.nil_append, List.singleton_append, List.cons_append, setAll])
local macro_rules | `(tactic| walk_at "pc") => `(tactic| (refine rd_case ?_); (first | (refine rd_phit (SqT.of (by assumption)) rfl ?_) | (refine rd_pmiss (SqT.of (by assumption)) (by simp) ?_)); (walk_at "pm"))

theorem mks_dp {K : PySem.W.Frag} {H : Hp} : ∀ {xs : List Addr} {l : List Mkr}, MksAt H xs l → DpAll K H (xs.map V.ref) (PV.pds (l.map Mkr.pv))
  | [], [], _ => .nil
  | x :: xs, m :: l, h => by
    obtain ⟨k, e, q⟩ := h.2 0 x rfl
    cases e
    refine .cons (PVAt.dp _ _ q.pv) (mks_dp ⟨Nat.succ.inj h.1, fun i a hi => ?_⟩)
    exact h.2 (i + 1) a hi
  | [], _ :: _, h => by cases h.1
  | _ :: _, [], h => by cases h.1
theorem mks_shaped (l : List Mkr) : SeqAt.shaped (.list (PV.pds (l.map Mkr.pv))) = true := by
  obtain ⟨h1, h2⟩ := Lo.all (l := l.map Mkr.pv) (n := 3) fun p hp => by
    obtain ⟨m, _, rfl⟩ := List.mem_map.mp hp
    exact m.lo
  refine (shp_iff _).mpr ⟨by simp only [PyData.canLay0]; exact h1, ?_⟩
  simp only [PyData.depth]
  omega
theorem ne_nil {K : PySem.W.Frag} {H : Hp} {a b : Addr} {xs : List Addr} {l : List Mkr} {Q : VK} (h1 : H a = some (.lst (xs.map V.ref))) (hm : MksAt H xs l) (h2 : H b = some (.lst [])) (q : Q (.bl (!decide (l = []))) H) : rNeD K (.ref a) (.ref b) H Q := by
  refine ⟨_, _, .lst (SqL.of h1) (mks_dp hm), .lst (SqL.of h2) .nil, mks_shaped l, by decide, ?_⟩
  cases l with
  | nil => exact q
  | cons m l =>
    rw [decide_eq_false (by simp)] at q
    exact q
def spIsGood : Sp := fun vs H Q _ => ∃ (p : Addr) (c : Ch), vs = [.ref p] ∧ ChAt H p c ∧ c.nm ≤ 200 ∧ c.ns ≤ 1000 ∧ ∀ (b : Bool) H', (b = true ↔ c.good) → Fr [] H H' → Q (.bl b) H'
section
variable {P : Program} {w : World} {K : PySem.W.Frag} {mg : Str → Option Value} {base : Heap} {f f2 : Addr} {fd fd2 : FuncData}
theorem sc__law_is_good : FnScope ["_law_chain_here", "_law_every", "_law_maker_here", "_law_stage_here"] ["_law_chain_here"] (defScope s__law_is_good) := ⟨rfl, rfl, rfl, by decide +kernel, rfl, by decide +kernel, by decide +kernel⟩
theorem ok_law_is_good (T : Txt K mg) (F : FnP K "_law_is_good" "_law_is_good" s__law_is_good f fd) (G__law_stages : Cal P w K mg base CX0 201 "_law_stages" ["_law_chain_here"] (spStages 200)) (G__law_makers : Cal P w K mg base CX0 201 "_law_makers" ["_law_chain_here"] (spMakers 200)) :
    FnOk P w K mg base CX0 202 f fd ["_law_chain_here"] spIsGood := by
  refine ok0 F sc__law_is_good (fun vs H Q E h => ?_) (fun cdv A outer s H vs Q E hr h => ?_)
  · obtain ⟨p, c, rfl, _⟩ := h
    rfl
  · obtain ⟨p, c, rfl, hc, hnm, hns, k⟩ := h
    have hu64 := hr.units
    have hu64 : (cxOf CX0 P w K mg base ["_law_chain_here", "_law_every", "_law_maker_here", "_law_stage_here"] "_law_is_good" (defScope s__law_is_good) f cdv A outer s H E).A.units + 64 < cLine := hr.units
    refine ⟨_, (pss_cons (ps_set (i := 1) sc__law_is_good.nd rfl (Or.inl rfl) (pe_cal G__law_stages (hr.mono (by omega)) pass0 (pa_cons (pv 0) pa_nil)))
  (pss_cons (ps_if (PW.pt (pw_or (pt_cmpR op_gt (pe_callB (call_len1K K) (by rfl) T.free_len (by decide +kernel) (pa_cons (pv 1) pa_nil)) pe_int (nomark _)) (pw_or1 (pt_cmpR op_gt (pe_callB (call_len1K K) (by rfl) T.free_len (by decide +kernel) (pa_cons (pe_cal G__law_makers (hr.mono (by omega)) pass0 (pa_cons (pv 0) pa_nil)) pa_nil)) pe_int (nomark _)))))
    (pss_one (ps_ret pe_bl)) pss_nil)
  (pss_cons (ps_if (pt_cmpR (op_neDK K hu64) (pe_lc (own := [("_law_maker_here", 2)]) (g := gName 2) rfl sc__law_is_good.nd (pi_list (pe_cal G__law_makers (hr.mono (by omega)) pass0 (pa_cons (pv 0) pa_nil))) (blkOk_by (N := ["_law_chain_here", "_law_every", "_law_maker_here", "_law_stage_here"]) (sc := defScope s__law_is_good) (by decide +kernel)) (fun _ _ _ _ _ => pg_name (i := 2) sc__law_is_good.nd rfl (Or.inl rfl)) (fun _ _ _ _ _ => pts_one (PW.pt (pw_and (pt_cmpR op_eq (pe_ix (ix_tupK K) (pv 2) pe_int (fun _ _ => rfl)) pe_str (nomark _)) (pw_and1 (pt_cmpR op_gt (pe_callB (call_len1K K) (by rfl) T.free_len (by decide +kernel) (pa_cons (pe_ix (ix_tupK K) (pv 2) pe_int (fun _ _ => rfl)) pa_nil)) pe_int (nomark _)))))) (fun _ _ _ _ _ => (pv 2))) (pe_lst pa_nil) (nomark _))
    (pss_one (ps_ret pe_bl)) pss_nil)
  (pss_cons (ps_for PassesOwn.never rfl (pi_list (pv 1)) (pg_name (i := 3) sc__law_is_good.nd rfl (Or.inl rfl))
    (pss_cons (ps_if (PW.pt (pw_and (pt_cmpR (op_in_seqK K) (pe_ix (ix_tupK K) (pv 3) pe_int (fun _ _ => rfl)) (pe_tup (pa_cons pe_str (pa_cons pe_str pa_nil))) (by rfl)) (pw_and1 (pt_not (pt_chain op_le op_le pe_int (pe_ix (ix_tupK K) (pv 3) pe_int (fun _ _ => rfl)) pe_int)))))
      (pss_one (ps_ret pe_bl)) pss_nil)
    (pss_cons (ps_if (PW.pt (pw_and (pt_cmpR op_eq (pe_ix (ix_tupK K) (pv 3) pe_int (fun _ _ => rfl)) pe_str (nomark _)) (pw_and1 (pt_not (pt_chain op_le op_le pe_int (pe_ix (ix_tupK K) (pv 3) pe_int (fun _ _ => rfl)) pe_int)))))
      (pss_one (ps_ret pe_bl)) pss_nil)
    (pss_one (ps_if (PW.pt (pw_and (pt_cmpR op_eq (pe_ix (ix_tupK K) (pv 3) pe_int (fun _ _ => rfl)) pe_str (nomark _)) (pw_and1 (pt_not (PW.pt (pw_and (pt_chain op_le op_le pe_int (pe_ix (ix_tupK K) (pv 3) pe_int (fun _ _ => rfl)) pe_int) (pw_and1 (pt_chain op_le op_lt pe_int (pe_ix (ix_tupK K) (pv 3) pe_int (fun _ _ => rfl)) (pe_ix (ix_tupK K) (pv 3) pe_int (fun _ _ => rfl))))))))))
      (pss_one (ps_ret pe_bl)) pss_nil)))))
  (pss_one (ps_ret pe_bl)))))), ?_⟩
    try dsimp only [cxOf, Cx.nox, Cx.wish]
    refine rd_at (σ' := [some (.ref p), none, none, none]) rfl ?_
    walk_at "go"
    refine ⟨p, c, rfl, hc, hnm, hns, fun H1 q1 as e1 hs n1 f1 => ?_⟩
    have hc1 := hc.fr f1
    walk_at "go"
    rw [List.length_map, hs.len, Ch.alls_len]
    walk_at "go"
    refine rd_dec (fun c1 => ?_) (fun c1 => ?_)
    · walk_at "go"
      exact k false _ ⟨(nomatch ·), fun h => by have := h.2.2.2; omega⟩ f1
    walk_at "go"
    refine ⟨p, c, rfl, hc1, hnm, fun H2 q2 ms e2 hm n2 f2 => ?_⟩
    have f12 := f1.tr f2
    have e1 := f2.at e1 (by simp)
    have hs := hs.fr f2
    have hc2 := hc1.fr f2
    walk_at "go"
    rw [List.length_map, hm.1, Ch.mks_len]
    walk_at "go"
    refine rd_dec (fun c2 => ?_) (fun c2 => ?_)
    · walk_at "go"
      exact k false _ ⟨(nomatch ·), fun h => by have := h.2.2.1; omega⟩ f12
    walk_at "go"
    refine rd_lc ?_
    refine rd_ilst ?_
    walk_at "go"
    refine ⟨p, c, rfl, hc2, hnm, fun H3 q3 ms e3 hm n3 f3 => ?_⟩
    have f13 := f12.tr f3
    have e1 := f3.at e1 (by simp)
    have hs := hs.fr f3
    refine ⟨q3, rfl, ⟨_, SqL.of e3⟩, fun D hD => ?_⟩
    refine lc_list (K := K) (a := q3) (xs := ms.map V.ref) (fun j H4 => ∃ (xs : List Addr) (l : List Mkr), H4 D = some (.lst (xs.map V.ref)) ∧ MksAt H4 xs l ∧ xs.length ≤ j ∧ (l = [] ↔ ∀ m ∈ c.mks.take j, gdM m) ∧ Fr [] H3 H4) ⟨[], [], upd_same, ⟨rfl, fun i a h => by cases h⟩, Nat.le_refl _, by simp, Fr.new hD⟩ (fun j H4 _ ⟨_, _, _, _, _, _, fr⟩ => SqL.of (fr.at e3 (by simp))) ?_ ?_
    · rintro j y H4 hj ⟨xs, l, eD, hx, xl, hg, f4⟩
      obtain ⟨sx, hsx, rfl⟩ : ∃ sx, ms[j]? = some sx ∧ y = .ref sx := by
        rw [List.getElem?_map] at hj
        cases e : ms[j]? with
        | none => rw [e] at hj; cases hj
        | some z => rw [e] at hj; exact ⟨z, rfl, (Option.some.inj hj).symm⟩
      obtain ⟨m, em, hmk⟩ := hm.2 j sx hsx
      have hmk := hmk.fr f4
      have jl : j < c.mks.length := (List.getElem?_eq_some_iff.mp em).1
      have tk : c.mks.take (j + 1) = c.mks.take j ++ [m] := by rw [List.take_succ, em]; rfl
      walk_at "go"
      refine ⟨rfl, ?_⟩
      cases m with
      | count b s =>
        have e5 : H4 sx = some (.tup [.str "count", .int b, .int s]) := hmk
        walk_at "go"
        rw [if_neg (by decide +kernel)]
        refine iteF ?_
        exact ⟨xs, l, eD, hx, by omega, by rw [tk]; exact ⟨fun h m hm => (List.mem_append.mp hm).elim (hg.mp h m) fun q => by rw [List.mem_singleton.mp q]; exact trivial, fun h => hg.mpr fun m hm => h m (List.mem_append.mpr (.inl hm))⟩, f4⟩
      | row ns =>
        obtain ⟨r, e5, e6⟩ := id hmk
        walk_at "go"
        rw [if_pos (by decide +kernel)]
        walk_at "go"
        rw [List.length_map]
        refine rd_dec (fun c4 => ?_) (fun c4 => ?_)
        · walk_at "go"
          refine ⟨_, eD, by rw [List.length_map]; exact Nat.lt_of_le_of_lt (show xs.length ≤ 200 by rw [Ch.mks_len] at jl; omega) (by decide), xs ++ [sx], l ++ [.row ns], by rw [upd_same, List.map_append]; rfl, ?_, by rw [List.length_append, List.length_singleton]; omega, ?_, ?_⟩
          · refine (hx.app ⟨rfl, fun i a hi => ?_⟩).fr (Fr.put (S := [D]) (by simp) (nt eD))
            cases i with
            | zero => cases hi; exact ⟨_, rfl, hmk⟩
            | succ i => cases hi
          · rw [tk]
            refine ⟨fun h => by simp at h, fun h => ?_⟩
            have := h (.row ns) (by simp)
            exact absurd (show (ns.length : Int) ≤ 100 from Int.ofNat_le.mpr this) (by omega)
          · exact f4.trans (Fr.put (S := [D]) (by simp) (nt eD)) fun b hb => by rw [List.mem_singleton] at hb; rw [hb]; exact .inr hD
        · refine ⟨xs, l, eD, hx, by omega, by rw [tk]; exact ⟨fun h m hm => (List.mem_append.mp hm).elim (hg.mp h m) fun q => by rw [List.mem_singleton.mp q]; show ns.length ≤ 100; omega, fun h => hg.mpr fun m hm => h m (List.mem_append.mpr (.inl hm))⟩, f4⟩
    · rintro H4 ⟨xs, l, eD, hx, xl, hg, f4⟩
      rw [List.length_map, hm.1, List.take_length, ← gM_iff] at hg
      have f14 := f13.tr f4
      have e1 := f4.at e1 (by simp)
      have hs := hs.fr f4
      walk_at "go"
      refine ⟨Nat.zero_le _, fun b hb => ?_⟩
      refine ne_nil (upd_keep eD hb) (hx.fr (Fr.new (S := []) hb)) upd_same ?_
      have f5 := f14.newN (o := .lst []) hb
      have e1 := upd_keep (u := .lst []) e1 hb
      have hs := hs.fr (Fr.new (S := []) (o := .lst []) hb)
      generalize upd H4 b _ = H5 at *
      refine ⟨_, rfl, ?_⟩
      refine rd_ndec (fun c3 => ?_) (fun c3 => ?_)
      · walk_at "go"
        exact k false _ ⟨(nomatch ·), fun h => absurd (hg.mpr h.1) c3⟩ f5
      have gm := hg.mp c3
      clear hg hx eD hm e3 xl
      walk_at "go"
      walk_at "fo"
      walk_at "go"
      refine ⟨q1, rfl, ⟨_, SqL.of e1⟩, ?_⟩
      refine for_it (walk_list (K := K) (a := q1) (xs := as.map V.ref)) (fun i σ H' => ∃ v, σ = [some (.ref p), some (.ref q1), none, v] ∧ (∀ g ∈ c.alls.take i, gdS g) ∧ Fr [] H5 H') ⟨none, rfl, by simp, Fr.refl _ _⟩ (fun i σ H' _ ⟨_, _, _, f⟩ => SqL.of (f.at e1 (by simp))) ?_ ?_
      · rintro i y σ H6 H7 hi ⟨v, rfl, hall, f6⟩ ⟨rfl, hy⟩
        rw [List.length_map] at hi
        rw [List.getElem?_map, List.getElem?_eq_getElem hi] at hy
        cases hy
        obtain ⟨g, eg, ev⟩ := hs.get i as[i] (List.getElem?_eq_getElem hi)
        have ev := ev.fr f6
        have tk : c.alls.take (i + 1) = c.alls.take i ++ [g] := by rw [List.take_succ, eg]; rfl
        have gm : g ∈ c.alls := List.mem_of_getElem? eg
        have bad : ¬ gdS g → (false = true ↔ c.good) := fun h => ⟨(nomatch ·), fun q => absurd ((gK_iff c).mp q.2.1 g gm) h⟩
        have nxt : gdS g → ∀ x ∈ c.alls.take (i + 1), gdS x := fun h x hx => by
          rw [tk] at hx
          rcases List.mem_append.mp hx with q | q
          · exact hall x q
          · rw [List.mem_singleton.mp q]; exact h
        clear tk eg hall
        cases g with
        | both o =>
          obtain ⟨pi, ev, _⟩ := ev
          walk_at "go"
          refine ⟨by show 2 ≤ sizeLine; decide, fun q hq => ?_⟩
          have ev := upd_keep (u := .tup [.str "drop", .str "take"]) ev hq
          have f6 := f6.newN (o := .tup [.str "drop", .str "take"]) hq
          refine rd_in2 upd_same ?_
          refine ⟨_, rfl, ?_⟩
          generalize upd H7 q _ = H8 at *
          rw [show (decide (Str.ofString "both" = "drop") || decide (Str.ofString "both" = "take")) = false by decide +kernel]
          refine iteF ?_
          walk_at "go"
          rw [if_neg (by decide +kernel)]
          walk_at "go"
          rw [if_neg (by decide +kernel)]
          walk_at "go"
          exact ⟨_, rfl, nxt trivial, f6⟩
        | thn o =>
          obtain ⟨pi, ev, _⟩ := ev
          walk_at "go"
          refine ⟨by show 2 ≤ sizeLine; decide, fun q hq => ?_⟩
          have ev := upd_keep (u := .tup [.str "drop", .str "take"]) ev hq
          have f6 := f6.newN (o := .tup [.str "drop", .str "take"]) hq
          refine rd_in2 upd_same ?_
          refine ⟨_, rfl, ?_⟩
          generalize upd H7 q _ = H8 at *
          rw [show (decide (Str.ofString "then" = "drop") || decide (Str.ofString "then" = "take")) = false by decide +kernel]
          refine iteF ?_
          walk_at "go"
          rw [if_neg (by decide +kernel)]
          walk_at "go"
          rw [if_neg (by decide +kernel)]
          walk_at "go"
          exact ⟨_, rfl, nxt trivial, f6⟩
        | one kd =>
        cases kd with
        | «add» n =>
          have ev : H7 as[i] = some (.tup [.str "add", .int n]) := ev
          walk_at "go"
          refine ⟨by show 2 ≤ sizeLine; decide, fun q hq => ?_⟩
          have ev := upd_keep (u := .tup [.str "drop", .str "take"]) ev hq
          have f6 := f6.newN (o := .tup [.str "drop", .str "take"]) hq
          refine rd_in2 upd_same ?_
          refine ⟨_, rfl, ?_⟩
          generalize upd H7 q _ = H8 at *
          rw [show (decide (Str.ofString "add" = "drop") || decide (Str.ofString "add" = "take")) = false by decide +kernel]
          refine iteF ?_
          walk_at "go"
          rw [if_neg (by decide +kernel)]
          walk_at "go"
          rw [if_neg (by decide +kernel)]
          walk_at "go"
          exact ⟨_, rfl, nxt trivial, f6⟩
        | «times» n =>
          have ev : H7 as[i] = some (.tup [.str "times", .int n]) := ev
          walk_at "go"
          refine ⟨by show 2 ≤ sizeLine; decide, fun q hq => ?_⟩
          have ev := upd_keep (u := .tup [.str "drop", .str "take"]) ev hq
          have f6 := f6.newN (o := .tup [.str "drop", .str "take"]) hq
          refine rd_in2 upd_same ?_
          refine ⟨_, rfl, ?_⟩
          generalize upd H7 q _ = H8 at *
          rw [show (decide (Str.ofString "times" = "drop") || decide (Str.ofString "times" = "take")) = false by decide +kernel]
          refine iteF ?_
          walk_at "go"
          rw [if_neg (by decide +kernel)]
          walk_at "go"
          rw [if_neg (by decide +kernel)]
          walk_at "go"
          exact ⟨_, rfl, nxt trivial, f6⟩
        | «until» n =>
          have ev : H7 as[i] = some (.tup [.str "until", .int n]) := ev
          walk_at "go"
          refine ⟨by show 2 ≤ sizeLine; decide, fun q hq => ?_⟩
          have ev := upd_keep (u := .tup [.str "drop", .str "take"]) ev hq
          have f6 := f6.newN (o := .tup [.str "drop", .str "take"]) hq
          refine rd_in2 upd_same ?_
          refine ⟨_, rfl, ?_⟩
          generalize upd H7 q _ = H8 at *
          rw [show (decide (Str.ofString "until" = "drop") || decide (Str.ofString "until" = "take")) = false by decide +kernel]
          refine iteF ?_
          walk_at "go"
          rw [if_neg (by decide +kernel)]
          walk_at "go"
          rw [if_neg (by decide +kernel)]
          walk_at "go"
          exact ⟨_, rfl, nxt trivial, f6⟩
        | «unlike»  =>
          have ev : H7 as[i] = some (.tup [.str "unlike"]) := ev
          walk_at "go"
          refine ⟨by show 2 ≤ sizeLine; decide, fun q hq => ?_⟩
          have ev := upd_keep (u := .tup [.str "drop", .str "take"]) ev hq
          have f6 := f6.newN (o := .tup [.str "drop", .str "take"]) hq
          refine rd_in2 upd_same ?_
          refine ⟨_, rfl, ?_⟩
          generalize upd H7 q _ = H8 at *
          rw [show (decide (Str.ofString "unlike" = "drop") || decide (Str.ofString "unlike" = "take")) = false by decide +kernel]
          refine iteF ?_
          walk_at "go"
          rw [if_neg (by decide +kernel)]
          walk_at "go"
          rw [if_neg (by decide +kernel)]
          walk_at "go"
          exact ⟨_, rfl, nxt trivial, f6⟩
        | drop n =>
          have ev : H7 as[i] = some (.tup [.str "drop", .int n]) := ev
          walk_at "go"
          refine ⟨by show 2 ≤ sizeLine; decide, fun q hq => ?_⟩
          have ev := upd_keep (u := .tup [.str "drop", .str "take"]) ev hq
          have f6 := f6.newN (o := .tup [.str "drop", .str "take"]) hq
          refine rd_in2 upd_same ?_
          refine ⟨_, rfl, ?_⟩
          generalize upd H7 q _ = H8 at *
          rw [show (decide (Str.ofString "drop" = "drop") || decide (Str.ofString "drop" = "take")) = true by decide +kernel]
          refine iteT ?_
          walk_at "go"
          refine rd_chain ?_
          walk_at "go"
          refine rd_dec (fun b1 => ?_) (fun b1 => ?_)
          rotate_left
          · walk_at "go"
            exact k false _ (bad (fun h => b1 h.1)) (f5.tr f6)
          walk_at "go"
          refine rd_ndec (fun b2 => ?_) (fun b2 => ?_)
          · walk_at "go"
            exact k false _ (bad (fun h => b2 h.2)) (f5.tr f6)
          walk_at "go"
          rw [if_neg (by decide +kernel)]
          walk_at "go"
          rw [if_neg (by decide +kernel)]
          walk_at "go"
          exact ⟨_, rfl, nxt ⟨b1, b2⟩, f6⟩
        | take n =>
          have ev : H7 as[i] = some (.tup [.str "take", .int n]) := ev
          walk_at "go"
          refine ⟨by show 2 ≤ sizeLine; decide, fun q hq => ?_⟩
          have ev := upd_keep (u := .tup [.str "drop", .str "take"]) ev hq
          have f6 := f6.newN (o := .tup [.str "drop", .str "take"]) hq
          refine rd_in2 upd_same ?_
          refine ⟨_, rfl, ?_⟩
          generalize upd H7 q _ = H8 at *
          rw [show (decide (Str.ofString "take" = "drop") || decide (Str.ofString "take" = "take")) = true by decide +kernel]
          refine iteT ?_
          walk_at "go"
          refine rd_chain ?_
          walk_at "go"
          refine rd_dec (fun b1 => ?_) (fun b1 => ?_)
          rotate_left
          · walk_at "go"
            exact k false _ (bad (fun h => b1 h.1)) (f5.tr f6)
          walk_at "go"
          refine rd_ndec (fun b2 => ?_) (fun b2 => ?_)
          · walk_at "go"
            exact k false _ (bad (fun h => b2 h.2)) (f5.tr f6)
          walk_at "go"
          rw [if_neg (by decide +kernel)]
          walk_at "go"
          rw [if_neg (by decide +kernel)]
          walk_at "go"
          exact ⟨_, rfl, nxt ⟨b1, b2⟩, f6⟩
        | each n =>
          have ev : H7 as[i] = some (.tup [.str "each", .int n]) := ev
          walk_at "go"
          refine ⟨by show 2 ≤ sizeLine; decide, fun q hq => ?_⟩
          have ev := upd_keep (u := .tup [.str "drop", .str "take"]) ev hq
          have f6 := f6.newN (o := .tup [.str "drop", .str "take"]) hq
          refine rd_in2 upd_same ?_
          refine ⟨_, rfl, ?_⟩
          generalize upd H7 q _ = H8 at *
          rw [show (decide (Str.ofString "each" = "drop") || decide (Str.ofString "each" = "take")) = false by decide +kernel]
          refine iteF ?_
          walk_at "go"
          rw [if_pos (by decide +kernel)]
          walk_at "go"
          refine rd_chain ?_
          walk_at "go"
          refine rd_dec (fun b1 => ?_) (fun b1 => ?_)
          rotate_left
          · walk_at "go"
            exact k false _ (bad (fun h => b1 h.1)) (f5.tr f6)
          walk_at "go"
          refine rd_ndec (fun b2 => ?_) (fun b2 => ?_)
          · walk_at "go"
            exact k false _ (bad (fun h => b2 h.2)) (f5.tr f6)
          walk_at "go"
          rw [if_neg (by decide +kernel)]
          walk_at "go"
          exact ⟨_, rfl, nxt ⟨b1, b2⟩, f6⟩
        | keep r w =>
          have ev : H7 as[i] = some (.tup [.str "keep", .int r, .int w]) := ev
          walk_at "go"
          refine ⟨by show 2 ≤ sizeLine; decide, fun q hq => ?_⟩
          have ev := upd_keep (u := .tup [.str "drop", .str "take"]) ev hq
          have f6 := f6.newN (o := .tup [.str "drop", .str "take"]) hq
          refine rd_in2 upd_same ?_
          refine ⟨_, rfl, ?_⟩
          generalize upd H7 q _ = H8 at *
          rw [show (decide (Str.ofString "keep" = "drop") || decide (Str.ofString "keep" = "take")) = false by decide +kernel]
          refine iteF ?_
          walk_at "go"
          rw [if_neg (by decide +kernel)]
          walk_at "go"
          rw [if_pos (by decide +kernel)]
          walk_at "go"
          refine rd_chain ?_
          walk_at "go"
          refine rd_dec (fun b1 => ?_) (fun b1 => ?_)
          rotate_left
          · walk_at "go"
            exact k false _ (bad (fun h => b1 h.1)) (f5.tr f6)
          walk_at "go"
          refine rd_dec (fun b2 => ?_) (fun b2 => ?_)
          rotate_left
          · walk_at "go"
            exact k false _ (bad (fun h => b2 h.2.1)) (f5.tr f6)
          walk_at "go"
          refine rd_chain ?_
          walk_at "go"
          refine rd_dec (fun b3 => ?_) (fun b3 => ?_)
          rotate_left
          · walk_at "go"
            exact k false _ (bad (fun h => b3 h.2.2.1)) (f5.tr f6)
          walk_at "go"
          refine rd_ndec (fun b4 => ?_) (fun b4 => ?_)
          · walk_at "go"
            exact k false _ (bad (fun h => b4 h.2.2.2)) (f5.tr f6)
          walk_at "go"
          exact ⟨_, rfl, nxt ⟨b1, b2, b3, b4⟩, f6⟩
      · rintro σ H6 ⟨v, rfl, hall, f6⟩
        rw [List.length_map, hs.len, List.take_length, ← gK_iff] at hall
        walk_at "go"
        exact k true _ ⟨fun _ => ⟨gm, hall, by omega, by omega⟩, fun _ => rfl⟩ (f5.tr f6)
end
end Dc

set_option Elab.async false
set_option linter.all false
set_option maxRecDepth 100000
set_option maxHeartbeats 4000000
namespace Dc
open PySem PySem.Spec PyProof.Rows L2
local macro_rules | `(tactic| walk_at "ne") => `(tactic| first | assumption | (refine Ne.symm ?_; assumption) | exact ne_of (by assumption) (by assumption) (by intro q; cases q) | exact ne_of_none (by assumption) (by assumption) | exact Ne.symm (ne_of_none (by assumption) (by assumption)))
local macro_rules | `(tactic| walk_at "hp") => `(tactic| first | assumption | exact upd_same | (refine upd_keep ?_ (by assumption); walk_at "hp") | (refine upd_other ?_ ?_; · walk_at "ne"; · walk_at "hp"))
local macro_rules | `(tactic| walk_at "hl") => `(tactic| first | assumption | exact SqL.of (by walk_at "hp"))
local macro_rules | `(tactic| walk_at "ht") => `(tactic| first | assumption | exact SqT.of (by walk_at "hp"))
local macro_rules | `(tactic| walk_at "rd1") => `(tactic| first
  | ((with_reducible apply rd_var); exact rfl)
  | ((with_reducible apply rd_eq); exact rfl) | ((with_reducible apply rd_ne); exact rfl)
  | with_reducible first
  | refine iteT ?_ | refine iteF ?_ | refine rd_nF ?_ | refine rd_nT ?_ | refine rd_yes ?_ | refine rd_c ?_ | refine rd_op ?_ | refine rd_un ?_ | refine rd_test ?_ | refine rd_B ?_ | refine rd_bl ?_ | refine rd_seq ?_ | refine rd_next ?_ | refine rd_ifs ?_ | refine rd_asg ?_ | refine rd_name ?_ | refine rd_ret ?_ | refine rd_drop ?_
  | refine rd_call ?_ | refine rd_cons ?_ | refine rd_nil ?_ | refine rd_cb ?_ | refine rd_I0 ?_ | refine rd_U ?_ | refine rd_gsub ?_ | refine rd_lst ?_ | refine rd_tup ?_ | refine rd_if ?_ | refine rd_not ?_ | refine rd_rng1 ?_ | refine rd_itup ?_ | refine rd_ilst ?_ | refine rd_bm ?_ | refine rd_bm0 ?_ | refine rd_andV ?_ | refine rd_orV ?_ | refine rd_notV ?_)
local macro_rules | `(tactic| walk_at "rd") => `(tactic| repeat walk_at "rd1")
local macro_rules | `(tactic| walk_at "ci") => `(tactic| first | assumption | (show (0 : Int) < _; first | decide | omega) | exact ⟨by decide, by decide⟩ | exact Or.inr ⟨by decide, by decide⟩ | exact Or.inl ⟨by decide, by decide⟩ | exact ⟨by decide, by decide, by decide⟩ | exact Or.inl ⟨by omega, by omega⟩ | exact Or.inr ⟨by omega, by omega⟩)
local macro_rules | `(tactic| walk_at "ix") => `(tactic| first
  | ((with_reducible apply rd_ixL); (walk_at "hl"); exact rfl)
  | ((with_reducible apply rd_ixT); (walk_at "ht"); exact rfl)
  | ((with_reducible apply rd_lenL); (walk_at "hl"))
  | ((with_reducible apply rd_lenT); (walk_at "ht"))
  | ((with_reducible apply rd_tupOf); (walk_at "hl"))
  | ((with_reducible apply rd_listOf); (walk_at "hl"))
  | (with_reducible refine rd_min2 ?_)
  | ((with_reducible apply rd_I); (walk_at "ci"))
  | ((with_reducible apply rd_setL); (walk_at "hp"); exact rfl))
local macro_rules | `(tactic| walk_at "gs") => `(tactic| repeat first | walk_at "rd1" | walk_at "ix")
local macro_rules | `(tactic| walk_at "go") => `(tactic| repeat first | walk_at "rd1" | walk_at "ix" | with_reducible refine rd_and ?_ | with_reducible refine rd_or ?_)
local macro_rules | `(tactic| walk_at "fo") => `(tactic| (with_reducible refine rd_for ?_))
local macro_rules | `(tactic| walk_at "pm") => `(tactic| repeat first
  | with_reducible first | refine rd_pcons ?_ | refine rd_pstr ?_ | refine rd_pcap ?_ | refine rd_pwild ?_ | refine rd_pnil ?_ | refine rd_por ?_ | refine rd_pno ?_
  | ((with_reducible refine rd_eq rfl ?_); refine ⟨_, rfl, ?_⟩; first | refine rd_T rfl ?_ | refine rd_F (by decide) ?_)
  | dsimp only [List.nil_append, List.singleton_append, List.cons_append, setAll])
local macro_rules | `(tactic| walk_at "pc") => `(tactic| (refine rd_case ?_); (first | (refine rd_phit (SqT.of (by assumption)) rfl ?_) | (refine rd_pmiss (SqT.of (by assumption)) (by simp) ?_)); (walk_at "pm"))

def rMulS : V → V → Hp → VK → Prop := fun x y H Q => ∃ z k, x = .str z ∧ y = .int k ∧ MulOk z k ∧ Q (.str (Txt.mul z k)) H
theorem op_mulS {X : Cx} : OpR X (binaryOp .Mult) rMulS := by
  intro pins s σ H x y v u Q I rx ry h
  obtain ⟨z, k, rfl, rfl, hok, q⟩ := h
  obtain ⟨t, rfl⟩ := rx
  obtain ⟨t', rfl⟩ := ry
  exact SB.mul hok fun t' k => ⟨.str _, H, I.tok _, ⟨_, rfl⟩, q⟩
theorem mem_joinL {x : Nat} : ∀ {ps : List (List Nat)}, x ∈ TL.joinL [32] ps → x = 32 ∨ ∃ p ∈ ps, x ∈ p
  | [], h => by cases h
  | [p], h => .inr ⟨p, by simp, h⟩
  | p :: q :: r, h => by
    have h : x ∈ p ++ ([32] ++ TL.joinL [32] (q :: r)) := h
    rcases List.mem_append.mp h with h | h
    · exact .inr ⟨p, by simp, h⟩
    rcases List.mem_append.mp h with h | h
    · exact .inl (List.mem_singleton.mp h)
    rcases mem_joinL h with h | ⟨p', h1, h2⟩
    · exact .inl h
    · exact .inr ⟨p', List.mem_cons_of_mem _ h1, h2⟩
theorem joinL_mem {x : Nat} {p : List Nat} (hx : x ∈ p) : ∀ {ps : List (List Nat)}, p ∈ ps → x ∈ TL.joinL [32] ps
  | [], h => by cases h
  | [q], h => by rw [List.mem_singleton.mp h] at hx; exact hx
  | q :: q2 :: r, h => by
    show x ∈ q ++ ([32] ++ TL.joinL [32] (q2 :: r))
    rcases List.mem_cons.mp h with rfl | h
    · exact List.mem_append.mpr (.inl hx)
    · exact List.mem_append.mpr (.inr (List.mem_append.mpr (.inr (joinL_mem hx h))))
theorem okS_word {t x : Str} (h : OkS t) (hx : x ∈ spT t) : OkS x := fun c hc => by
  refine h c ?_
  rw [← spT_join t, join_tl]
  exact joinL_mem hc (List.mem_map_of_mem hx)
theorem okS_join {ps : List Str} (h : ∀ x ∈ ps, OkS x) : OkS (Txt.join " " ps) := fun c hc => by
  rw [join_tl] at hc
  rcases mem_joinL hc with rfl | ⟨p, hp, hc⟩
  · decide
  · obtain ⟨x, hx, rfl⟩ := List.mem_map.mp hp
    exact h x hx c hc
theorem cnt_zero {x : Str} (h : 32 ∉ TL.tl x) : cnt x = 0 := List.count_eq_zero.mpr h
def signsT : Str := "0123456789 -;.arowcbdefghijklmnpqstuvxyzABCXYZ!#$&'()*+,/:<=>?\x40[]^_{|}~"
def odd1 : List Str := [("" : Str), ("0" : Str), ("00" : Str), ("-0" : Str), ("-7" : Str), ("101" : Str), (Str.ofString "1") ++ Txt.mul (Str.ofString "0") 29, (Str.ofString "1") ++ Txt.mul (Str.ofString "0") 30, (";" : Str), ("." : Str), ("row" : Str), ("count" : Str), ("add" : Str)]
def oddT : List Str := odd1 ++ [("keep" : Str), ("both" : Str), ("+5" : Str), ("1_0" : Str), ("-+5" : Str), ("--5" : Str)]
theorem signs_ok : ∀ c ∈ TL.tl signsT, c < 128 := by decide +kernel
theorem odd_ok : ∀ x ∈ oddT, (∀ c ∈ TL.tl x, c < 128 ∧ c ≠ 32) ∧ x.length ≤ 31 := by decide +kernel
/-- what changes keep -/
def Chg (t t' : Str) : Prop := OkS t' ∧ t'.length ≤ 2 * t.length + 40 ∧ cnt t' ≤ cnt t + 1
theorem tl_app (a b : Str) : TL.tl (a ++ b) = TL.tl a ++ TL.tl b := TL.tl_append a b
theorem chg_sign {t s : Str} {a b : Nat} (ok : OkS t) (hs : OkS s) (hl : s.length ≤ 1) (ha : a ≤ t.length) (hab : b = a ∨ b = a + 1) : Chg t (cutS t none (some (a : Int)) ++ s ++ cutS t (some (b : Int)) none) := by
  have e : TL.tl (cutS t none (some (a : Int)) ++ s ++ cutS t (some (b : Int)) none) = (TL.tl t).take a ++ TL.tl s ++ (TL.tl t).drop b := by rw [tl_app, tl_app, cutS_to, cutS_from]
  have hsub : ((TL.tl t).drop b).Sublist ((TL.tl t).drop a) := by
    rcases hab with rfl | rfl
    · exact List.Sublist.refl _
    · rw [← List.drop_drop]; exact List.drop_sublist _ _
  refine ⟨fun c hc => ?_, ?_, ?_⟩
  · rw [e, List.mem_append, List.mem_append] at hc
    rcases hc with (hc | hc) | hc
    · exact ok c (List.mem_of_mem_take hc)
    · exact hs c hc
    · exact ok c (List.mem_of_mem_drop hc)
  · rw [TL.len_tl, e, List.length_append, List.length_append, List.length_take, List.length_drop, TL.len_tl t]
    rw [TL.len_tl] at hl
    omega
  · unfold cnt
    rw [e, List.count_append, List.count_append]
    have h1 : (TL.tl s).count 32 ≤ (TL.tl s).length := List.count_le_length
    have h2 := hsub.count_le 32
    have h3 : ((TL.tl t).take a ++ (TL.tl t).drop a).count 32 = (TL.tl t).count 32 := by rw [List.take_append_drop]
    rw [List.count_append] at h3
    rw [TL.len_tl] at hl
    omega
theorem sum_le {l : List Nat} (h : ∀ x ∈ l, x = 0) : l.sum = 0 := by
  induction l with
  | nil => rfl
  | cons a r ih => rw [List.sum_cons, h a (by simp), ih fun x hx => h x (by simp [hx])]
theorem chg_words {t : Str} {k : Nat} {some_ : List Str} (ok : OkS t) (hk : k < (spT t).length) (hs : some_ = [] ∨ some_ = [wdAt (spT t) k, wdAt (spT t) k] ∨ ∃ o ∈ oddT, some_ = [o]) : Chg t (Txt.join " " ((spT t).take k ++ some_ ++ (spT t).drop (k + 1))) := by
  have hd := wd_drop hk
  have hw : wdAt (spT t) k ∈ spT t := by
    have : wdAt (spT t) k ∈ (spT t).drop k := by rw [hd]; simp
    exact List.mem_of_mem_drop this
  have hS : ((spT t).map (·.length)).sum = (((spT t).take k).map (·.length)).sum + ((wdAt (spT t) k).length + (((spT t).drop (k + 1)).map (·.length)).sum) := by
    have h := List.take_append_drop k (spT t)
    rw [hd] at h
    rw [← congrArg (fun l : List Str => (l.map (·.length)).sum) h, List.map_append, List.sum_append, List.map_cons, List.sum_cons]
  have hSum := spT_sum t
  have hlen := spT_len t
  have hmem : ∀ x ∈ some_, (32 ∉ TL.tl x) ∧ OkS x := fun x hx => by
    rcases hs with rfl | rfl | ⟨o, ho, rfl⟩
    · cases hx
    · have : x = wdAt (spT t) k := by simpa using hx
      rw [this]; exact ⟨spT_free hw, okS_word ok hw⟩
    · rw [List.mem_singleton.mp hx]
      obtain ⟨h1, h2⟩ := odd_ok o ho
      exact ⟨fun z => (h1 32 z).2 rfl, fun c hc => Nat.lt_trans (h1 c hc).1 (by decide)⟩
  have hfree : ∀ x ∈ (spT t).take k ++ some_ ++ (spT t).drop (k + 1), (32 ∉ TL.tl x) ∧ OkS x := fun x hx => by
    rw [List.mem_append, List.mem_append] at hx
    rcases hx with (hx | hx) | hx
    · have := List.mem_of_mem_take hx; exact ⟨spT_free this, okS_word ok this⟩
    · exact hmem x hx
    · have := List.mem_of_mem_drop hx; exact ⟨spT_free this, okS_word ok this⟩
  have hsl : some_.length ≤ 2 := by rcases hs with rfl | rfl | ⟨o, ho, rfl⟩ <;> simp
  have hss : (some_.map (·.length)).sum ≤ 2 * (wdAt (spT t) k).length + 31 := by
    rcases hs with rfl | rfl | ⟨o, ho, rfl⟩
    · simp
    · simp only [List.map_cons, List.map_nil, List.sum_cons, List.sum_nil]; omega
    · have := (odd_ok o ho).2
      simp only [List.map_cons, List.map_nil, List.sum_cons, List.sum_nil]; omega
  refine ⟨okS_join fun x hx => (hfree x hx).2, ?_, ?_⟩
  · by_cases hn : (spT t).take k ++ some_ ++ (spT t).drop (k + 1) = []
    · rw [hn]; show 0 ≤ _; omega
    · have := join_len hn
      rw [List.map_append, List.map_append, List.sum_append, List.sum_append, List.length_append, List.length_append, List.length_take, List.length_drop] at this
      omega
  · by_cases hn : (spT t).take k ++ some_ ++ (spT t).drop (k + 1) = []
    · rw [hn]; show 0 ≤ _; omega
    · have := join_cnt hn
      rw [sum_le (l := (((spT t).take k ++ some_ ++ (spT t).drop (k + 1)).map cnt)) (fun x hx => by obtain ⟨y, hy, rfl⟩ := List.mem_map.mp hx; exact cnt_zero (hfree y hy).1), List.length_append, List.length_append, List.length_take, List.length_drop] at this
      omega
def spChanged (K : PySem.W.Frag) (ns : List Int) : Sp := fun vs H Q _ => ∃ (a sc : Addr) (t : Str), vs = [.ref a, .str t] ∧ StAt K ns H a sc ∧ OkS t ∧ t.length ≤ 100000 ∧ ∀ t' H', Chg t t' → StAt K ns H' a sc → Fr [a] H H' → Q (.str t') H'
section
variable {P : Program} {w : World} {K : PySem.W.Frag} {mg : Str → Option Value} {base : Heap} {f : Addr} {fd : FuncData} {ns : List Int}
theorem sc__law_changed : FnScope ["_law_state", "_law_text", "_law_way", "_law_at", "_law_signs", "_law_sign", "_law_words_here", "_law_k", "_law_odd", "_law_some"] ["_law_state", "_law_text"] (defScope s__law_changed) := ⟨rfl, rfl, rfl, by decide +kernel, rfl, by decide +kernel, by decide +kernel⟩
theorem ok_law_changed (T : Txt K mg) (F : FnP K "_law_changed" "_law_changed" s__law_changed f fd) (G__law_drawn : Cal P w K mg base CX0 1 "_law_drawn" ["_law_state", "_law_many"] (spDrawn K ns)) : FnOk P w K mg base CX0 2 f fd ["_law_state", "_law_text"] (spChanged K ns) := by
  refine ok0 F sc__law_changed (fun vs H Q E h => ?_) (fun cdv A outer s H vs Q E hr h => ?_)
  · obtain ⟨a, sc, t, rfl, _⟩ := h
    rfl
  · obtain ⟨a, sc, t, rfl, S, ok, tl, k⟩ := h
    refine ⟨_, (pss_cons (ps_set (i := 2) sc__law_changed.nd rfl (Or.inl rfl) (pe_cal G__law_drawn (hr.mono (by omega)) pass0 (pa_cons (pv 0) (pa_cons pe_int pa_nil))))
  (pss_cons (ps_set (i := 3) sc__law_changed.nd rfl (Or.inl rfl) (pe_cal G__law_drawn (hr.mono (by omega)) pass0 (pa_cons (pv 0) (pa_cons (pe_op op_add (pe_callB call_len_str (by rfl) T.free_len (by decide +kernel) (pa_cons (pv 1) pa_nil)) pe_int) pa_nil))))
  (pss_cons (ps_set (i := 4) sc__law_changed.nd rfl (Or.inl rfl) pe_str)
  (pss_cons (ps_set (i := 5) sc__law_changed.nd rfl (Or.inl rfl) (pe_ix ix_str (pv 4) (pe_cal G__law_drawn (hr.mono (by omega)) pass0 (pa_cons (pv 0) (pa_cons (pe_ix (ix_listK K) (pe_lst (pa_cons pe_int (pa_cons (pe_callB call_len_str (by rfl) T.free_len (by decide +kernel) (pa_cons (pv 4) pa_nil)) pa_nil))) (pe_cal G__law_drawn (hr.mono (by omega)) pass0 (pa_cons (pv 0) (pa_cons pe_int pa_nil))) (fun _ _ => rfl)) pa_nil))) (fun _ _ => rfl)))
  (pss_cons (ps_if (pt_cmpR op_lt (pv 2) pe_int (nomark _))
    (pss_one (ps_ret (pe_op op_add_str (pe_op op_add_str (pe_slice sl_str (pv 1) po_none (po_some (pv 3))) (pe_ix (ix_listK K) (pe_lst (pa_cons (pv 5) (pa_cons pe_str (pa_cons (pv 5) pa_nil)))) (pv 2) (fun _ _ => rfl))) (pe_slice sl_str (pv 1) (po_some (pe_op op_add (pv 3) (pe_callTy call_int1 (by rfl) T.free_int (by decide +kernel) (pa_cons (pe_cmpR op_gt (pv 2) pe_int (nomark _)) pa_nil)))) po_none)))) pss_nil)
  (pss_cons (ps_set (i := 6) sc__law_changed.nd rfl (Or.inl rfl) (pe_bm PySem.F.plainAttrs_str PySem.F.slot_str_split PySem.F.type_str_split mt_split (pv 1) (pa_cons pe_str pa_nil)))
  (pss_cons (ps_set (i := 7) sc__law_changed.nd rfl (Or.inl rfl) (pe_cal G__law_drawn (hr.mono (by omega)) pass0 (pa_cons (pv 0) (pa_cons (pe_callB (call_len1K K) (by rfl) T.free_len (by decide +kernel) (pa_cons (pv 6) pa_nil)) pa_nil))))
  (pss_cons (ps_set (i := 8) sc__law_changed.nd rfl (Or.inl rfl) (pe_lst (pa_cons pe_str (pa_cons pe_str (pa_cons pe_str (pa_cons pe_str (pa_cons pe_str (pa_cons pe_str (pa_cons (pe_op op_add_str pe_str (pe_op op_mulS pe_str pe_int)) (pa_cons (pe_op op_add_str pe_str (pe_op op_mulS pe_str pe_int)) (pa_cons pe_str (pa_cons pe_str (pa_cons pe_str (pa_cons pe_str (pa_cons pe_str pa_nil)))))))))))))))
  (pss_cons (ps_set (i := 8) sc__law_changed.nd rfl (Or.inl rfl) (pe_op op_cat (pv 8) (pe_lst (pa_cons pe_str (pa_cons pe_str (pa_cons pe_str (pa_cons pe_str (pa_cons pe_str (pa_cons pe_str pa_nil)))))))))
  (pss_cons (ps_set (i := 9) sc__law_changed.nd rfl (Or.inl rfl) (pe_ix (ix_listK K) (pe_lst (pa_cons (pe_lst pa_nil) (pa_cons (pe_lst (pa_cons (pe_ix (ix_listK K) (pv 6) (pv 7) (fun _ _ => rfl)) (pa_cons (pe_ix (ix_listK K) (pv 6) (pv 7) (fun _ _ => rfl)) pa_nil))) (pa_cons (pe_lst (pa_cons (pe_ix (ix_listK K) (pv 8) (pe_cal G__law_drawn (hr.mono (by omega)) pass0 (pa_cons (pv 0) (pa_cons pe_int pa_nil))) (fun _ _ => rfl)) pa_nil)) pa_nil)))) (pe_op op_sub (pv 2) pe_int) (fun _ _ => rfl)))
  (pss_one (ps_ret (pe_bm PySem.F.plainAttrs_str PySem.F.slot_str_join PySem.F.type_str_join mt_join pe_str (pa_cons (pe_op op_cat (pe_op op_cat (pe_slice sl_list (pv 6) po_none (po_some (pv 7))) (pv 9)) (pe_slice sl_list (pv 6) (po_some (pe_op op_add (pv 7) pe_int)) po_none)) pa_nil)))))))))))))), ?_⟩
    try dsimp only [cxOf, Cx.nox, Cx.wish]
    refine rd_at (σ' := [some (.ref a), some (.str t), none, none, none, none, none, none, none, none]) rfl ?_
    walk_at "go"
    refine ⟨a, sc, 6, rfl, S, by decide, by decide, fun way H1 w0 w1 S1 f1 => ?_⟩
    walk_at "go"
    refine ⟨t, rfl, Nat.le_trans tl (by decide), ?_⟩
    walk_at "go"
    refine ⟨a, sc, _, rfl, S1, by omega, Nat.lt_of_le_of_lt (show (t.length + 1 : Int).natAbs ≤ 100001 by omega) (by decide), fun at_ H2 a0 a1 S2 f2 => ?_⟩
    have f12 := f1.tr f2
    clear f1 f2 S S1
    walk_at "go"
    refine ⟨signsT, rfl, by decide +kernel, ?_⟩
    walk_at "go"
    refine ⟨by show 2 ≤ sizeLine; decide, fun p hp => ?_⟩
    rw [show (signsT.length : Nat) = 71 by decide +kernel]
    obtain ⟨S3, np⟩ := st_new (o := .lst [.int 19, .int (71 : Nat)]) S2 hp
    have ep : upd H2 p (.lst [.int 19, .int (71 : Nat)]) p = _ := upd_same
    have f13 := f12.newN (o := .lst [.int 19, .int (71 : Nat)]) hp
    generalize upd H2 p _ = H3 at *
    walk_at "go"
    refine ⟨a, sc, 2, rfl, S3, by decide, by decide, fun r H4 b0 b1 S4 f4 => ?_⟩
    have ep := f4.at ep (by simpa using np.symm)
    walk_at "go"
    obtain ⟨many, em, hm0, hm1⟩ : ∃ many : Int, atI [V.int 19, .int (71 : Nat)] r = some (.int many) ∧ 0 < many ∧ many ≤ 71 := by
      have : r = 0 ∨ r = 1 := by omega
      rcases this with rfl | rfl
      · exact ⟨19, rfl, by decide, by decide⟩
      · exact ⟨71, rfl, by decide, by decide⟩
    refine rd_ixL (SqL.of ep) em ?_
    walk_at "go"
    refine ⟨a, sc, many, rfl, S4, hm0, Nat.lt_of_le_of_lt (show many.natAbs ≤ 71 by omega) (by decide), fun j H5 c0 c1 S5 f5 => ?_⟩
    have f15 := (f13.tr f4).tr f5
    clear ep em f13 f4 f5 S2 S3 S4
    walk_at "go"
    obtain ⟨cd, hcd, ecd⟩ := at_in (xs := TL.tl signsT) (i := j) c0 (by rw [show (TL.tl signsT).length = 71 by decide +kernel]; omega)
    refine ⟨signsT, j, cd, rfl, rfl, by decide +kernel, ecd, ?_⟩
    have okc : OkS (⟨#[cd]⟩ : Str) := fun x hx => by
      have : x = cd := by simpa [TL.tl] using hx
      rw [this]; exact Nat.lt_trans (signs_ok cd hcd) (by decide)
    have lc : (⟨#[cd]⟩ : Str).length = 1 := rfl
    generalize (⟨#[cd]⟩ : Str) = sg at *
    clear hcd ecd
    walk_at "go"
    obtain ⟨an, rfl⟩ : ∃ an : Nat, at_ = (an : Nat) := ⟨at_.toNat, by omega⟩
    refine rd_dec (fun c => ?_) (fun c => ?_)
    · walk_at "go"
      refine rd_sl ?_
      walk_at "go"
      refine rd_np ?_
      refine rd_part ?_
      walk_at "go"
      refine ⟨(an : Nat), rfl, rd_slS (Nat.le_trans tl (by decide)) ?_⟩
      walk_at "go"
      refine ⟨by show 3 ≤ sizeLine; decide, fun q hq => ?_⟩
      have f16 := f15.newN (o := .lst [.str sg, .str "", .str sg]) hq
      obtain ⟨S6, _⟩ := st_new (o := .lst [.str sg, .str "", .str sg]) S5 hq
      obtain ⟨x, ex, hx, hxl⟩ : ∃ x : Str, atI [V.str sg, .str "", .str sg] way = some (.str x) ∧ OkS x ∧ x.length ≤ 1 := by
        have : way = 0 ∨ way = 1 ∨ way = 2 := by omega
        rcases this with rfl | rfl | rfl
        · exact ⟨sg, rfl, okc, by omega⟩
        · exact ⟨"", rfl, (fun c hc => by cases hc), by decide⟩
        · exact ⟨sg, rfl, okc, by omega⟩
      walk_at "go"
      refine rd_ixL (SqL.of upd_same) ex ?_
      have l1 := cutS_length t none (some (an : Int))
      refine ⟨_, _, rfl, rfl, Nat.le_trans (show _ ≤ 100001 by omega) (by decide), ?_⟩
      refine rd_sl ?_
      walk_at "go"
      refine rd_part ?_
      walk_at "go"
      refine .inr ⟨_, rfl, ?_⟩
      obtain ⟨b, eb, hb⟩ : ∃ b : Nat, (an : Int) + (if decide (0 < way) = true then 1 else 0) = (b : Nat) ∧ (b = an ∨ b = an + 1) := by
        by_cases h : 0 < way
        · exact ⟨an + 1, by rw [if_pos (decide_eq_true h)]; omega, .inr rfl⟩
        · exact ⟨an, by rw [if_neg (by rw [decide_eq_false h]; decide)]; omega, .inl rfl⟩
      walk_at "go"
      rw [eb]
      refine ⟨(b : Nat), rfl, ?_⟩
      refine rd_np ?_
      refine rd_slS (Nat.le_trans tl (by decide)) ?_
      have l2 := cutS_length t (some (b : Int)) none
      have l3 : (cutS t none (some (an : Int)) ++ x).length ≤ 100001 := by rw [TL.len_tl, tl_app, List.length_append, ← TL.len_tl, ← TL.len_tl]; omega
      refine ⟨_, _, rfl, rfl, Nat.le_trans (show _ ≤ 200001 by omega) (by decide), ?_⟩
      exact k _ _ (chg_sign ok hx hxl (by omega) hb) S6 f16
    · walk_at "go"
      refine ⟨rfl, ?_⟩
      walk_at "go"
      refine ⟨t, " ", rfl, rfl, by decide, Nat.le_trans (show t.length + 2 ≤ 100002 by omega) (by decide), fun l hl => ?_⟩
      have szt := spT_sz (t := t) (by omega)
      have hlen := spT_len t
      show gName 6 _ _ _ _
      rw [show Txt.split t " " = spT t from rfl]
      obtain ⟨S6, nl⟩ := st_new (o := .lst ((spT t).map V.str)) S5 hl
      have f16 := f15.newN (o := .lst ((spT t).map V.str)) hl
      have el : upd H5 l (.lst ((spT t).map V.str)) l = _ := upd_same
      generalize upd H5 l _ = H6 at *
      clear f15 S5 hl H5
      walk_at "go"
      rw [List.length_map]
      refine ⟨a, sc, _, rfl, S6, by omega, Nat.lt_of_le_of_lt (show ((spT t).length : Int).natAbs ≤ 1000000 by have := szt.1; omega) (by decide), fun kk H7 k0 k1 S7 f7 => ?_⟩
      obtain ⟨kn, rfl⟩ : ∃ kn : Nat, kk = (kn : Nat) := ⟨kk.toNat, by omega⟩
      have el := f7.at el (by simpa using nl.symm)
      have f17 := f16.tr f7
      clear f16 f7 S6
      walk_at "go"
      refine ⟨_, _, rfl, rfl, mulOk_of 1 30 (by decide) (by decide) (by decide) (by decide) (by decide), ?_⟩
      refine ⟨_, _, rfl, rfl, by decide +kernel, ?_⟩
      walk_at "go"
      refine ⟨_, _, rfl, rfl, mulOk_of 1 30 (by decide) (by decide) (by decide) (by decide) (by decide), ?_⟩
      refine ⟨_, _, rfl, rfl, by decide +kernel, ?_⟩
      walk_at "go"
      refine ⟨by show 13 ≤ sizeLine; decide, fun o1 h1 => ?_⟩
      obtain ⟨S8, n1⟩ := st_new (o := .lst (odd1.map V.str)) S7 h1
      have f18 := f17.newN (o := .lst (odd1.map V.str)) h1
      have el := upd_keep (u := .lst (odd1.map V.str)) el h1
      have eo1 : upd H7 o1 (.lst (odd1.map V.str)) o1 = _ := upd_same
      change gName 8 (.ref o1) _ (upd H7 o1 (.lst (odd1.map V.str))) _
      generalize upd H7 o1 (.lst (odd1.map V.str)) = H8 at *
      walk_at "go"
      refine ⟨by show 6 ≤ sizeLine; decide, fun o2 h2 => ?_⟩
      obtain ⟨S9, n2⟩ := st_new (o := .lst [.str "keep", .str "both", .str "+5", .str "1_0", .str "-+5", .str "--5"]) S8 h2
      have f19 := f18.newN (o := .lst [.str "keep", .str "both", .str "+5", .str "1_0", .str "-+5", .str "--5"]) h2
      have el := upd_keep (u := .lst [.str "keep", .str "both", .str "+5", .str "1_0", .str "-+5", .str "--5"]) el h2
      have eo1 := upd_keep (u := .lst [.str "keep", .str "both", .str "+5", .str "1_0", .str "-+5", .str "--5"]) eo1 h2
      refine rd_cat eo1 upd_same (by decide +kernel) fun o3 h3 => ?_
      generalize upd H8 o2 (.lst [.str "keep", .str "both", .str "+5", .str "1_0", .str "-+5", .str "--5"]) = H9 at *
      rw [show odd1.map V.str ++ [V.str "keep", .str "both", .str "+5", .str "1_0", .str "-+5", .str "--5"] = oddT.map V.str from rfl]
      obtain ⟨S10, n3⟩ := st_new (o := .lst (oddT.map V.str)) S9 h3
      have f20 := f19.newN (o := .lst (oddT.map V.str)) h3
      have el := upd_keep (u := .lst (oddT.map V.str)) el h3
      have eo : upd H9 o3 (.lst (oddT.map V.str)) o3 = _ := upd_same
      generalize upd H9 o3 (.lst (oddT.map V.str)) = H10 at *
      walk_at "go"
      refine ⟨Nat.zero_le _, fun b0 hb0 => ?_⟩
      obtain ⟨S11, m0⟩ := st_new (o := .lst []) S10 hb0
      have f21 := f20.newN (o := .lst []) hb0
      have el := upd_keep (u := .lst []) el hb0
      have eo := upd_keep (u := .lst []) eo hb0
      have eb0 : upd H10 b0 (.lst []) b0 = some (.lst (([] : List Str).map V.str)) := upd_same
      generalize upd H10 b0 (.lst []) = H11 at *
      walk_at "go"
      have hkn : kn < (spT t).length := by omega
      have ewk : atI ((spT t).map V.str) (kn : Int) = some (.str (wdAt (spT t) kn)) := atI_nat (by rw [List.getElem?_map, List.getElem?_eq_getElem hkn]; unfold wdAt; rw [List.getD_eq_getElem?_getD, List.getElem?_eq_getElem hkn]; rfl)
      refine rd_ixL (SqL.of el) ewk ?_
      walk_at "go"
      refine rd_ixL (SqL.of el) ewk ?_
      walk_at "go"
      refine ⟨by show 2 ≤ sizeLine; decide, fun b1 hb1 => ?_⟩
      have nb1 : b0 ≠ b1 := ne_of_none eb0 hb1
      obtain ⟨S12, m1⟩ := st_new (o := .lst [.str (wdAt (spT t) kn), .str (wdAt (spT t) kn)]) S11 hb1
      have f22 := f21.newN (o := .lst [.str (wdAt (spT t) kn), .str (wdAt (spT t) kn)]) hb1
      have el := upd_keep (u := .lst [.str (wdAt (spT t) kn), .str (wdAt (spT t) kn)]) el hb1
      have eo := upd_keep (u := .lst [.str (wdAt (spT t) kn), .str (wdAt (spT t) kn)]) eo hb1
      have eb0 := upd_keep (u := .lst [.str (wdAt (spT t) kn), .str (wdAt (spT t) kn)]) eb0 hb1
      have eb1 : upd H11 b1 (.lst [.str (wdAt (spT t) kn), .str (wdAt (spT t) kn)]) b1 = some (.lst (([wdAt (spT t) kn, wdAt (spT t) kn] : List Str).map V.str)) := upd_same
      generalize upd H11 b1 (.lst [.str (wdAt (spT t) kn), .str (wdAt (spT t) kn)]) = H12 at *
      walk_at "go"
      refine ⟨a, sc, 19, rfl, S12, by decide, by decide, fun r H13 r0 r1 S13 f13 => ?_⟩
      have el := f13.at el (by simpa using nl.symm)
      have eo := f13.at eo (by simpa using n3.symm)
      have eb0 := f13.at eb0 (by simpa using m0.symm)
      have eb1 := f13.at eb1 (by simpa using m1.symm)
      have f23 := f22.tr f13
      walk_at "go"
      obtain ⟨od, hod, eod⟩ := at_in (xs := oddT.map V.str) (i := r) r0 (by rw [List.length_map]; exact r1)
      obtain ⟨o, ho, rfl⟩ := List.mem_map.mp hod
      refine rd_ixL (SqL.of eo) eod ?_
      walk_at "go"
      refine ⟨by show 1 ≤ sizeLine; decide, fun b2 hb2 => ?_⟩
      obtain ⟨S14, m2⟩ := st_new (o := .lst [.str o]) S13 hb2
      have f24 := f23.newN (o := .lst [.str o]) hb2
      have el := upd_keep (u := .lst [.str o]) el hb2
      have eb0 := upd_keep (u := .lst [.str o]) eb0 hb2
      have eb1 := upd_keep (u := .lst [.str o]) eb1 hb2
      have eb2 : upd H13 b2 (.lst [.str o]) b2 = some (.lst (([o] : List Str).map V.str)) := upd_same
      generalize upd H13 b2 (.lst [.str o]) = H14 at *
      walk_at "go"
      refine ⟨by show 3 ≤ sizeLine; decide, fun b3 hb3 => ?_⟩
      obtain ⟨S15, m3⟩ := st_new (o := .lst [.ref b0, .ref b1, .ref b2]) S14 hb3
      have f25 := f24.newN (o := .lst [.ref b0, .ref b1, .ref b2]) hb3
      have el := upd_keep (u := .lst [.ref b0, .ref b1, .ref b2]) el hb3
      have eb0 := upd_keep (u := .lst [.ref b0, .ref b1, .ref b2]) eb0 hb3
      have eb1 := upd_keep (u := .lst [.ref b0, .ref b1, .ref b2]) eb1 hb3
      have eb2 := upd_keep (u := .lst [.ref b0, .ref b1, .ref b2]) eb2 hb3
      have eb3 : upd H14 b3 (.lst [.ref b0, .ref b1, .ref b2]) b3 = _ := upd_same
      generalize upd H14 b3 (.lst [.ref b0, .ref b1, .ref b2]) = H15 at *
      obtain ⟨bb, so, ebb, ebs, hso⟩ : ∃ (bb : Addr) (so : List Str), atI [V.ref b0, .ref b1, .ref b2] (way - 3) = some (.ref bb) ∧ H15 bb = some (.lst (so.map V.str)) ∧ (so = [] ∨ so = [wdAt (spT t) kn, wdAt (spT t) kn] ∨ ∃ o ∈ oddT, so = [o]) := by
        have : way = 3 ∨ way = 4 ∨ way = 5 := by omega
        rcases this with rfl | rfl | rfl
        · exact ⟨b0, [], rfl, eb0, .inl rfl⟩
        · exact ⟨b1, _, rfl, eb1, .inr (.inl rfl)⟩
        · exact ⟨b2, [o], rfl, eb2, .inr (.inr ⟨o, ho, rfl⟩)⟩
      walk_at "go"
      refine rd_ixL (SqL.of eb3) ebb ?_
      walk_at "go"
      refine ⟨rfl, ?_⟩
      walk_at "go"
      refine rd_sl ?_
      walk_at "go"
      refine rd_np ?_
      refine rd_part ?_
      walk_at "go"
      refine ⟨(kn : Nat), rfl, ?_⟩
      refine ⟨l, _, rfl, SqL.of el, fun c1 hc1 => ?_⟩
      rw [cutN, ← List.map_take]
      obtain ⟨S16, m4⟩ := st_new (o := .lst (((spT t).take kn).map V.str)) S15 hc1
      have f26 := f25.newN (o := .lst (((spT t).take kn).map V.str)) hc1
      have el := upd_keep (u := .lst (((spT t).take kn).map V.str)) el hc1
      have ebs := upd_keep (u := .lst (((spT t).take kn).map V.str)) ebs hc1
      have ec1 : upd H15 c1 (.lst (((spT t).take kn).map V.str)) c1 = _ := upd_same
      generalize upd H15 c1 (.lst (((spT t).take kn).map V.str)) = H16 at *
      walk_at "go"
      have sol : so.length ≤ 2 := by rcases hso with rfl | rfl | ⟨o, _, rfl⟩ <;> simp
      have w6 := szt.1
      refine rd_cat ec1 ebs (by rw [List.length_map, List.length_map, List.length_take]; exact Nat.le_trans (show _ ≤ 1000002 by omega) (by decide)) fun c2 hc2 => ?_
      rw [← List.map_append]
      obtain ⟨S17, m5⟩ := st_new (o := .lst (((spT t).take kn ++ so).map V.str)) S16 hc2
      have f27 := f26.newN (o := .lst (((spT t).take kn ++ so).map V.str)) hc2
      have el := upd_keep (u := .lst (((spT t).take kn ++ so).map V.str)) el hc2
      have ec2 : upd H16 c2 (.lst (((spT t).take kn ++ so).map V.str)) c2 = _ := upd_same
      generalize upd H16 c2 (.lst (((spT t).take kn ++ so).map V.str)) = H17 at *
      refine rd_sl ?_
      walk_at "go"
      refine rd_part ?_
      walk_at "go"
      refine ⟨_, rfl, ?_⟩
      refine rd_np ?_
      refine ⟨l, _, rfl, SqL.of el, fun c3 hc3 => ?_⟩
      rw [cut_from (by omega), show ((kn : Int) + 1).toNat = kn + 1 by omega, ← List.map_drop]
      obtain ⟨S18, m6⟩ := st_new (o := .lst (((spT t).drop (kn + 1)).map V.str)) S17 hc3
      have f28 := f27.newN (o := .lst (((spT t).drop (kn + 1)).map V.str)) hc3
      have ec2 := upd_keep (u := .lst (((spT t).drop (kn + 1)).map V.str)) ec2 hc3
      have ec3 : upd H17 c3 (.lst (((spT t).drop (kn + 1)).map V.str)) c3 = _ := upd_same
      generalize upd H17 c3 (.lst (((spT t).drop (kn + 1)).map V.str)) = H18 at *
      refine rd_cat ec2 ec3 (by rw [List.length_map, List.length_map, List.length_append, List.length_take, List.length_drop]; exact Nat.le_trans (show _ ≤ 1000002 by omega) (by decide)) fun c4 hc4 => ?_
      rw [← List.map_append]
      obtain ⟨S19, m7⟩ := st_new (o := .lst (((spT t).take kn ++ so ++ (spT t).drop (kn + 1)).map V.str)) S18 hc4
      have f29 := f28.newN (o := .lst (((spT t).take kn ++ so ++ (spT t).drop (kn + 1)).map V.str)) hc4
      have hch := chg_words ok hkn hso
      walk_at "go"
      refine ⟨" ", c4, (spT t).take kn ++ so ++ (spT t).drop (kn + 1), rfl, rfl, .inl (SqL.of upd_same), ?_, k _ _ hch S19 f29⟩
      by_cases hn : (spT t).take kn ++ so ++ (spT t).drop (kn + 1) = []
      · rw [hn]; decide
      · have := join_len hn
        have := hch.2.1
        rw [show (" " : Str).length = 1 from by decide, Nat.mul_one]
        omega
end
end Dc

set_option Elab.async false
set_option linter.all false
set_option maxRecDepth 100000
set_option maxHeartbeats 4000000
namespace Dc
open PySem PySem.Spec PyProof.Rows L2
local macro_rules | `(tactic| walk_at "ne") => `(tactic| first | assumption | (refine Ne.symm ?_; assumption) | exact ne_of (by assumption) (by assumption) (by intro q; cases q) | exact ne_of_none (by assumption) (by assumption) | exact Ne.symm (ne_of_none (by assumption) (by assumption)))
local macro_rules | `(tactic| walk_at "hp") => `(tactic| first | assumption | exact upd_same | (refine upd_keep ?_ (by assumption); walk_at "hp") | (refine upd_other ?_ ?_; · walk_at "ne"; · walk_at "hp"))
local macro_rules | `(tactic| walk_at "hl") => `(tactic| first | assumption | exact SqL.of (by walk_at "hp"))
local macro_rules | `(tactic| walk_at "ht") => `(tactic| first | assumption | exact SqT.of (by walk_at "hp"))
local macro_rules | `(tactic| walk_at "rd1") => `(tactic| first
  | ((with_reducible apply rd_var); exact rfl)
  | ((with_reducible apply rd_eq); exact rfl) | ((with_reducible apply rd_ne); exact rfl)
  | with_reducible first
  | refine iteT ?_ | refine iteF ?_ | refine rd_nF ?_ | refine rd_nT ?_ | refine rd_yes ?_ | refine rd_c ?_ | refine rd_op ?_ | refine rd_un ?_ | refine rd_test ?_ | refine rd_B ?_ | refine rd_bl ?_ | refine rd_seq ?_ | refine rd_next ?_ | refine rd_ifs ?_ | refine rd_asg ?_ | refine rd_name ?_ | refine rd_ret ?_ | refine rd_drop ?_
  | refine rd_call ?_ | refine rd_cons ?_ | refine rd_nil ?_ | refine rd_cb ?_ | refine rd_I0 ?_ | refine rd_U ?_ | refine rd_gsub ?_ | refine rd_lst ?_ | refine rd_tup ?_ | refine rd_if ?_ | refine rd_not ?_ | refine rd_rng1 ?_ | refine rd_itup ?_ | refine rd_ilst ?_ | refine rd_bm ?_ | refine rd_bm0 ?_ | refine rd_andV ?_ | refine rd_orV ?_ | refine rd_notV ?_)
local macro_rules | `(tactic| walk_at "rd") => `(tactic| repeat walk_at "rd1")
local macro_rules | `(tactic| walk_at "ci") => `(tactic| first | assumption | (show (0 : Int) < _; first | decide | omega) | exact ⟨by decide, by decide⟩ | exact Or.inr ⟨by decide, by decide⟩ | exact Or.inl ⟨by decide, by decide⟩ | exact ⟨by decide, by decide, by decide⟩ | exact Or.inl ⟨by omega, by omega⟩ | exact Or.inr ⟨by omega, by omega⟩)
local macro_rules | `(tactic| walk_at "ix") => `(tactic| first
  | ((with_reducible apply rd_ixL); (walk_at "hl"); exact rfl)
  | ((with_reducible apply rd_ixT); (walk_at "ht"); exact rfl)
  | ((with_reducible apply rd_lenL); (walk_at "hl"))
  | ((with_reducible apply rd_lenT); (walk_at "ht"))
  | ((with_reducible apply rd_tupOf); (walk_at "hl"))
  | ((with_reducible apply rd_listOf); (walk_at "hl"))
  | (with_reducible refine rd_min2 ?_)
  | ((with_reducible apply rd_I); (walk_at "ci"))
  | ((with_reducible apply rd_setL); (walk_at "hp"); exact rfl))
local macro_rules | `(tactic| walk_at "gs") => `(tactic| repeat first | walk_at "rd1" | walk_at "ix")
local macro_rules | `(tactic| walk_at "go") => `(tactic| repeat first | walk_at "rd1" | walk_at "ix" | with_reducible refine rd_and ?_ | with_reducible refine rd_or ?_)
local macro_rules | `(tactic| walk_at "fo") => `(tactic| (with_reducible refine rd_for ?_))
local macro_rules | `(tactic| walk_at "pm") => `(tactic| repeat first
  | with_reducible first | refine rd_pcons ?_ | refine rd_pstr ?_ | refine rd_pcap ?_ | refine rd_pwild ?_ | refine rd_pnil ?_ | refine rd_por ?_ | refine rd_pno ?_
  | ((with_reducible refine rd_eq rfl ?_); refine ⟨_, rfl, ?_⟩; first | refine rd_T rfl ?_ | refine rd_F (by decide) ?_)
  | dsimp only [List.nil_append, List.singleton_append, List.cons_append, setAll])
local macro_rules | `(tactic| walk_at "pc") => `(tactic| (refine rd_case ?_); (first | (refine rd_phit (SqT.of (by assumption)) rfl ?_) | (refine rd_pmiss (SqT.of (by assumption)) (by simp) ?_)); (walk_at "pm"))

/-! ### a refusal without own making; check_chain at any chain of a text -/
structure NwF9 (K : PySem.W.Frag) (mg : Str → Option Value) (x : Str) (nw : Addr) : Prop where
  ex : PySem.W.excIn K nw [Value.type "ValueError", Value.type "Exception", Value.type "BaseException", Value.type "object"] "ValueError.__new__" = true
  g : mg x = some (.ref nw)
  kp : PySem.W.keepIn K (.ref nw) = true
  sub : PySem.W.subIn K (.ref nw) (.type "BaseException") = some true
  ty : PySem.W.typeIn K (.ref nw) = some (.type "type")
def spCheckC (bc : Addr) : Sp := fun vs H Q E => ∃ (p : Addr) (c : Ch), vs = [.ref p] ∧ ChAt H p c ∧ c.num ∧ (c.good → ∀ H', Fr [] H H' → Q .non H') ∧ (¬ c.good → ∀ H', Fr [] H H' → E (.ref bc) none H')
def spRead (bt bc : Addr) : Sp := fun vs H Q E => ∃ t : Str, vs = [.str t] ∧ t.length ≤ 100000 ∧ (∀ i, placeW (spT t) = some i → BtE bt (i : Nat) [] H E) ∧
  ∀ c, placeW (spT t) = none → c.words = spT t → c.num → (c.good → ∀ H' p, ChAt H' p c → Fr [] H H' → Q (.ref p) H') ∧ (¬ c.good → ∀ H', Fr [] H H' → E (.ref bc) none H')
section
variable {P : Program} {w : World} {K : PySem.W.Frag} {mg : Str → Option Value} {base : Heap} {f : Addr} {fd : FuncData} {wc bt bc : Addr}
theorem okc_check_chain (T : Txt K mg) (L : NwF9 K mg "BadChain" bc) (F : FnP K "check_chain" "check_chain" s_check_chain f fd) (G_is_chain : Cal P w K mg base CX0 4 "is_chain" ["chain"] (spIsChainZ IsCh)) : FnOk P w K mg base (L2.CX P w) 5 f fd ["chain"] (spCheckC bc) := by
  refine okX F sc_check_chain (fun vs H Q E h => ?_) (fun cdv A outer s H vs Q E hr h px tk po => ?_)
  · obtain ⟨p, c, rfl, _⟩ := h
    rfl
  · obtain ⟨p, c, rfl, hc, hn, k1, k2⟩ := h
    refine ⟨_, (pss_one (ps_if (pt_not (pt_val (pe_cal G_is_chain (hr.mono (by omega)) pass0 (pa_cons (pv 0) pa_nil))))
    (pss_one (ps_raise rfl tk (pmk_own PySem.F.excBase_ValueError L.ex L.g L.kp (raises_own L.sub L.ty) (by rfl)))) pss_nil)), ?_⟩
    try dsimp only [cxOf, Cx.nox, Cx.wish]
    refine rd_at (σ' := [some (.ref p)]) rfl ?_
    walk_at "go"
    refine ⟨c.pv, .ref p, rfl, hc.pv, ⟨c, rfl⟩, fun H' f' b hb => ?_⟩
    rw [good_iff hn] at hb
    refine ⟨_, rfl, rd_nb (fun z => ?_) (fun z => ?_)⟩
    · walk_at "go"
      exact k1 (hb.mp z) H' f'
    · walk_at "go"
      exact k2 (fun g => by rw [hb.mpr g] at z; cases z) H' f'
theorem sc_read_chain : FnScope ["text", "chain"] ["text"] (defScope s_read_chain) := ⟨rfl, rfl, rfl, by decide +kernel, rfl, by decide +kernel, by decide +kernel⟩
theorem ok_read_chain (T : Txt K mg) (F : FnP K "read_chain" "read_chain" s_read_chain f fd) (I_Words : CalI P w K mg base CX0 1 "Words" wc ["self", "text"] (spWords wc)) (G_chain_of : Cal P w K mg base (L2.CX P w) 6 "chain_of" ["words"] (spChainOf wc bt))
    (G_check_chain : Cal P w K mg base (L2.CX P w) 5 "check_chain" ["chain"] (spCheckC bc)) : FnOk P w K mg base (L2.CX P w) 7 f fd ["text"] (spRead bt bc) := by
  refine okX F sc_read_chain (fun vs H Q E h => ?_) (fun cdv A outer s H vs Q E hr h px tk po => ?_)
  · obtain ⟨t, rfl, _⟩ := h
    rfl
  · obtain ⟨t, rfl, ht, kE, kQ⟩ := h
    refine ⟨_, (pss_cons (ps_set (i := 1) sc_read_chain.nd rfl (Or.inl rfl) (pe_cal G_chain_of (hr.mono (by omega)) px (pa_cons (pe_mk I_Words (hr.mono (by omega)) pass0 (pa_cons (pv 0) pa_nil)) pa_nil)))
  (pss_cons (ps_expr (pe_cal G_check_chain (hr.mono (by omega)) px (pa_cons (pv 1) pa_nil)))
  (pss_one (ps_ret (pv 1))))), ?_⟩
    try dsimp only [cxOf, Cx.nox, Cx.wish]
    refine rd_at (σ' := [some (.str t), none]) rfl ?_
    walk_at "go"
    refine rd_make ?_
    walk_at "go"
    intro x dx hx hdx ne
    refine ⟨x, dx, t, rfl, ht, upd_same, fun H1 l hw nl f1 => ⟨rfl, ?_⟩⟩
    have f0 : Fr [] H H1 := by
      refine Fr.trans (H1 := upd (upd H dx (.own x)) x (.ins wc dx [])) ((Fr.new hdx).newN ?_) f1 fun b hb => by rw [List.mem_singleton.mp hb]; exact .inr hx
      rw [upd_ne (Ne.symm ne)]; exact hx
    walk_at "go"
    have sx : ∀ b, b ∈ [x] → b ∈ ([] : List Addr) ∨ H b = none := fun b hb => by rw [List.mem_singleton.mp hb]; exact .inr hx
    refine ⟨x, dx, l, spT t, rfl, hw, spT_sz (by omega), fun i hi d H2 e f2 => kE i hi d H2 e (f0.trans f2 sx), fun c H2 p hp hcw hcn hch f2 => ?_⟩
    obtain ⟨k1, k2⟩ := kQ c hp hcw hcn
    have f02 := f0.trans f2 sx
    walk_at "go"
    refine ⟨p, c, rfl, hch, hcn, fun hg H3 f3 => ?_, fun hg H3 f3 => k2 hg H3 (f02.tr f3)⟩
    walk_at "go"
    exact k1 hg H3 p (hch.fr f3) (f02.tr f3)
end
end Dc

set_option Elab.async false
set_option linter.all false
set_option maxRecDepth 100000
set_option maxHeartbeats 2000000
namespace Dc
open PySem PySem.Spec PyProof.Rows L2
abbrev ExtN := LamX.ExtN
theorem exTp {H H' : Hp} {b : Addr} {xs : List V} (f : ExtN H H') (h : H b = some (.tup xs)) : H' b = some (.tup xs) := f b _ h fun _ z => by cases z
theorem exLs {H H' : Hp} {b : Addr} {xs : List V} (f : ExtN H H') (h : H b = some (.lst xs)) : H' b = some (.lst xs) := f b _ h fun _ z => by cases z
theorem exFz {H H' : Hp} {b : Addr} {o : Obj} {u : HO} (f : ExtN H H') (h : H b = some (.frz o u)) : H' b = some (.frz o u) := f b _ h fun _ z => by cases z
theorem MkAt.ex {H H' : Hp} {a : Addr} {m : Mkr} (f : ExtN H H') (h : MkAt H a m) : MkAt H' a m := by
  cases m with
  | count b s => exact exTp f h
  | row ns => obtain ⟨r, h1, h2⟩ := h; exact ⟨r, exTp f h1, exTp f h2⟩
theorem StsAt.ex {H H' : Hp} (f : ExtN H H') : ∀ {c : Ch} {a : Addr} {as : List Addr}, StsAt H c a as → StsAt H' c a as
  | .mkr m, a, as, ⟨h1, h2⟩ => ⟨h1, h2.ex f⟩
  | .st c k, a, as, ⟨as', x, h1, h2, h3⟩ => ⟨as', x, h1, h2.ex f, exTp f h3⟩
  | .both c o, a, as, ⟨as', x, p, h1, h2, h3, m, ss, bs, h4, h5, h6⟩ => ⟨as', x, p, h1, h2.ex f, exTp f h3, m, ss, bs, exTp f h4, exTp f h5, h6.ex f⟩
  | .thn c o, a, as, ⟨as', x, p, h1, h2, h3, m, ss, bs, h4, h5, h6⟩ => ⟨as', x, p, h1, h2.ex f, exTp f h3, m, ss, bs, exTp f h4, exTp f h5, h6.ex f⟩
theorem ChAt.ex {H H' : Hp} {p : Addr} {c : Ch} (f : ExtN H H') (h : ChAt H p c) : ChAt H' p c := by
  obtain ⟨m, ss, bs, h1, h2, h3⟩ := h
  exact ⟨m, ss, bs, exTp f h1, exTp f h2, h3.ex f⟩
theorem ScAt.ex {K : PySem.W.Frag} {ns : List Int} {H H' : Hp} {sc : Addr} (h : ScAt K ns H sc) (f : ExtN H H') : ScAt K ns H' sc := by
  rcases h with ⟨o, h⟩ | h
  · exact .inl ⟨o, exFz f h⟩
  · exact .inr h
theorem StAt.ex {K : PySem.W.Frag} {ns : List Int} {H H' : Hp} {a sc : Addr} (s : StAt K ns H a sc) (f : ExtN H H') : StAt K ns H' a sc := by
  obtain ⟨⟨b, m, l, h1, h2⟩, h3⟩ := s
  exact ⟨⟨b, m, l, exLs f h1, h2⟩, h3.ex f⟩
/-- the tables stay where a list, an instance is changed, or none -/
theorem tabsFr {T : List (Addr × Str)} {H H' : Hp} {S : List Addr} (hS : ∀ a ∈ S, H a = none ∨ (∃ xs, H a = some (.lst xs)) ∨ ∃ C dx fs, H a = some (.ins C dx fs)) (f : Fr S H H') (t : LamX.Tabs T H) : LamX.Tabs T H' := fun p hp => by
  obtain ⟨ps, h1, h2, h3⟩ := t p hp
  have no : ∀ b o, H b = some o → (∀ xs, o ≠ .lst xs) → (∀ C dx fs, o ≠ .ins C dx fs) → H' b = some o := fun b o hb hn hn2 => f.at hb fun hz => by
    rcases hS b hz with z | ⟨xs, z⟩ | ⟨C, dx, fs, z⟩
    · rw [hb] at z; cases z
    · rw [hb] at z; exact hn xs (Option.some.inj z)
    · rw [hb] at z; exact hn2 C dx fs (Option.some.inj z)
  refine ⟨ps, no _ _ h1 (fun xs z => by cases z) (fun C dx fs z => by cases z), h2, fun pos cv hc => ?_⟩
  obtain ⟨c, e1, e2⟩ := h3 pos cv hc
  exact ⟨c, e1, no _ _ e2 (fun xs z => by unfold LamX.CodeO at z; cases z) (fun C dx fs z => by unfold LamX.CodeO at z; cases z)⟩
theorem tabsFr0 {T : List (Addr × Str)} {H H' : Hp} (f : Fr [] H H') (t : LamX.Tabs T H) : LamX.Tabs T H' := tabsFr (fun a h => by cases h) f t
theorem tabsSt {K : PySem.W.Frag} {ns : List Int} {T : List (Addr × Str)} {H H' : Hp} {a sc : Addr} (s : StAt K ns H a sc) (f : Fr [a] H H') (t : LamX.Tabs T H) : LamX.Tabs T H' := tabsFr (fun b hb => by
  obtain ⟨⟨_, _, _, h1, _⟩, _⟩ := s
  rw [List.mem_singleton.mp hb]
  exact .inr (.inl ⟨_, h1⟩)) f t
end Dc

set_option Elab.async false
set_option linter.all false
set_option maxRecDepth 100000
set_option maxHeartbeats 4000000
namespace Dc
open PySem PySem.Spec PyProof.Rows L2
local macro_rules | `(tactic| walk_at "ne") => `(tactic| first | assumption | (refine Ne.symm ?_; assumption) | exact ne_of (by assumption) (by assumption) (by intro q; cases q) | exact ne_of_none (by assumption) (by assumption) | exact Ne.symm (ne_of_none (by assumption) (by assumption)))
local macro_rules | `(tactic| walk_at "hp") => `(tactic| first | assumption | exact upd_same | (refine upd_keep ?_ (by assumption); walk_at "hp") | (refine upd_other ?_ ?_; · walk_at "ne"; · walk_at "hp"))
local macro_rules | `(tactic| walk_at "hl") => `(tactic| first | assumption | exact SqL.of (by walk_at "hp"))
local macro_rules | `(tactic| walk_at "ht") => `(tactic| first | assumption | exact SqT.of (by walk_at "hp"))
local macro_rules | `(tactic| walk_at "rd1") => `(tactic| first
  | ((with_reducible apply rd_var); exact rfl)
  | ((with_reducible apply rd_eq); exact rfl) | ((with_reducible apply rd_ne); exact rfl)
  | with_reducible first
  | refine iteT ?_ | refine iteF ?_ | refine rd_nF ?_ | refine rd_nT ?_ | refine rd_yes ?_ | refine rd_c ?_ | refine rd_op ?_ | refine rd_un ?_ | refine rd_test ?_ | refine rd_B ?_ | refine rd_bl ?_ | refine rd_seq ?_ | refine rd_next ?_ | refine rd_ifs ?_ | refine rd_asg ?_ | refine rd_name ?_ | refine rd_ret ?_ | refine rd_drop ?_
  | refine rd_call ?_ | refine rd_cons ?_ | refine rd_nil ?_ | refine rd_cb ?_ | refine rd_I0 ?_ | refine rd_U ?_ | refine rd_gsub ?_ | refine rd_lst ?_ | refine rd_tup ?_ | refine rd_if ?_ | refine rd_not ?_ | refine rd_rng1 ?_ | refine rd_itup ?_ | refine rd_ilst ?_ | refine rd_bm ?_ | refine rd_bm0 ?_ | refine rd_andV ?_ | refine rd_orV ?_ | refine rd_notV ?_)
local macro_rules | `(tactic| walk_at "rd") => `(tactic| repeat walk_at "rd1")
local macro_rules | `(tactic| walk_at "ci") => `(tactic| first | assumption | (show (0 : Int) < _; first | decide | omega) | exact ⟨by decide, by decide⟩ | exact Or.inr ⟨by decide, by decide⟩ | exact Or.inl ⟨by decide, by decide⟩ | exact ⟨by decide, by decide, by decide⟩ | exact Or.inl ⟨by omega, by omega⟩ | exact Or.inr ⟨by omega, by omega⟩)
local macro_rules | `(tactic| walk_at "ix") => `(tactic| first
  | ((with_reducible apply rd_ixL); (walk_at "hl"); exact rfl)
  | ((with_reducible apply rd_ixT); (walk_at "ht"); exact rfl)
  | ((with_reducible apply rd_lenL); (walk_at "hl"))
  | ((with_reducible apply rd_lenT); (walk_at "ht"))
  | ((with_reducible apply rd_tupOf); (walk_at "hl"))
  | ((with_reducible apply rd_listOf); (walk_at "hl"))
  | (with_reducible refine rd_min2 ?_)
  | ((with_reducible apply rd_I); (walk_at "ci"))
  | ((with_reducible apply rd_setL); (walk_at "hp"); exact rfl))
local macro_rules | `(tactic| walk_at "gs") => `(tactic| repeat first | walk_at "rd1" | walk_at "ix")
local macro_rules | `(tactic| walk_at "go") => `(tactic| repeat first | walk_at "rd1" | walk_at "ix" | with_reducible refine rd_and ?_ | with_reducible refine rd_or ?_)
local macro_rules | `(tactic| walk_at "fo") => `(tactic| (with_reducible refine rd_for ?_))
local macro_rules | `(tactic| walk_at "pm") => `(tactic| repeat first
  | with_reducible first | refine rd_pcons ?_ | refine rd_pstr ?_ | refine rd_pcap ?_ | refine rd_pwild ?_ | refine rd_pnil ?_ | refine rd_por ?_ | refine rd_pno ?_
  | ((with_reducible refine rd_eq rfl ?_); refine ⟨_, rfl, ?_⟩; first | refine rd_T rfl ?_ | refine rd_F (by decide) ?_)
  | dsimp only [List.nil_append, List.singleton_append, List.cons_append, setAll])
local macro_rules | `(tactic| walk_at "pc") => `(tactic| (refine rd_case ?_); (first | (refine rd_phit (SqT.of (by assumption)) rfl ?_) | (refine rd_pmiss (SqT.of (by assumption)) (by simp) ?_)); (walk_at "pm"))

/-- the law's promise; its table of code objects stands at PL -/
def spLawT (K : PySem.W.Frag) (PL : Addr) (ns : List Int) : Sp := fun vs H Q _ => ∃ (sc : Addr), vs = [.ref sc] ∧ ScAt K ns H sc ∧ H PL = some (.tbl #[]) ∧ ∀ H', Q (.bl true) H'
theorem okS_num {x : Str} (h : numW x = true) : OkS x := fun c hc => by
  have dig : ∀ {l : List Nat}, NumText.AllDigits l → ∀ c ∈ l, c < 0x110000 := fun h c hc => by have := (h c hc).2; omega
  rcases numB_cases h with ⟨r, e, _, hd, _⟩ | ⟨_, hd, _⟩
  · rw [e] at hc
    rcases List.mem_cons.mp hc with rfl | hc
    · decide
    · exact dig hd c hc
  · exact dig hd c hc
theorem okS_of {x : Str} (h : ∀ c ∈ TL.tl x, c < 128) : OkS x := fun c hc => Nat.lt_trans (h c hc) (by decide)
theorem okS_mk {m : Mkr} (h : m.num) {x : Str} (hx : x ∈ m.words) : OkS x := by
  cases m with
  | count b s =>
    simp only [Mkr.words, List.mem_cons, List.not_mem_nil, or_false] at hx
    rcases hx with rfl | rfl | rfl
    · exact okS_of (by decide +kernel)
    · exact okS_num (numW_n2w h.1)
    · exact okS_num (numW_n2w h.2)
  | row ns =>
    simp only [Mkr.words, List.mem_cons, List.mem_append, List.mem_map, List.not_mem_nil, or_false] at hx
    rcases hx with rfl | ⟨n, hn, rfl⟩ | rfl
    · exact okS_of (by decide +kernel)
    · exact okS_num (numW_n2w (h n hn))
    · exact okS_of (by decide +kernel)
theorem okS_ws : ∀ {c : Ch} {x : Str}, c.num → x ∈ c.ws → OkS x
  | .mkr m, x, h, hx => okS_mk (m := m) h hx
  | .st c k, x, h, hx => by
    rcases List.mem_append.mp (show x ∈ c.ws ++ _ from hx) with q | q
    · exact okS_ws h.1 q
    · rcases List.mem_cons.mp q with rfl | q
      · cases k <;> (simp only [Kd.name]; exact okS_of (by decide +kernel))
      · obtain ⟨n, hn, rfl⟩ := List.mem_map.mp q
        exact okS_num (numW_n2w (h.2 n hn))
  | .both c o, x, h, hx => by
    rcases List.mem_append.mp (show x ∈ c.ws ++ _ from hx) with q | q
    · exact okS_ws h.1 q
    · rcases List.mem_cons.mp q with rfl | q
      · exact okS_of (by decide +kernel)
      · rcases List.mem_append.mp q with q | q
        · exact okS_ws h.2 q
        · rw [List.mem_singleton.mp q]; exact okS_of (by decide +kernel)
  | .thn c o, x, h, hx => by
    rcases List.mem_append.mp (show x ∈ c.ws ++ _ from hx) with q | q
    · exact okS_ws h.1 q
    · rcases List.mem_cons.mp q with rfl | q
      · exact okS_of (by decide +kernel)
      · rcases List.mem_append.mp q with q | q
        · exact okS_ws h.2 q
        · rw [List.mem_singleton.mp q]; exact okS_of (by decide +kernel)
theorem okS_text {c : Ch} (h : c.num) : OkS c.text := okS_join fun x hx => by
  rcases List.mem_append.mp (show x ∈ c.ws ++ [(".":Str)] from hx) with q | q
  · exact okS_ws h q
  · rw [List.mem_singleton.mp q]; exact okS_of (by decide +kernel)
/-- the law's odd texts -/
def odd9 : List Str := [("" : Str), (" " : Str), ("row" : Str), ("row ;" : Str), ("row ; . ." : Str), ("count 0 ." : Str), ("row 1 ; both row ; ." : Str), ("row ; unlike . 5" : Str), ("row ; . " : Str)]
def TxOk (x : Str) : Prop := OkS x ∧ x.length ≤ 100000 ∧ cnt x ≤ 447
theorem odd9_ok : ∀ x ∈ odd9, TxOk x := fun x hx => by
  have : ∀ x ∈ odd9, (∀ c ∈ TL.tl x, c < 128) ∧ x.length ≤ 100 ∧ cnt x ≤ 10 := by decide +kernel
  obtain ⟨h1, h2, h3⟩ := this x hx
  exact ⟨okS_of h1, by omega, by omega⟩
/-- what stands after i changes -/
def TxI (i : Nat) (x : Str) : Prop := OkS x ∧ x.length + 40 ≤ 20040 * 2 ^ i ∧ cnt x ≤ 445 + i
theorem TxI.step {i : Nat} {x y : Str} (h : TxI i x) (c : Chg x y) : TxI (i + 1) y := ⟨c.1, by have := h.2.1; have := c.2.1; rw [Nat.pow_succ]; omega, by have := h.2.2; have := c.2.2; omega⟩
theorem TxI.ok {i : Nat} {x : Str} (h : TxI i x) (hi : i ≤ 2) : TxOk x := ⟨h.1, by
  have := h.2.1
  rcases (by omega : i = 0 ∨ i = 1 ∨ i = 2) with rfl | rfl | rfl <;> omega, by have := h.2.2; omega⟩
/-- the words that the law cuts -/
def wds (x : Str) : List Str := if x = "" then [] else spT x
theorem place_wds (x : Str) : placeW (wds x) = placeW (spT x) := by
  unfold wds
  by_cases h : x = ""
  · rw [if_pos h, h]; decide +kernel
  · rw [if_neg h]
theorem wds_none {x : Str} (h : placeW (wds x) = none) : wds x = spT x := by
  unfold wds at h ⊢
  by_cases e : x = ""
  · rw [if_pos e] at h; exact absurd h (by decide +kernel)
  · rw [if_neg e]
theorem szT_wds {x : Str} (h : TxOk x) : SzT (wds x) := by
  unfold wds
  by_cases e : x = ""
  · rw [if_pos e]; exact ⟨⟨Nat.zero_le _, fun _ h => by cases h⟩, fun _ h => by cases h⟩
  · rw [if_neg e]; exact ⟨spT_sz (by have := h.2.1; omega), fun w hw => okS_word h.1 hw⟩
/-- what is found of a text -/
def FoundV (H : Hp) (x : Str) (v : V) : Prop :=
  (∃ (i : Nat) (t : Addr), placeW (spT x) = some i ∧ v = .ref t ∧ H t = some (.tup [.str "BadText", .int (i : Nat)])) ∨
  (∃ c : Ch, placeW (spT x) = none ∧ c.words = spT x ∧ c.num ∧ ((c.good ∧ ∃ p, v = .ref p ∧ ChAt H p c) ∨ (¬ c.good ∧ v = .str "BadChain")))
structure KRd (K : PySem.W.Frag) (J : KJ) : Prop where
  k0 : KOne K J J.bc 0
  k3 : KOne K J J.bt 3
  xf : XfC K J.bt
  no : PySem.W.findIn K (.ref J.bt) "place" = some none
theorem read_kind {K : PySem.W.Frag} {J : KJ} {x : Str} {H : Hp} {Q : VK} (R : KRd K J) (hx : x.length ≤ 100000) (h : ∀ v H', FoundV H' x v → Fr [] H H' → Q v H') :
    spRead J.bt J.bc [.str x] H Q (fun cls d H' => ∃ D i, cls = .ref D ∧ KOne K J D i ∧ KRes K D i d H' Q) := by
  refine ⟨x, rfl, hx, fun i hi dx H' e f => ⟨J.bt, 3, rfl, R.k3, .inr ⟨rfl, dx, _, rfl, e, R.xf, R.no, fun H'' t et f' => ?_⟩⟩, fun c hp hc hn => ⟨fun hg H' p hch f => ?_, fun hg H' f => ⟨J.bc, 0, rfl, R.k0, .inl ⟨rfl, rfl, fun H'' f' => ?_⟩⟩⟩⟩
  · exact h _ _ (.inl ⟨i, t, hi, rfl, et⟩) (f.tr f')
  · exact h _ _ (.inr ⟨c, hp, hc, hn, .inl ⟨hg, p, rfl, hch⟩⟩) f
  · exact h _ _ (.inr ⟨c, hp, hc, hn, .inr ⟨hg, rfl⟩⟩) (f.tr f')
section
variable {P : Program} {w : World} {K : PySem.W.Frag} {mg : Str → Option Value} {base : Heap}
theorem lawwords {f : Addr} {fd : FuncData} (T : Txt K mg) (F : FnP K "_law_words" "_law_words" s__law_words f fd) (g : mg "_law_words" = some (.ref f)) : ∀ n, n ≤ 1001 → Cal P w K mg base CX0 (n + 1) "_law_words" ["_law_chain_here"] (spWO n)
  | 0, _ => by
    have void : ∀ {vs : List V} {H : Hp} {Q : VK} {E : XK}, spWO 0 vs H Q E → False := by
      rintro vs H Q E ⟨p, c, _, _, _, h, _⟩
      have := c.nm_pos
      omega
    exact cal_of F g (ok0 F sc__law_words (fun vs H Q E h => (void h).elim) fun cdv A outer s H vs Q E hr h => (void h).elim) fun _ _ _ _ _ _ us hl => match us, hl with | [_], _ => rfl
  | n + 1, h => cal_of F g (ok_law_words (by omega) T F (lawwords T F g n (by omega))) fun _ _ _ _ _ _ us hl => match us, hl with | [_], _ => rfl
end
end Dc

set_option Elab.async false
set_option linter.all false
set_option maxRecDepth 100000
set_option maxHeartbeats 4000000
namespace Dc
open PySem PySem.Spec PyProof.Rows L2
local macro_rules | `(tactic| walk_at "ne") => `(tactic| first | assumption | (refine Ne.symm ?_; assumption) | exact ne_of (by assumption) (by assumption) (by intro q; cases q) | exact ne_of_none (by assumption) (by assumption) | exact Ne.symm (ne_of_none (by assumption) (by assumption)))
local macro_rules | `(tactic| walk_at "hp") => `(tactic| first | assumption | exact upd_same | (refine upd_keep ?_ (by assumption); walk_at "hp") | (refine upd_other ?_ ?_; · walk_at "ne"; · walk_at "hp"))
local macro_rules | `(tactic| walk_at "hl") => `(tactic| first | assumption | exact SqL.of (by walk_at "hp"))
local macro_rules | `(tactic| walk_at "ht") => `(tactic| first | assumption | exact SqT.of (by walk_at "hp"))
local macro_rules | `(tactic| walk_at "rd1") => `(tactic| first
  | ((with_reducible apply rd_var); exact rfl)
  | ((with_reducible apply rd_eq); exact rfl) | ((with_reducible apply rd_ne); exact rfl)
  | with_reducible first
  | refine iteT ?_ | refine iteF ?_ | refine rd_nF ?_ | refine rd_nT ?_ | refine rd_yes ?_ | refine rd_c ?_ | refine rd_op ?_ | refine rd_un ?_ | refine rd_test ?_ | refine rd_B ?_ | refine rd_bl ?_ | refine rd_seq ?_ | refine rd_next ?_ | refine rd_ifs ?_ | refine rd_asg ?_ | refine rd_name ?_ | refine rd_ret ?_ | refine rd_drop ?_
  | refine rd_call ?_ | refine rd_cons ?_ | refine rd_nil ?_ | refine rd_cb ?_ | refine rd_I0 ?_ | refine rd_U ?_ | refine rd_gsub ?_ | refine rd_lst ?_ | refine rd_tup ?_ | refine rd_if ?_ | refine rd_not ?_ | refine rd_rng1 ?_ | refine rd_itup ?_ | refine rd_ilst ?_ | refine rd_bm ?_ | refine rd_bm0 ?_ | refine rd_andV ?_ | refine rd_orV ?_ | refine rd_notV ?_)
local macro_rules | `(tactic| walk_at "rd") => `(tactic| repeat walk_at "rd1")
local macro_rules | `(tactic| walk_at "ci") => `(tactic| first | assumption | (show (0 : Int) < _; first | decide | omega) | exact ⟨by decide, by decide⟩ | exact Or.inr ⟨by decide, by decide⟩ | exact Or.inl ⟨by decide, by decide⟩ | exact ⟨by decide, by decide, by decide⟩ | exact Or.inl ⟨by omega, by omega⟩ | exact Or.inr ⟨by omega, by omega⟩)
local macro_rules | `(tactic| walk_at "ix") => `(tactic| first
  | ((with_reducible apply rd_ixL); (walk_at "hl"); exact rfl)
  | ((with_reducible apply rd_ixT); (walk_at "ht"); exact rfl)
  | ((with_reducible apply rd_lenL); (walk_at "hl"))
  | ((with_reducible apply rd_lenT); (walk_at "ht"))
  | ((with_reducible apply rd_tupOf); (walk_at "hl"))
  | ((with_reducible apply rd_listOf); (walk_at "hl"))
  | (with_reducible refine rd_min2 ?_)
  | ((with_reducible apply rd_I); (walk_at "ci"))
  | ((with_reducible apply rd_setL); (walk_at "hp"); exact rfl))
local macro_rules | `(tactic| walk_at "gs") => `(tactic| repeat first | walk_at "rd1" | walk_at "ix")
local macro_rules | `(tactic| walk_at "go") => `(tactic| repeat first | walk_at "rd1" | walk_at "ix" | with_reducible refine rd_and ?_ | with_reducible refine rd_or ?_)
local macro_rules | `(tactic| walk_at "fo") => `(tactic| (with_reducible refine rd_for ?_))
local macro_rules | `(tactic| walk_at "pm") => `(tactic| repeat first
  | with_reducible first | refine rd_pcons ?_ | refine rd_pstr ?_ | refine rd_pcap ?_ | refine rd_pwild ?_ | refine rd_pnil ?_ | refine rd_por ?_ | refine rd_pno ?_
  | ((with_reducible refine rd_eq rfl ?_); refine ⟨_, rfl, ?_⟩; first | refine rd_T rfl ?_ | refine rd_F (by decide) ?_)
  | dsimp only [List.nil_append, List.singleton_append, List.cons_append, setAll])
local macro_rules | `(tactic| walk_at "pc") => `(tactic| (refine rd_case ?_); (first | (refine rd_phit (SqT.of (by assumption)) rfl ?_) | (refine rd_pmiss (SqT.of (by assumption)) (by simp) ?_)); (walk_at "pm"))

def spAny (K : PySem.W.Frag) (ns : List Int) : Sp := fun vs H Q _ => ∃ (a sc : Addr) (rows : Bool), vs = [.ref a, .bl rows] ∧ StAt K ns H a sc ∧
  ∀ (p : Addr) (c : Ch) (H' : Hp), ChAt H' p c → c.ok → (rows = true → c.rows) → c.nm ≤ 4 → c.ns ≤ 12 → StAt K ns H' a sc → Fr [a] H H' → Q (.ref p) H'
section
variable {P : Program} {w : World} {K : PySem.W.Frag} {mg : Str → Option Value} {base : Heap}
theorem sc__law_chain : FnScope ["_law_state", "_law_room", "_law_rows", "_law_maker_here", "_law_stages_here", "_law_k"] ["_law_state", "_law_room", "_law_rows"] (defScope s__law_chain) := ⟨rfl, rfl, rfl, by decide +kernel, rfl, by decide +kernel, by decide +kernel⟩
theorem ok_law_chain {f : Addr} {fd : FuncData} {ns : List Int} {n k : Nat} (T : Txt K mg) (F : FnP K "_law_chain" "_law_chain" s__law_chain f fd)
    (G__law_drawn : Cal P w K mg base CX0 1 "_law_drawn" ["_law_state", "_law_many"] (spDrawn K ns)) (G__law_maker : Cal P w K mg base CX0 3 "_law_maker" ["_law_state", "_law_rows"] (spMaker K ns))
    (G__law_stage : Cal P w K mg base CX0 (k + 3) "_law_stage" ["_law_state", "_law_room", "_law_rows"] (spStage K ns n)) :
    FnOk P w K mg base CX0 (k + 4) f fd ["_law_state", "_law_room", "_law_rows"] (spChain K ns (n + 1)) := by
  refine ok0 F sc__law_chain (fun vs H Q E h => ?_) (fun cdv A outer s H vs Q E hr h => ?_)
  · obtain ⟨a, sc, r, rows, m, s, t, rfl, _⟩ := h
    rfl
  · obtain ⟨a, sc, r, rows, m, s, t, rfl, S, R, m0, m1, s0, k⟩ := h
    refine ⟨_, (pss_cons (ps_asg (pe_op op_sub (pe_ix (ix_listK K) (pv 1) pe_int (fun _ _ => rfl)) pe_int) (pg_sub (pv 1) pe_int set_list))
  (pss_cons (ps_set (i := 3) sc__law_chain.nd rfl (Or.inl rfl) (pe_cal G__law_maker (hr.mono (by omega)) pass0 (pa_cons (pv 0) (pa_cons (pv 2) pa_nil))))
  (pss_cons (ps_set (i := 4) sc__law_chain.nd rfl (Or.inl rfl) (pe_lst pa_nil))
  (pss_cons (ps_for PassesOwn.never rfl (pi_range1 (by rfl) T.free_range (pa_cons (pe_cal G__law_drawn (hr.mono (by omega)) pass0 (pa_cons (pv 0) (pa_cons (pe_op op_add pe_int (pe_callB (call_min2n rfl) (by rfl) T.free_min (by decide +kernel) (pa_cons pe_int (pa_cons (pe_ix (ix_listK K) (pv 1) pe_int (fun _ _ => rfl)) pa_nil)))) pa_nil))) pa_nil)) (pg_name (i := 5) sc__law_chain.nd rfl (Or.inl rfl))
    (pss_one (ps_if (pt_cmpR op_gt (pe_ix (ix_listK K) (pv 1) pe_int (fun _ _ => rfl)) pe_int (nomark _))
      (pss_cons (ps_asg (pe_op op_sub (pe_ix (ix_listK K) (pv 1) pe_int (fun _ _ => rfl)) pe_int) (pg_sub (pv 1) pe_int set_list))
      (pss_one (ps_expr (pe_bm PySem.F.plainAttrs_list PySem.F.slot_list_append PySem.F.type_list_append mt_append (pv 4) (pa_cons (pe_cal G__law_stage (hr.mono (by omega)) pass0 (pa_cons (pv 0) (pa_cons (pv 1) (pa_cons (pv 2) pa_nil)))) pa_nil))))) pss_nil)))
  (pss_one (ps_ret (pe_tup (pa_cons (pv 3) (pa_cons (pe_callTy (call_tupOfK K) (by rfl) T.free_tuple (by decide +kernel) (pa_cons (pv 4) pa_nil)) pa_nil))))))))), ?_⟩
    try dsimp only [cxOf, Cx.nox, Cx.wish]
    refine rd_at (σ' := [some (.ref a), some (.ref r), some (.bl rows), none, none, none]) rfl ?_
    have nra := room_ne S R
    have r1 := R.1
    walk_at "go"
    have f0 : Fr [a, r] H (upd H r (.lst [.int (m - 1), .int s, .int t])) := Fr.put (by simp) (nt r1)
    have S0 : StAt K ns (upd H r (.lst [.int (m - 1), .int s, .int t])) a sc := S.fr (Fr.put (S := [r]) List.mem_cons_self (nt r1)) (by simpa using nra.symm)
    refine ⟨a, sc, rows, rfl, S0, fun mk mkr H1 mok mrow hmk S1 f1 => ?_⟩
    have r2 : H1 r = some (.lst [.int (m - 1), .int s, .int t]) := f1.at upd_same (by simpa using nra)
    have f01 : Fr [a, r] H H1 := f0.tr (f1.mono (by simp))
    walk_at "go"
    refine ⟨by show 0 ≤ sizeLine; decide, fun l hl => ?_⟩
    have fl := Fr.new (S := [a, r]) (o := .lst []) hl
    have hl0 : H l = none := f01.free (by
      have h1 := ne_of_none r2 hl
      obtain ⟨⟨_, _, _, z, _⟩, _⟩ := S1
      have h2 := ne_of_none z hl
      simp [Ne.symm h1, Ne.symm h2]) hl
    have S2 := (st_new (o := .lst []) S1 hl).1
    have r3 := upd_keep (u := .lst []) r2 hl
    have gl : upd H1 l (.lst []) l = some (.lst []) := upd_same
    have hmk2 := hmk.fr fl
    have f02 := f01.tr fl
    clear fl
    generalize upd H1 l (.lst []) = H2 at *
    walk_at "go"
    walk_at "fo"
    walk_at "go"
    have hmin : 0 ≤ (if s < 6 then s else 6) ∧ (if s < 6 then s else 6) ≤ 6 := by split <;> omega
    refine ⟨a, sc, _, rfl, S2, by omega, Nat.lt_of_le_of_lt (show _ ≤ 7 by omega) (by decide), fun d H3 d0 d1 S3 f3 => ?_⟩
    refine ⟨d, rfl, by omega, by omega, ?_⟩
    have nla : l ∉ [a] := by
      obtain ⟨⟨_, _, _, z, _⟩, _⟩ := S2
      have := ne_of gl z (by intro q; cases q)
      simpa using this
    have nlr : l ≠ r := ne_of gl r3 (by intro q; cases q)
    refine for_range (lo := 0) (n := d.toNat) (fun i σ H4 => ∃ (c : Ch) (as : List Addr) (t' : Int) (v : Option V), σ = [some (.ref a), some (.ref r), some (.bl rows), some (.ref mk), some (.ref l), v] ∧ StsAt H4 c mk as ∧ H4 l = some (.lst (as.map V.ref)) ∧
      c.ok ∧ (rows = true → c.rows) ∧ (c.nm : Int) ≤ m ∧ (c.ns : Int) ≤ s ∧ c.len ≤ i ∧ RoomAt H4 r (m - c.nm) (s - c.ns) t' ∧ StAt K ns H4 a sc ∧ Fr [a, r] H H4)
      ⟨.mkr mkr, [], t, none, rfl, ⟨rfl, hmk2.fr f3⟩, f3.at gl nla, mok, mrow, by show (1 : Int) ≤ m; omega, by show (0 : Int) ≤ s; omega, Nat.le_refl _, ⟨by rw [f3.at r3 (by simpa using nra)]; simp [Ch.nm, Ch.ns], R.2⟩, S3, f02.tr (f3.mono (by simp))⟩ ?_ ?_
    · rintro i σ H4 hi ⟨c, as, t', v, rfl, hc, hl4, cok, crow, cm, cs, cl, R4, S4, f4⟩
      have r4 := R4.1
      walk_at "go"
      refine rd_dec (fun q => ?_) (fun q => ?_)
      · walk_at "go"
        have f5 : Fr [a, r] H4 (upd H4 r (.lst [.int (m - c.nm), .int (s - c.ns - 1), .int t'])) := Fr.put (by simp) (nt r4)
        refine ⟨tyl (xs := as.map V.ref) (upd_other nlr hl4), ?_⟩
        walk_at "go"
        have hpos := c.nm_pos
        refine ⟨a, sc, r, rows, m - c.nm, s - c.ns - 1, t', rfl, S4.fr (Fr.put (S := [r]) List.mem_cons_self (nt r4)) (by simpa using nra.symm), ⟨upd_same, R4.2⟩, by omega, by omega, by omega, fun x g t2 H6 hg gok grow gm gs R6 S6 f6 => ?_⟩
        have hl6 : H6 l = some (.lst (as.map V.ref)) := f6.at (upd_other nlr hl4) (by simp at nla; simp [nla, nlr])
        have las : as.length = c.len := hc.length
        walk_at "go"
        refine rd_append hl6 (by rw [List.length_map]; exact small1000 (by omega)) ?_
        have f7 : Fr [l] H6 (upd H6 l (.lst (as.map V.ref ++ [.ref x]))) := Fr.put List.mem_cons_self (nt hl6)
        refine ⟨c.snoc g, as ++ [x], t2, _, rfl, ?_, ?_, Ch.snoc_ok cok gok, fun z => Ch.snoc_rows (crow z) (grow z), by rw [Ch.snoc_nm]; omega, by rw [Ch.snoc_ns]; omega, ?_, ?_, S6.fr f7 (by simp at nla; simp [Ne.symm nla]), ?_⟩
        · exact (((hc.fr f5).fr f6).snoc hg).fr f7
        · rw [upd_same, List.map_append]; rfl
        · cases g <;> exact Nat.succ_le_succ cl
        · refine ⟨?_, R6.2⟩
          have := (R6.fr f7 (by simp [Ne.symm nlr])).1
          rw [this, Ch.snoc_nm, Ch.snoc_ns]
          have e1 : m - (c.nm : Int) - (g.nm : Int) = m - ((c.nm + g.nm : Nat) : Int) := by omega
          have e2 : s - (c.ns : Int) - 1 - (g.ns : Int) = s - ((c.ns + g.ns + 1 : Nat) : Int) := by omega
          rw [e1, e2]
        · exact ((f4.tr f5).tr f6).putN (.inr hl0) (nt hl6)
      · walk_at "go"
        exact ⟨c, as, t', _, rfl, hc, hl4, cok, crow, cm, cs, by omega, R4, S4, f4⟩
    · rintro σ H4 ⟨c, as, t', v, rfl, hc, hl4, cok, crow, cm, cs, cl, R4, S4, f4⟩
      walk_at "go"
      intro ss hss
      walk_at "go"
      refine ⟨by show 2 ≤ sizeLine; decide, fun p hp => ?_⟩
      have fs := (Fr.new (S := [a, r]) (o := .tup (as.map V.ref)) hss).newN (o := .tup [.ref mk, .ref ss]) hp
      refine k p c t' _ ⟨mk, ss, as, upd_same, upd_keep upd_same hp, hc.fr fs⟩ cok crow cm cs ⟨upd_keep (upd_keep R4.1 hss) hp, R4.2⟩ (st_new (st_new S4 hss).1 hp).1 (f4.tr fs)
theorem ok_law_chain0 {f : Addr} {fd : FuncData} {ns : List Int} (F : FnP K "_law_chain" "_law_chain" s__law_chain f fd) : FnOk P w K mg base CX0 2 f fd ["_law_state", "_law_room", "_law_rows"] (spChain K ns 0) := by
  refine ok0 F sc__law_chain (fun vs H Q E h => ?_) (fun cdv A outer s H vs Q E hr h => ?_)
  · obtain ⟨a, sc, r, rows, m, s, t, rfl, _⟩ := h
    rfl
  · obtain ⟨a, sc, r, rows, m, s, t, rfl, S, R, m0, m1, _⟩ := h
    exact absurd m0 (by simp at m1; omega)
/-- the chain's makers, by induction upon how many are left -/
theorem cal_law_chain {f fS : Addr} {fd fdS : FuncData} {ns : List Int} (T : Txt K mg) (F : FnP K "_law_chain" "_law_chain" s__law_chain f fd) (FS : FnP K "_law_stage" "_law_stage" s__law_stage fS fdS)
    (g : mg "_law_chain" = some (.ref f)) (gS : mg "_law_stage" = some (.ref fS))
    (Gd : Cal P w K mg base CX0 1 "_law_drawn" ["_law_state", "_law_many"] (spDrawn K ns)) (Gn : Cal P w K mg base CX0 2 "_law_number" ["_law_state"] (spNumber K ns)) (Gm : Cal P w K mg base CX0 3 "_law_maker" ["_law_state", "_law_rows"] (spMaker K ns)) :
    ∀ n : Nat, Cal P w K mg base CX0 (2 * n + 2) "_law_chain" ["_law_state", "_law_room", "_law_rows"] (spChain K ns n)
  | 0 => cal_of F g (ok_law_chain0 F) fun _ _ _ _ _ _ us hl => match us, hl with | [_, _, _], _ => rfl
  | n + 1 => by
    have ih := cal_law_chain T F FS g gS Gd Gn Gm n
    have GS : Cal P w K mg base CX0 (2 * n + 3) "_law_stage" ["_law_state", "_law_room", "_law_rows"] (spStage K ns n) := cal_of FS gS (ok_law_stage (k := 2 * n) T FS Gd Gn ih) fun _ _ _ _ _ _ us hl => match us, hl with | [_, _, _], _ => rfl
    exact cal_of F g (ok_law_chain (k := 2 * n) T F Gd Gm GS) fun _ _ _ _ _ _ us hl => match us, hl with | [_, _, _], _ => rfl
theorem sc__law_any : FnScope ["_law_state", "_law_rows"] ["_law_state", "_law_rows"] (defScope s__law_any) := ⟨rfl, rfl, rfl, by decide +kernel, rfl, by decide +kernel, by decide +kernel⟩
theorem ok_law_any {f : Addr} {fd : FuncData} {ns : List Int} (T : Txt K mg) (F : FnP K "_law_any" "_law_any" s__law_any f fd)
    (G__law_drawn : Cal P w K mg base CX0 1 "_law_drawn" ["_law_state", "_law_many"] (spDrawn K ns)) (G__law_chain : Cal P w K mg base CX0 10 "_law_chain" ["_law_state", "_law_room", "_law_rows"] (spChain K ns 4)) :
    FnOk P w K mg base CX0 11 f fd ["_law_state", "_law_rows"] (spAny K ns) := by
  refine ok0 F sc__law_any (fun vs H Q E h => ?_) (fun cdv A outer s H vs Q E hr h => ?_)
  · obtain ⟨a, sc, rows, rfl, _⟩ := h
    rfl
  · obtain ⟨a, sc, rows, rfl, S, k⟩ := h
    refine ⟨_, (pss_one (ps_ret (pe_cal G__law_chain (hr.mono (by omega)) pass0 (pa_cons (pv 0) (pa_cons (pe_lst (pa_cons (pe_op op_add pe_int (pe_cal G__law_drawn (hr.mono (by omega)) pass0 (pa_cons (pv 0) (pa_cons pe_int pa_nil)))) (pa_cons (pe_ix (ix_listK K) (pe_lst (pa_cons pe_int (pa_cons pe_int pa_nil))) (pe_cal G__law_drawn (hr.mono (by omega)) pass0 (pa_cons (pv 0) (pa_cons pe_int pa_nil))) (fun _ _ => rfl)) (pa_cons pe_int pa_nil)))) (pa_cons (pv 1) pa_nil)))))), ?_⟩
    try dsimp only [cxOf, Cx.nox, Cx.wish]
    refine rd_at (σ' := [some (.ref a), some (.bl rows)]) rfl ?_
    walk_at "go"
    refine ⟨a, sc, 4, rfl, S, by decide, by decide, fun m H1 m0 m1 S1 f1 => ?_⟩
    walk_at "go"
    refine ⟨by show 2 ≤ sizeLine; decide, fun p hp => ?_⟩
    obtain ⟨S2, np⟩ := st_new (o := .lst [.int 4, .int 12]) S1 hp
    walk_at "go"
    refine ⟨a, sc, 2, rfl, S2, by decide, by decide, fun d H3 d0 d1 S3 f3 => ?_⟩
    walk_at "go"
    obtain ⟨v, hv, ev⟩ := at_in (xs := [V.int 4, .int 12]) (i := d) d0 d1
    refine rd_ixL (SqL.of (f3.at upd_same (by simpa using np.symm))) ev ?_
    obtain ⟨s, rfl, s0, s1⟩ : ∃ z : Int, v = .int z ∧ 0 ≤ z ∧ z ≤ 12 := by
      simp only [List.mem_cons, List.not_mem_nil, or_false] at hv
      rcases hv with rfl | rfl
      all_goals exact ⟨_, rfl, by omega, by omega⟩
    walk_at "go"
    refine ⟨by show 3 ≤ sizeLine; decide, fun r hr => ?_⟩
    have f04 : Fr [a] H (upd H3 r (.lst [.int (1 + m), .int s, .int 1])) := (f1.tr ((Fr.new hp).tr f3)).newN hr
    have hr0 : H r = none := (f1.tr ((Fr.new hp).tr f3)).free (by
      obtain ⟨⟨_, _, _, z, _⟩, _⟩ := S3
      have := ne_of_none z hr
      simpa using this.symm) hr
    walk_at "go"
    refine ⟨a, sc, r, rows, 1 + m, s, 1, rfl, (st_new S3 hr).1, ⟨upd_same, by decide, by decide⟩, by omega, by omega, s0, fun p2 c t' H5 hc cok crow cm cs R5 S5 f5 => ?_⟩
    exact k p2 c H5 hc cok crow (by omega) (by omega) S5 (f04.trans f5 fun b hb => by
      simp only [List.mem_cons, List.not_mem_nil, or_false] at hb
      rcases hb with rfl | rfl
      · exact .inl List.mem_cons_self
      · exact .inr hr0)
end
end Dc

set_option Elab.async false
set_option linter.all false
set_option maxRecDepth 100000
set_option maxHeartbeats 8000000
namespace Dc
open PySem PySem.Spec PyProof.Rows L2
local macro_rules | `(tactic| walk_at "ne") => `(tactic| first | assumption | (refine Ne.symm ?_; assumption) | exact ne_of (by assumption) (by assumption) (by intro q; cases q) | exact ne_of_none (by assumption) (by assumption) | exact Ne.symm (ne_of_none (by assumption) (by assumption)))
local macro_rules | `(tactic| walk_at "hp") => `(tactic| first | assumption | exact upd_same | (refine upd_keep ?_ (by assumption); walk_at "hp") | (refine upd_other ?_ ?_; · walk_at "ne"; · walk_at "hp"))
local macro_rules | `(tactic| walk_at "hl") => `(tactic| first | assumption | exact SqL.of (by walk_at "hp"))
local macro_rules | `(tactic| walk_at "ht") => `(tactic| first | assumption | exact SqT.of (by walk_at "hp"))
local macro_rules | `(tactic| walk_at "rd1") => `(tactic| first
  | ((with_reducible apply rd_var); exact rfl)
  | ((with_reducible apply rd_eq); exact rfl) | ((with_reducible apply rd_ne); exact rfl)
  | with_reducible first
  | refine iteT ?_ | refine iteF ?_ | refine rd_nF ?_ | refine rd_nT ?_ | refine rd_yes ?_ | refine rd_c ?_ | refine rd_op ?_ | refine rd_un ?_ | refine rd_test ?_ | refine rd_B ?_ | refine rd_bl ?_ | refine rd_seq ?_ | refine rd_next ?_ | refine rd_ifs ?_ | refine rd_asg ?_ | refine rd_name ?_ | refine rd_ret ?_ | refine rd_drop ?_
  | refine rd_call ?_ | refine rd_cons ?_ | refine rd_nil ?_ | refine rd_cb ?_ | refine rd_I0 ?_ | refine rd_U ?_ | refine rd_gsub ?_ | refine rd_lst ?_ | refine rd_tup ?_ | refine rd_if ?_ | refine rd_not ?_ | refine rd_rng1 ?_ | refine rd_itup ?_ | refine rd_ilst ?_ | refine rd_bm ?_ | refine rd_bm0 ?_ | refine rd_andV ?_ | refine rd_orV ?_ | refine rd_notV ?_)
local macro_rules | `(tactic| walk_at "rd") => `(tactic| repeat walk_at "rd1")
local macro_rules | `(tactic| walk_at "ci") => `(tactic| first | assumption | (show (0 : Int) < _; first | decide | omega) | exact ⟨by decide, by decide⟩ | exact Or.inr ⟨by decide, by decide⟩ | exact Or.inl ⟨by decide, by decide⟩ | exact ⟨by decide, by decide, by decide⟩ | exact Or.inl ⟨by omega, by omega⟩ | exact Or.inr ⟨by omega, by omega⟩)
local macro_rules | `(tactic| walk_at "ix") => `(tactic| first
  | ((with_reducible apply rd_ixL); (walk_at "hl"); exact rfl)
  | ((with_reducible apply rd_ixT); (walk_at "ht"); exact rfl)
  | ((with_reducible apply rd_lenL); (walk_at "hl"))
  | ((with_reducible apply rd_lenT); (walk_at "ht"))
  | ((with_reducible apply rd_tupOf); (walk_at "hl"))
  | ((with_reducible apply rd_listOf); (walk_at "hl"))
  | (with_reducible refine rd_min2 ?_)
  | ((with_reducible apply rd_I); (walk_at "ci"))
  | ((with_reducible apply rd_setL); (walk_at "hp"); exact rfl))
local macro_rules | `(tactic| walk_at "gs") => `(tactic| repeat first | walk_at "rd1" | walk_at "ix")
local macro_rules | `(tactic| walk_at "go") => `(tactic| repeat first | walk_at "rd1" | walk_at "ix" | with_reducible refine rd_and ?_ | with_reducible refine rd_or ?_)
local macro_rules | `(tactic| walk_at "fo") => `(tactic| (with_reducible refine rd_for ?_))
local macro_rules | `(tactic| walk_at "pm") => `(tactic| repeat first
  | with_reducible first | refine rd_pcons ?_ | refine rd_pstr ?_ | refine rd_pcap ?_ | refine rd_pwild ?_ | refine rd_pnil ?_ | refine rd_por ?_ | refine rd_pno ?_
  | ((with_reducible refine rd_eq rfl ?_); refine ⟨_, rfl, ?_⟩; first | refine rd_T rfl ?_ | refine rd_F (by decide) ?_)
  | dsimp only [List.nil_append, List.singleton_append, List.cons_append, setAll])
local macro_rules | `(tactic| walk_at "pc") => `(tactic| (refine rd_case ?_); (first | (refine rd_phit (SqT.of (by assumption)) rfl ?_) | (refine rd_pmiss (SqT.of (by assumption)) (by simp) ?_)); (walk_at "pm"))

section
variable {P : Program} {w : World} {K : PySem.W.Frag} {mg : Str → Option Value} {base : Heap} {J : KJ}
theorem sc_law : FnScope ["_law_script", "_law_state", "_law_odd", "_law_turn", "_law_chain_here", "_law_text", "_law_change", "_law_some", "_law_words_here", "_law_place_here", "_law_found", "_law_due"] ["_law_script"] (defScope s_law) := ⟨rfl, rfl, rfl, by decide +kernel, rfl, by decide +kernel, by decide +kernel⟩
theorem ok_law (T : Txt K mg) (BK : KB mg J) (R : KRd K J) {f : Addr} {fd : FuncData} {ns : List Int} {c PL : Addr} (F : FnP K "law" "law" s_law f fd) (hcode : fd.code = .ref c) (TB : LamX.TabB base mg c PL)
    (IK : ∃ f fd, FnP K "_law_kind" "_law_kind" s__law_kind f fd ∧ mg "_law_kind" = some (.ref f))
    (G__law_start : Cal P w K mg base CX0 1 "_law_start" ["_law_script"] (spStart K ns))
    (G__law_any : Cal P w K mg base CX0 11 "_law_any" ["_law_state", "_law_rows"] (spAny K ns))
    (G__law_drawn : Cal P w K mg base CX0 1 "_law_drawn" ["_law_state", "_law_many"] (spDrawn K ns))
    (G__law_words : Cal P w K mg base CX0 5 "_law_words" ["_law_chain_here"] (spWO 4))
    (G__law_same : Cal P w K mg base CX0 14 "_law_same" ["_law_found", "_law_due"] (spSame 12))
    (G__law_changed : Cal P w K mg base CX0 2 "_law_changed" ["_law_state", "_law_text"] (spChanged K ns))
    (G__law_place : Cal P w K mg base CX0 1 "_law_place" ["_law_words_here"] spPlace)
    (G__law_parsed : Cal P w K mg base CX0 151 "_law_parsed" ["_law_words_here", "_law_at"] (spPa 150))
    (G__law_is_good : Cal P w K mg base CX0 202 "_law_is_good" ["_law_chain_here"] spIsGood)
    (G_written : Cal P w K mg base CX0 8 "written" ["chain"] spWritten)
    (G_read_chain : Cal P w K mg base (L2.CX P w) 7 "read_chain" ["text"] (spRead J.bt J.bc)) :
    FnOk P w K mg base CX0 210 f fd ["_law_script"] (spLawT K PL ns) := by
  refine ok0C F sc_law (fun vs H Q E h => ?_) (fun A outer s H vs Q E hr h => ?_)
  · obtain ⟨sc, rfl, _⟩ := h
    rfl
  · obtain ⟨sc, rfl, hS, hPL, k⟩ := h
    refine ⟨_, (pss_cons (ps_set (i := 1) sc_law.nd rfl (Or.inl rfl) (pe_cal G__law_start (hr.mono (by omega)) pass0 (pa_cons (pv 0) pa_nil)))
  (pss_cons (ps_set (i := 2) sc_law.nd rfl (Or.inl rfl) (pe_lst (pa_cons pe_str (pa_cons pe_str (pa_cons pe_str (pa_cons pe_str (pa_cons pe_str (pa_cons pe_str (pa_cons pe_str (pa_cons pe_str (pa_cons pe_str pa_nil)))))))))))
  (pss_cons (ps_for PassesOwn.never rfl (pi_range1 (by rfl) T.free_range (pa_cons pe_int pa_nil)) (pg_name (i := 3) sc_law.nd rfl (Or.inl rfl))
    (pss_cons (ps_set (i := 4) sc_law.nd rfl (Or.inl rfl) (pe_cal G__law_any (hr.mono (by omega)) pass0 (pa_cons (pv 1) (pa_cons pe_bl pa_nil))))
    (pss_cons (ps_set (i := 5) sc_law.nd rfl (Or.inl rfl) (pe_bm PySem.F.plainAttrs_str PySem.F.slot_str_join PySem.F.type_str_join mt_join pe_str (pa_cons (pe_cal G__law_words (hr.mono (by omega)) pass0 (pa_cons (pv 4) pa_nil)) pa_nil)))
    (pss_cons (ps_if (PW.pt (pw_or (pt_not (pt_val (pe_cal G__law_same (hr.mono (by omega)) pass0 (pa_cons (pe_cal G_written (hr.mono (by omega)) pass0 (pa_cons (pv 4) pa_nil)) (pa_cons (pv 5) pa_nil))))) (pw_or1 (pt_not (pt_val (pe_cal G__law_same (hr.mono (by omega)) pass0 (pa_cons (pe_cal G_read_chain (hr.mono (by omega)) passX0 (pa_cons (pv 5) pa_nil)) (pa_cons (pv 4) pa_nil))))))))
      (pss_one (ps_ret pe_bl)) pss_nil)
    (pss_cons (ps_for PassesOwn.never rfl (pi_range1 (by rfl) T.free_range (pa_cons (pe_cal G__law_drawn (hr.mono (by omega)) pass0 (pa_cons (pv 1) (pa_cons pe_int pa_nil))) pa_nil)) (pg_name (i := 6) sc_law.nd rfl (Or.inl rfl))
      (pss_one (ps_set (i := 5) sc_law.nd rfl (Or.inl rfl) (pe_cal G__law_changed (hr.mono (by omega)) pass0 (pa_cons (pv 1) (pa_cons (pv 5) pa_nil))))))
    (pss_one (ps_for PassesOwn.never rfl (pi_list (pe_lst (pa_cons (pv 5) (pa_cons (pe_ix (ix_listK K) (pv 2) (pe_cal G__law_drawn (hr.mono (by omega)) pass0 (pa_cons (pv 1) (pa_cons pe_int pa_nil))) (fun _ _ => rfl)) pa_nil)))) (pg_name (i := 7) sc_law.nd rfl (Or.inr rfl))
      (Evl.pss_cut (ps_set (i := 8) sc_law.nd rfl (Or.inl rfl) (pe_ifExp (pt_cmpR op_ne (pv 7) pe_str (nomark _)) (pe_bm PySem.F.plainAttrs_str PySem.F.slot_str_split PySem.F.type_str_split mt_split (pv 7) (pa_cons pe_str pa_nil)) (pe_lst pa_nil)))
      (pss_cons (ps_set (i := 9) sc_law.nd rfl (Or.inl rfl) (pe_cal G__law_place (hr.mono (by omega)) pass0 (pa_cons (pv 8) pa_nil)))
      (pss_cons (ps_set (i := 10) sc_law.nd rfl (Or.inl rfl) (pe_kind (k := 10) IK T BK TB (by exact hcode) (List.mem_singleton.mpr rfl) (fun p hp _ => by rw [List.mem_singleton.mp hp]) (hr.mono (by omega)) (show LamX.LamS (defScope s_law) _ from LamX.lamS_by (by decide +kernel)) rfl (fun _ _ _ _ _ => rfl) (fun A outer s H E f c' hr => (pe_cal G_read_chain (hr.mono (by omega)) (passes_call (takes_of rfl rfl rfl rfl) fun _ _ _ _ h => h) (pa_cons (pv 7) pa_nil)))))
      (pss_one (ps_if (pt_cmpR op_notN (pv 9) pe_non (nomark _))
        (pss_one (ps_if (pt_not (pt_val (pe_cal G__law_same (hr.mono (by omega)) pass0 (pa_cons (pv 10) (pa_cons (pe_tup (pa_cons pe_str (pa_cons (pv 9) pa_nil))) pa_nil)))))
          (pss_one (ps_ret pe_bl)) pss_nil))
        (pss_cons (ps_set (i := 11) sc_law.nd rfl (Or.inl rfl) (pe_ix (ix_tupK K) (pe_cal G__law_parsed (hr.mono (by omega)) pass0 (pa_cons (pv 8) (pa_cons pe_int pa_nil))) pe_int (fun _ _ => rfl)))
        (pss_one (ps_if (pt_not (pt_val (pe_cal G__law_same (hr.mono (by omega)) pass0 (pa_cons (pv 10) (pa_cons (pe_ifExp (pt_val (pe_cal G__law_is_good (hr.mono (by omega)) pass0 (pa_cons (pv 11) pa_nil))) (pv 11) pe_str) pa_nil)))))
          (pss_one (ps_ret pe_bl)) pss_nil)))))))))))))))
  (pss_one (ps_ret pe_bl))))), ?_⟩
    try dsimp only [cxOf, Cx.nox, Cx.wish]
    refine rd_at (σ' := [some (.ref sc), none, none, none, none, none, none, none, none, none, none, none]) rfl ?_
    generalize (envOfC (Str.ofString "law") (defScope s_law) s.heap.objs.size f fd.code).qual ++ Str.ofString "<lambda>" = lq
    have tab0 : LamX.Tabs [(PL, lq)] H := fun p hp => by
      rw [List.mem_singleton.mp hp]
      exact LamX.TabS.nil hPL
    walk_at "go"
    refine ⟨sc, rfl, hS, fun sa H1 S1 n1 f1 => ?_⟩
    replace tab0 := tabsFr0 f1 tab0
    walk_at "go"
    refine ⟨by show 9 ≤ sizeLine; decide, fun po hpo => ?_⟩
    obtain ⟨S2, npo⟩ := st_new (o := .lst (odd9.map V.str)) S1 hpo
    have t2 := tabsFr0 (Fr.new (o := .lst (odd9.map V.str)) hpo) tab0
    have epo : upd H1 po (.lst (odd9.map V.str)) po = some (.lst (odd9.map V.str)) := upd_same
    change gName 2 (.ref po) _ (upd H1 po (.lst (odd9.map V.str))) _
    generalize upd H1 po (.lst (odd9.map V.str)) = H2 at *
    clear S1 tab0 f1 hpo hPL hS
    walk_at "go"
    walk_at "fo"
    walk_at "go"
    refine ⟨_, rfl, by decide, by decide, ?_⟩
    refine for_range (lo := 0) (n := 6) (fun i σ H2 => ∃ v3 v4 v5 v6 v7 v8 v9 v10 v11 : Option V, σ = [some (.ref sc), some (.ref sa), some (.ref po), v3, v4, v5, v6, v7, v8, v9, v10, v11] ∧ StAt K ns H2 sa sc ∧ LamX.Tabs [(PL, lq)] H2 ∧ H2 po = some (.lst (odd9.map V.str))) ⟨_, _, _, _, _, _, _, _, _, rfl, S2, t2, epo⟩ ?_ ?_
    · clear S2 t2 epo n1 H2
      rintro i0 σ H2 hi ⟨v3, v4, v5, v6, v7, v8, v9, v10, v11, rfl, S2, t2, epo⟩
      walk_at "go"
      refine ⟨sa, sc, false, rfl, S2, fun p c H3 hc cok _ cnm cns S3 f3 => ?_⟩
      replace t2 := tabsSt S2 f3 t2
      replace epo := f3.at epo (by simpa using npo.symm)
      clear f3 S2
      walk_at "go"
      refine ⟨rfl, ?_⟩
      walk_at "go"
      refine ⟨p, c, rfl, hc, cok, cnm, cnm, cns, fun H4 q eq nq f4 => ?_⟩
      replace t2 := tabsFr0 f4 t2
      replace S3 := S3.fr f4 (by simp)
      replace hc := hc.fr f4
      replace epo := f4.at epo (by simp)
      have num := ok_num cok
      have good := ok_good cok cnm cns
      obtain ⟨tl1, tl2⟩ := text_len cok cnm cns
      walk_at "go"
      refine ⟨" ", q, c.words, rfl, rfl, .inl (SqL.of eq), ?_, ?_⟩
      · have := join_len (words_ne c)
        have e1 : (Txt.join " " c.words).length ≤ 20000 := tl1
        rw [show (" " : Str).length = 1 from by decide, Nat.mul_one]
        omega
      rw [show Txt.join " " c.words = c.text from rfl]
      clear nq f4 eq
      walk_at "go"
      refine ⟨p, c, rfl, hc, cok, cnm, cns, fun H5 f5 => ?_⟩
      replace t2 := tabsFr0 f5 t2
      replace S3 := S3.fr f5 (by simp)
      replace hc := hc.fr f5
      replace epo := f5.at epo (by simp)
      walk_at "go"
      refine ⟨_, _, rfl, Sm.str _, fun H6 f6 => ?_⟩
      replace t2 := tabsFr0 f6 t2
      replace S3 := S3.fr f6 (by simp)
      replace hc := hc.fr f6
      replace epo := f6.at epo (by simp)
      clear f5 f6
      walk_at "go"
      have pn : placeW (spT c.text) = none := by rw [spT_text]; exact place_words num
      refine ⟨c.text, rfl, by omega, fun i hi => absurd (pn.symm.trans hi) (by simp), fun c' _ hc' hn' => ?_⟩
      obtain rfl : c = c' := words_inj num hn' (by rw [hc', spT_text])
      refine ⟨fun _ H7 p' hc7 f7 => ?_, fun ng => absurd good ng⟩
      replace t2 := tabsFr0 f7 t2
      replace S3 := S3.fr f7 (by simp)
      replace hc := hc.fr f7
      replace epo := f7.at epo (by simp)
      walk_at "go"
      refine ⟨_, _, rfl, (sm_ch 4 cnm good.1 (by omega) hc7 hc).le (by decide), fun H8 f8 => ?_⟩
      replace t2 := tabsFr0 f8 t2
      replace S3 := S3.fr f8 (by simp)
      replace epo := f8.at epo (by simp)
      have tx0 : TxI 0 c.text := ⟨okS_text num, by omega, by omega⟩
      clear f7 f8 hc hc7 pn
      walk_at "go"
      walk_at "fo"
      refine rd_rng1 ?_
      walk_at "go"
      refine ⟨sa, sc, 3, rfl, S3, by decide, by decide, fun m H9 m0 m1 S4 f9 => ?_⟩
      replace t2 := tabsSt S3 f9 t2
      replace epo := f9.at epo (by simpa using npo.symm)
      clear S3 f9
      walk_at "go"
      obtain ⟨mn, rfl⟩ : ∃ mn : Nat, m = (mn : Nat) := ⟨m.toNat, by omega⟩
      refine ⟨_, rfl, by omega, by omega, ?_⟩
      rw [Int.toNat_natCast]
      refine for_range (lo := 0) (n := mn) (fun i σ H2 => ∃ (x : Str) (v6 : Option V), σ = [some (.ref sc), some (.ref sa), some (.ref po), some (.int (0 + (i0 : Nat))), some (.ref p), some (.str x), v6, v7, v8, v9, v10, v11] ∧ TxI i x ∧ StAt K ns H2 sa sc ∧ LamX.Tabs [(PL, lq)] H2 ∧ H2 po = some (.lst (odd9.map V.str))) ⟨_, _, rfl, tx0, S4, t2, epo⟩ ?_ ?_
      · clear S4 t2 epo tx0
        rintro i1 σ H10 hi1 ⟨x, v6, rfl, tx, S4, t2, epo⟩
        have txo := tx.ok (by omega)
        walk_at "go"
        refine ⟨sa, sc, x, rfl, S4, tx.1, txo.2.1, fun y H11 hch S5 f11 => ?_⟩
        walk_at "go"
        exact ⟨y, _, rfl, tx.step hch, S5, tabsSt S4 f11 t2, f11.at epo (by simpa using npo.symm)⟩
      · clear S4 t2 epo tx0
        rintro σ H10 ⟨x, v6, rfl, tx, S4, t2, epo⟩
        have txo := tx.ok (by omega)
        walk_at "go"
        walk_at "fo"
        walk_at "go"
        refine ⟨sa, sc, 9, rfl, S4, by decide, by decide, fun r H11 r0 r1 S5 f11 => ?_⟩
        replace t2 := tabsSt S4 f11 t2
        replace epo := f11.at epo (by simpa using npo.symm)
        clear S4 f11
        obtain ⟨yv, hyv, eyv⟩ := at_in (xs := odd9.map V.str) (i := r) r0 (by rw [List.length_map]; exact r1)
        obtain ⟨y, hy, rfl⟩ := List.mem_map.mp hyv
        have tyo := odd9_ok y hy
        refine rd_ixL (SqL.of epo) eyv ?_
        walk_at "go"
        refine ⟨by show 2 ≤ sizeLine; decide, fun lp hlp => ?_⟩
        have fl : Fr [] H11 (upd H11 lp (.lst [.str x, .str y])) := Fr.new hlp
        replace t2 := tabsFr0 fl t2
        replace S5 := S5.fr fl (by simp)
        replace epo := fl.at epo (by simp)
        have elp : upd H11 lp (.lst [.str x, .str y]) lp = some (.lst [.str x, .str y]) := upd_same
        generalize upd H11 lp (.lst [.str x, .str y]) = H12 at *
        clear fl hlp eyv hyv r0 r1 r tx hy
        refine ⟨lp, rfl, ⟨_, SqL.of elp⟩, ?_⟩
        refine for_it (walk_list (K := K) (a := lp) (xs := [.str x, .str y])) (fun i σ H' => ∃ v7 v8 v9 v10 v11 : Option V, σ = [some (.ref sc), some (.ref sa), some (.ref po), some (.int (0 + (i0 : Nat))), some (.ref p), some (.str x), v6, v7, v8, v9, v10, v11] ∧ StAt K ns H' sa sc ∧ LamX.Tabs [(PL, lq)] H' ∧ H' po = some (.lst (odd9.map V.str)) ∧ H' lp = some (.lst [.str x, .str y])) ⟨_, _, _, _, _, rfl, S5, t2, epo, elp⟩ (fun i σ H' _ ⟨_, _, _, _, _, _, _, _, _, e⟩ => SqL.of e) ?_ ?_
        · clear S5 t2 epo elp
          rintro i2 z σ H13 H14 hi2 ⟨v7, v8, v9, v10, v11, rfl, S5, t2, epo, elp⟩ ⟨rfl, hz⟩
          obtain ⟨u, rfl, tu⟩ : ∃ u : Str, z = .str u ∧ TxOk u := by
            match i2, hz with
            | 0, hz => cases hz; exact ⟨x, rfl, txo⟩
            | 1, hz => cases hz; exact ⟨y, rfl, tyo⟩
            | i2 + 2, hz => cases hz
          clear hz hi2
          walk_at "go"
          refine ⟨fun σ' H' => ∃ lw : Addr, σ' = [some (.ref sc), some (.ref sa), some (.ref po), some (.int (0 + (i0 : Nat))), some (.ref p), some (.str x), v6, some (.str u), some (.ref lw), v9, v10, v11] ∧ H' lw = some (.lst ((wds u).map V.str)) ∧ Fr [] H14 H', ?_, ?_⟩
          · walk_at "go"
            by_cases ue : u = ""
            · rw [show (!decide (V.str u = V.str (Str.ofString ""))) = false by rw [ue]; decide +kernel]
              refine iteF ?_
              walk_at "go"
              refine ⟨Nat.zero_le _, fun lw hlw => ?_⟩
              walk_at "go"
              exact ⟨lw, rfl, by rw [upd_same]; unfold wds; rw [if_pos ue]; rfl, Fr.new hlw⟩
            · rw [show (!decide (V.str u = V.str (Str.ofString ""))) = true by rw [decide_eq_false fun q => ue (V.str.inj q)]; rfl]
              refine iteT ?_
              walk_at "go"
              refine ⟨rfl, ?_⟩
              walk_at "go"
              refine ⟨u, " ", rfl, rfl, by decide, Nat.le_trans (show u.length + 2 ≤ 100002 by have := tu.2.1; omega) (by decide), fun lw hlw => ?_⟩
              walk_at "go"
              exact ⟨lw, rfl, by rw [upd_same]; unfold wds; rw [if_neg ue]; rfl, Fr.new hlw⟩
          rintro σ' H15 ⟨lw, rfl, elw, f15⟩
          replace t2 := tabsFr0 f15 t2
          replace S5 := S5.fr f15 (by simp)
          replace epo := f15.at epo (by simp)
          replace elp := f15.at elp (by simp)
          clear f15
          walk_at "go"
          refine ⟨lw, _, rfl, elw, szT_wds tu, fun H16 f16 => ?_⟩
          replace t2 := tabsFr0 f16 t2
          replace S5 := S5.fr f16 (by simp)
          replace epo := f16.at epo (by simp)
          replace elp := f16.at elp (by simp)
          replace elw := f16.at elw (by simp)
          rw [place_wds]
          clear f16
          walk_at "go"
          refine ⟨t2, fun H17 e17 t17 => ?_⟩
          replace S5 := S5.ex e17
          replace epo := exLs e17 epo
          replace elp := exLs e17 elp
          replace elw := exLs e17 elw
          clear t2 e17
          unfold TTk
          walk_at "go"
          refine read_kind R tu.2.1 fun v H18 hv f18 => ?_
          replace t17 := tabsFr0 f18 t17
          replace S5 := S5.fr f18 (by simp)
          replace epo := f18.at epo (by simp)
          replace elp := f18.at elp (by simp)
          replace elw := f18.at elw (by simp)
          clear f18
          walk_at "go"
          refine ⟨rfl, _, rfl, ?_⟩
          rcases hv with ⟨i, t, hp, rfl, et⟩ | ⟨cu, hp, hcw, hcn, hv⟩
          · rw [hp]
            rw [show (!decide (plV (some i) = V.non)) = true by rw [decide_eq_false (show ¬ plV (some i) = V.non from fun z => by cases z)]; rfl]
            refine iteT ?_
            walk_at "go"
            refine ⟨by show 2 ≤ sizeLine; decide, fun tb htb => ?_⟩
            have ft : Fr [] H18 (upd H18 tb (.tup [.str "BadText", plV (some i)])) := Fr.new htb
            refine ⟨_, _, rfl, sm_bt (n := 11) (ft.tp et) upd_same, fun H19 f19 => ?_⟩
            replace f19 := ft.tr f19
            walk_at "go"
            exact ⟨_, _, _, _, _, rfl, S5.fr f19 (by simp), tabsFr0 f19 t17, f19.at epo (by simp), f19.at elp (by simp)⟩
          · rw [hp]
            rw [show (!decide (plV none = V.non)) = false by rw [decide_eq_true (show plV none = V.non from rfl)]; rfl]
            refine iteF ?_
            walk_at "go"
            have hw : wds u = cu.words := by rw [wds_none (by rw [place_wds]; exact hp), hcw]
            have wl : cu.words.length ≤ 448 := by rw [hcw, spT_len]; have := tu.2.2; omega
            have nml : cu.nm ≤ 112 := by have := words_nm cu; omega
            have nsl : cu.ns ≤ 448 := by have := words_ns cu; omega
            refine ⟨lw, 0, wds u, [], cu, rfl, elw, (szT_wds tu).1, by rw [List.drop_zero, List.append_nil, hw], hcn, by omega, fun q a H19 eq ha f19 => ?_⟩
            replace S5 := S5.fr f19 (by simp)
            replace epo := f19.at epo (by simp)
            replace elp := f19.at elp (by simp)
            replace t17 := tabsFr0 f19 t17
            walk_at "go"
            refine ⟨a, cu, rfl, ha, by omega, by omega, fun b H20 hb f20 => ?_⟩
            replace S5 := S5.fr f20 (by simp)
            replace epo := f20.at epo (by simp)
            replace elp := f20.at elp (by simp)
            replace t17 := tabsFr0 f20 t17
            refine ⟨b, rfl, ?_⟩
            rcases hv with ⟨hg, pv, rfl, hpv⟩ | ⟨hng, rfl⟩
            · obtain rfl : b = true := hb.mpr hg
              refine iteT ?_
              walk_at "go"
              refine ⟨_, _, rfl, (sm_ch 4 hg.2.2.1 hg.1 (by omega) ((hpv.fr f19).fr f20) (ha.fr f20)).le (by decide), fun H21 f21 => ?_⟩
              walk_at "go"
              exact ⟨_, _, _, _, _, rfl, S5.fr f21 (by simp), tabsFr0 f21 t17, f21.at epo (by simp), f21.at elp (by simp)⟩
            · obtain rfl : b = false := by
                cases b with
                | true => exact absurd (hb.mp rfl) hng
                | false => rfl
              refine iteF ?_
              walk_at "go"
              refine ⟨_, _, rfl, Sm.str _, fun H21 f21 => ?_⟩
              walk_at "go"
              exact ⟨_, _, _, _, _, rfl, S5.fr f21 (by simp), tabsFr0 f21 t17, f21.at epo (by simp), f21.at elp (by simp)⟩
        · rintro σ H13 ⟨v7, v8, v9, v10, v11, rfl, S5, t2, epo, elp⟩
          exact ⟨_, _, _, _, _, _, _, _, _, rfl, S5, t2, epo⟩
    · rintro σ H2 ⟨v3, v4, v5, v6, v7, v8, v9, v10, v11, rfl, S2, t2, epo⟩
      dsimp only
      walk_at "go"
      exact k _
end
end Dc

set_option Elab.async false
set_option linter.all false
set_option maxRecDepth 100000
set_option maxHeartbeats 2000000
namespace Dc
open PySem PySem.Spec PyProof.Rows L2
/-- a def of the module -/
def FnM (K : PySem.W.Frag) (mg : Str → Option Value) (x : Str) (s : Stmt) : Prop := ∃ f fd, FnP K x x s f fd ∧ mg x = some (.ref f)
end Dc

set_option Elab.async false
set_option linter.all false
set_option maxRecDepth 100000
set_option maxHeartbeats 2000000
namespace Dc
open PySem PySem.Spec PyProof.Rows L2
/-- the law's own drawing of numbers -/
structure StartL (K : PySem.W.Frag) (mg : Str → Option Value) : Prop where
  start : FnM K mg "_law_start" s__law_start
  drawn : FnM K mg "_law_drawn" s__law_drawn
section
variable {P : Program} {w : World} {K : PySem.W.Frag} {mg : Str → Option Value} {base : Heap}
theorem l_drawn (T : Txt K mg) (L : StartL K mg) {ns : List Int} (hl : ns.length ≤ 63) : Cal P w K mg base CX0 1 "_law_drawn" ["_law_state", "_law_many"] (spDrawn K ns) := by
  obtain ⟨f, fd, F, g⟩ := L.drawn
  exact cal_of F g (ok_law_drawn T F hl) fun _ _ _ _ _ _ us hl => match us, hl with | [_, _], _ => rfl
theorem l_start (T : Txt K mg) (L : StartL K mg) {ns : List Int} : Cal P w K mg base CX0 1 "_law_start" ["_law_script"] (spStart K ns) := by
  obtain ⟨f, fd, F, g⟩ := L.start
  exact cal_of F g (ok_law_start T F) fun _ _ _ _ _ _ us hl => match us, hl with | [_], _ => rfl
end
end Dc

set_option Elab.async false
set_option linter.all false
set_option maxRecDepth 100000
set_option maxHeartbeats 2000000
namespace Dc
open PySem PySem.Spec PyProof.Rows L2
/-- the law's own defs: chains are drawn -/
structure ChainsL (K : PySem.W.Frag) (mg : Str → Option Value) : Prop where
  number : FnM K mg "_law_number" s__law_number
  maker : FnM K mg "_law_maker" s__law_maker
  stage : FnM K mg "_law_stage" s__law_stage
  chain : FnM K mg "_law_chain" s__law_chain
  any : FnM K mg "_law_any" s__law_any
section
variable {P : Program} {w : World} {K : PySem.W.Frag} {mg : Str → Option Value} {base : Heap}
theorem l_number (T : Txt K mg) (S : StartL K mg) (L : ChainsL K mg) {ns : List Int} (hl : ns.length ≤ 63) : Cal P w K mg base CX0 2 "_law_number" ["_law_state"] (spNumber K ns) := by
  obtain ⟨f, fd, F, g⟩ := L.number
  exact cal_of F g (ok_law_number T F (l_drawn T S hl)) fun _ _ _ _ _ _ us hl => match us, hl with | [_], _ => rfl
theorem l_any (T : Txt K mg) (S : StartL K mg) (L : ChainsL K mg) {ns : List Int} (hl : ns.length ≤ 63) : Cal P w K mg base CX0 11 "_law_any" ["_law_state", "_law_rows"] (spAny K ns) := by
  have Gd := l_drawn (P := P) (w := w) (base := base) T S hl
  have Gn := l_number (P := P) (w := w) (base := base) T S L hl
  obtain ⟨fM, dM, FM, gM⟩ := L.maker
  have GM : Cal P w K mg base CX0 3 "_law_maker" ["_law_state", "_law_rows"] (spMaker K ns) := cal_of FM gM (ok_law_maker T FM Gd Gn) fun _ _ _ _ _ _ us hl => match us, hl with | [_, _], _ => rfl
  obtain ⟨fC, dC, FC, gC⟩ := L.chain
  obtain ⟨fS, dS, FS, gS⟩ := L.stage
  obtain ⟨fA, dA, FA, gA⟩ := L.any
  exact cal_of FA gA (ok_law_any T FA Gd (cal_law_chain T FC FS gC gS Gd Gn GM 4)) fun _ _ _ _ _ _ us hl => match us, hl with | [_, _], _ => rfl
end
end Dc

set_option Elab.async false
set_option linter.all false
set_option maxRecDepth 100000
set_option maxHeartbeats 2000000
namespace Dc
open PySem PySem.Spec PyProof.Rows L2
/-- the program's defs -/
structure ProgK (K : PySem.W.Frag) (mg : Str → Option Value) : Prop where
  check_chain : FnM K mg "check_chain" s_check_chain
  is_chain : FnM K mg "is_chain" s_is_chain
  is_pair : FnM K mg "is_pair" s_is_pair
  is_maker : FnM K mg "is_maker" s_is_maker
  is_row : FnM K mg "is_row" s_is_row
  is_stage : FnM K mg "is_stage" s_is_stage
  has_chain : FnM K mg "has_chain" s_has_chain
  is_within : FnM K mg "is_within" s_is_within
  is_number : FnM K mg "is_number" s_is_number
  written : FnM K mg "written" s_written
  words_of : FnM K mg "words_of" s_words_of
  words_of_maker : FnM K mg "words_of_maker" s_words_of_maker
  words_of_numbers : FnM K mg "words_of_numbers" s_words_of_numbers
  read_chain : FnM K mg "read_chain" s_read_chain
  chain_of : FnM K mg "chain_of" s_chain_of
  is_number_word : FnM K mg "is_number_word" s_is_number_word
/-- a method -/
def MTk (K : PySem.W.Frag) (C : Addr) (m qual : Str) (s : Stmt) : Prop := ∃ f fd, FnP K m qual s f fd ∧ Meth K C m f
def IniK (K : PySem.W.Frag) (mg : Str → Option Value) (x : Str) (C : Addr) (qual : Str) (s : Stmt) : Prop := ∃ f fd, FnP K "__init__" qual s f fd ∧ Mk K C f ∧ mg x = some (.ref C)
structure WordsK (K : PySem.W.Frag) (mg : Str → Option Value) (wc : Addr) : Prop where
  f : WdF K wc
  init : IniK K mg "Words" wc "Words.__init__" s_Words___init__
  take : MTk K wc "take" "Words.take" s_Words_take
  take_maker : MTk K wc "take_maker" "Words.take_maker" s_Words_take_maker
  take_row : MTk K wc "take_row" "Words.take_row" s_Words_take_row
  take_numbers : MTk K wc "take_numbers" "Words.take_numbers" s_Words_take_numbers
  number_of : MTk K wc "number_of" "Words.number_of" s_Words_number_of
  check_end : MTk K wc "check_end" "Words.check_end" s_Words_check_end
structure BegunK (K : PySem.W.Frag) (mg : Str → Option Value) (gc : Addr) : Prop where
  f : BgF K gc
  init : IniK K mg "Begun" gc "Begun.__init__" s_Begun___init__
  chain : MTk K gc "chain" "Begun.chain" s_Begun_chain
/-- BadText, made by its own __init__ -/
structure TextK (P : Program) (K : PySem.W.Frag) (mg : Str → Option Value) (bt : Addr) : Prop where
  ex : ∃ f fd, BtF K mg bt f ∧ SupTxtX P K mg "__init__" "BadText.__init__" (defArgs s_BadText___init__) (defBody s_BadText___init__) (defScope s_BadText___init__) bt f fd
/-- the law's other defs -/
structure LawK (K : PySem.W.Frag) (mg : Str → Option Value) : Prop where
  words : FnM K mg "_law_words" s__law_words
  place : FnM K mg "_law_place" s__law_place
  parsed : FnM K mg "_law_parsed" s__law_parsed
  stages : FnM K mg "_law_stages" s__law_stages
  makers : FnM K mg "_law_makers" s__law_makers
  is_good : FnM K mg "_law_is_good" s__law_is_good
  changed : FnM K mg "_law_changed" s__law_changed
  same : FnM K mg "_law_same" s__law_same
  kind : FnM K mg "_law_kind" s__law_kind
section
variable {P : Program} {w : World} {K : PySem.W.Frag} {mg : Str → Option Value} {base : Heap}
theorem calk_of {CX : CXT} {k : Nat} {C : Addr} {m qual : Str} {st : Stmt} {ps : List Str} {sp : Sp} (R : MTk K C m qual st) (c : Cls K C) (ok : ∀ f fd, FnP K m qual st f fd → FnOk P w K mg base CX k f fd ps sp)
    (h : ∀ (kV doc pm : Value) (an : Option Addr) (cdv ct : Value) (us : List Value), us.length = ps.length → bindArgs (PySem.W.fnOf m qual (defArgs st) (defBody st) (defScope st) .none kV doc pm an cdv ct) ⟨us, []⟩ = pure (ps.zip us)) :
    CalM P w K mg base CX k C m ps sp := by
  obtain ⟨f, fd, F, M⟩ := R
  exact ⟨f, fd, ok f fd F, F.bindsN h, M, c⟩
theorem calj_of {k : Nat} {x : Str} {C : Addr} {qual : Str} {st : Stmt} {ps : List Str} {sp : Sp} (R : IniK K mg x C qual st) (ok : ∀ f fd, FnP K "__init__" qual st f fd → FnOk P w K mg base CX0 k f fd ps sp)
    (h : ∀ (kV doc pm : Value) (an : Option Addr) (cdv ct : Value) (us : List Value), us.length = ps.length → bindArgs (PySem.W.fnOf "__init__" qual (defArgs st) (defBody st) (defScope st) .none kV doc pm an cdv ct) ⟨us, []⟩ = pure (ps.zip us)) :
    CalI P w K mg base CX0 k x C ps sp := by
  obtain ⟨f, fd, F, M, g⟩ := R
  exact ⟨f, fd, ok f fd F, F.bindsN h, M, g⟩
theorem btc_of {bt : Addr} (R : TextK P K mg bt) : BtC P w K mg base bt := by
  obtain ⟨f, fd, B, S⟩ := R.ex
  have S' := S
  obtain ⟨oc, od, kV, doc, pm, an, cda, cc, ct, osl, ccl, cdd, ws, ccs, file, tf, cl, cld, csl, cdD, e, _⟩ := S'.ex
  exact ⟨f, fd, B, ok_BadText B S, by rw [e]; exact .all fun us hl => match us, hl with | [_, _], _ => rfl⟩
theorem checks (T : Txt K mg) (R : ProgK K mg) : Cal P w K mg base CX0 5 "check_chain" ["chain"] spCheck := by
  obtain ⟨f1, d1, F1, g1⟩ := R.is_number
  obtain ⟨f2, d2, F2, g2⟩ := R.is_within
  obtain ⟨f3, d3, F3, g3⟩ := R.is_row
  obtain ⟨f4, d4, F4, g4⟩ := R.is_maker
  obtain ⟨f5, d5, F5, g5⟩ := R.is_stage
  obtain ⟨f6, d6, F6, g6⟩ := R.has_chain
  obtain ⟨f7, d7, F7, g7⟩ := R.is_pair
  obtain ⟨f8, d8, F8, g8⟩ := R.is_chain
  obtain ⟨f9, d9, F9, g9⟩ := R.check_chain
  have G1 : Cal P w K mg base CX0 1 "is_number" ["number"] spIsNumber := cal_of F1 g1 (ok_is_number T F1) fun _ _ _ _ _ _ us hl => match us, hl with | [_], _ => rfl
  have G2 : Cal P w K mg base CX0 2 "is_within" ["number", "low", "high"] spIsWithin := cal_of F2 g2 (ok_is_within T F2 G1) fun _ _ _ _ _ _ us hl => match us, hl with | [_, _, _], _ => rfl
  have G3 : Cal P w K mg base CX0 2 "is_row" ["numbers"] spIsRow := cal_of F3 g3 (ok_is_row T F3 G1) fun _ _ _ _ _ _ us hl => match us, hl with | [_], _ => rfl
  have G4 : Cal P w K mg base CX0 3 "is_maker" ["maker"] spIsMaker := cal_of F4 g4 (ok_is_maker T F4 G1 G3) fun _ _ _ _ _ _ us hl => match us, hl with | [_], _ => rfl
  have G5 : Cal P w K mg base CX0 3 "is_stage" ["stage"] spIsStage := cal_of F5 g5 (ok_is_stage T F5 G1 G2) fun _ _ _ _ _ _ us hl => match us, hl with | [_], _ => rfl
  have G6 : Cal P w K mg base CX0 1 "has_chain" ["stage"] spHasChain := cal_of F6 g6 (ok_has_chain T F6) fun _ _ _ _ _ _ us hl => match us, hl with | [_], _ => rfl
  have G7 : Cal P w K mg base CX0 1 "is_pair" ["part"] spIsPair := cal_of F7 g7 (ok_is_pair T F7) fun _ _ _ _ _ _ us hl => match us, hl with | [_], _ => rfl
  have G8 : Cal P w K mg base CX0 4 "is_chain" ["chain"] spIsChain := cal_of F8 g8 (ok_is_chain T F8 G7 G4 G5 G6) fun _ _ _ _ _ _ us hl => match us, hl with | [_], _ => rfl
  exact cal_of F9 g9 (ok_check_chain T F9 G8) fun _ _ _ _ _ _ us hl => match us, hl with | [_], _ => rfl
theorem wordss (T : Txt K mg) (R : ProgK K mg) : ∀ n, n ≤ 1001 → Cal P w K mg base CX0 (n + 2) "words_of" ["chain"] (spWO n)
  | 0, _ => by
    obtain ⟨f, fd, F, g⟩ := R.words_of
    have void : ∀ {vs : List V} {H : Hp} {Q : VK} {E : XK}, spWO 0 vs H Q E → False := by
      rintro vs H Q E ⟨p, c, _, _, _, h, _⟩
      have := c.nm_pos
      omega
    exact cal_of F g (ok0 F sc_words_of (fun vs H Q E h => (void h).elim) fun cdv A outer s H vs Q E hr h => (void h).elim) fun _ _ _ _ _ _ us hl => match us, hl with | [_], _ => rfl
  | n + 1, h => by
    obtain ⟨f, fd, F, g⟩ := R.words_of
    obtain ⟨f1, d1, F1, g1⟩ := R.has_chain
    obtain ⟨f2, d2, F2, g2⟩ := R.words_of_numbers
    obtain ⟨f3, d3, F3, g3⟩ := R.words_of_maker
    have G1 : Cal P w K mg base CX0 1 "has_chain" ["stage"] spHasChain := cal_of F1 g1 (ok_has_chain T F1) fun _ _ _ _ _ _ us hl => match us, hl with | [_], _ => rfl
    have G2 : Cal P w K mg base CX0 1 "words_of_numbers" ["numbers"] spWN := cal_of F2 g2 (ok_words_of_numbers T F2) fun _ _ _ _ _ _ us hl => match us, hl with | [_], _ => rfl
    have G3 : Cal P w K mg base CX0 2 "words_of_maker" ["maker"] spWM := cal_of F3 g3 (ok_words_of_maker T F3 G2) fun _ _ _ _ _ _ us hl => match us, hl with | [_], _ => rfl
    exact cal_of F g (ok_words_of (by omega) T F G1 G3 G2 (wordss T R n (by omega))) fun _ _ _ _ _ _ us hl => match us, hl with | [_], _ => rfl
theorem writtens (T : Txt K mg) (R : ProgK K mg) : Cal P w K mg base CX0 8 "written" ["chain"] spWritten := by
  obtain ⟨f, fd, F, g⟩ := R.written
  exact cal_of F g (ok_written T F (checks T R) ((wordss T R 4 (by decide)).mono (by decide))) fun _ _ _ _ _ _ us hl => match us, hl with | [_], _ => rfl
theorem checksC {bc : Addr} (T : Txt K mg) (R : ProgK K mg) (L : NwF9 K mg "BadChain" bc) : Cal P w K mg base (L2.CX P w) 5 "check_chain" ["chain"] (spCheckC bc) := by
  obtain ⟨f1, d1, F1, g1⟩ := R.is_number
  obtain ⟨f2, d2, F2, g2⟩ := R.is_within
  obtain ⟨f3, d3, F3, g3⟩ := R.is_row
  obtain ⟨f4, d4, F4, g4⟩ := R.is_maker
  obtain ⟨f5, d5, F5, g5⟩ := R.is_stage
  obtain ⟨f6, d6, F6, g6⟩ := R.has_chain
  obtain ⟨f7, d7, F7, g7⟩ := R.is_pair
  obtain ⟨f8, d8, F8, g8⟩ := R.is_chain
  obtain ⟨f9, d9, F9, g9⟩ := R.check_chain
  have G1 : Cal P w K mg base CX0 1 "is_number" ["number"] spNumV := cal_of F1 g1 (okv_is_number T F1) fun _ _ _ _ _ _ us hl => match us, hl with | [_], _ => rfl
  have G2 : Cal P w K mg base CX0 2 "is_within" ["number", "low", "high"] spWithinV := cal_of F2 g2 (okv_is_within T F2 G1) fun _ _ _ _ _ _ us hl => match us, hl with | [_, _, _], _ => rfl
  have G3 : Cal P w K mg base CX0 2 "is_row" ["numbers"] spRowV := cal_of F3 g3 (okv_is_row T F3 G1) fun _ _ _ _ _ _ us hl => match us, hl with | [_], _ => rfl
  have G4 : Cal P w K mg base CX0 3 "is_maker" ["maker"] spMakerV := cal_of F4 g4 (okv_is_maker T F4 G1 G3) fun _ _ _ _ _ _ us hl => match us, hl with | [_], _ => rfl
  have G5 : Cal P w K mg base CX0 3 "is_stage" ["stage"] spStageH := cal_of F5 g5 (okz_is_stage T F5 G1 G2) fun _ _ _ _ _ _ us hl => match us, hl with | [_], _ => rfl
  have G6 : Cal P w K mg base CX0 1 "has_chain" ["stage"] spHasV := cal_of F6 g6 (okv_has_chain T F6) fun _ _ _ _ _ _ us hl => match us, hl with | [_], _ => rfl
  have G7 : Cal P w K mg base CX0 1 "is_pair" ["part"] spPairV := cal_of F7 g7 (okv_is_pair T F7) fun _ _ _ _ _ _ us hl => match us, hl with | [_], _ => rfl
  have G8 : Cal P w K mg base CX0 4 "is_chain" ["chain"] (spIsChainZ IsCh) := cal_of F8 g8 (okz_is_chain hold_ch T F8 G7 G4 G5 G6) fun _ _ _ _ _ _ us hl => match us, hl with | [_], _ => rfl
  exact cal_of F9 g9 (okc_check_chain T L F9 G8) fun _ _ _ _ _ _ us hl => match us, hl with | [_], _ => rfl
theorem reads {bc bt wc gc : Addr} (T : Txt K mg) (R : ProgK K mg) (L : NwF9 K mg "BadChain" bc) (BT : BtC P w K mg base bt) (W : WordsK K mg wc) (B : BegunK K mg gc) (N : DicF K w mg) : Cal P w K mg base (L2.CX P w) 7 "read_chain" ["text"] (spRead bt bc) := by
  obtain ⟨f1, d1, F1, g1⟩ := R.is_number_word
  obtain ⟨f2, d2, F2, g2⟩ := R.chain_of
  obtain ⟨f3, d3, F3, g3⟩ := R.read_chain
  have c := W.f.c
  have I : CalI P w K mg base CX0 1 "Words" wc ["self", "text"] (spWords wc) := calj_of W.init (fun f fd F => ok_Words___init__ T W.f F) fun _ _ _ _ _ _ us hl => match us, hl with | [_, _], _ => rfl
  have G1 : Cal P w K mg base CX0 1 "is_number_word" ["word"] spIsNum := cal_of F1 g1 (ok_is_number_word T F1) fun _ _ _ _ _ _ us hl => match us, hl with | [_], _ => rfl
  have Gt : CalM P w K mg base CX0 1 wc "take" ["self"] (spTake wc) := calk_of W.take c (fun f fd F => ok_Words_take T W.f F) fun _ _ _ _ _ _ us hl => match us, hl with | [_], _ => rfl
  have Gn : CalM P w K mg base (L2.CX P w) 3 wc "number_of" ["self", "word"] (spNumOf wc bt) := calk_of W.number_of c (fun f fd F => ok_Words_number_of T W.f BT F G1) fun _ _ _ _ _ _ us hl => match us, hl with | [_, _], _ => rfl
  have Ge : CalM P w K mg base (L2.CX P w) 3 wc "check_end" ["self"] (spEnd wc bt) := calk_of W.check_end c (fun f fd F => ok_Words_check_end T W.f BT F) fun _ _ _ _ _ _ us hl => match us, hl with | [_], _ => rfl
  have Gs : CalM P w K mg base (L2.CX P w) 4 wc "take_numbers" ["self", "many"] (spNums wc bt) := calk_of W.take_numbers c (fun f fd F => ok_Words_take_numbers T W.f F Gt Gn) fun _ _ _ _ _ _ us hl => match us, hl with | [_, _], _ => rfl
  have Gr : CalM P w K mg base (L2.CX P w) 4 wc "take_row" ["self"] (spRow wc bt) := calk_of W.take_row c (fun f fd F => ok_Words_take_row T W.f F Gt Gn) fun _ _ _ _ _ _ us hl => match us, hl with | [_], _ => rfl
  have Gm : CalM P w K mg base (L2.CX P w) 5 wc "take_maker" ["self"] (spMk wc bt) := calk_of W.take_maker c (fun f fd F => ok_Words_take_maker T W.f BT F Gt Gs Gr) fun _ _ _ _ _ _ us hl => match us, hl with | [_], _ => rfl
  have Ib : CalI P w K mg base CX0 1 "Begun" gc ["self", "word", "maker"] (spBegun gc) := calj_of B.init (fun f fd F => ok_Begun___init__ T B.f F) fun _ _ _ _ _ _ us hl => match us, hl with | [_, _, _], _ => rfl
  have Gc : CalM P w K mg base CX0 1 gc "chain" ["self"] (spBgChain gc) := calk_of B.chain B.f.c (fun f fd F => ok_Begun_chain T B.f F) fun _ _ _ _ _ _ us hl => match us, hl with | [_], _ => rfl
  have G2 : Cal P w K mg base (L2.CX P w) 6 "chain_of" ["words"] (spChainOf wc bt) := cal_of F2 g2 (ok_chain_of T W.f B.f BT N F2 Gt Gs Gm Ge Ib Gc) fun _ _ _ _ _ _ us hl => match us, hl with | [_], _ => rfl
  exact cal_of F3 g3 (ok_read_chain T F3 I G2 (checksC T R L)) fun _ _ _ _ _ _ us hl => match us, hl with | [_], _ => rfl
theorem law_fn {J : KJ} {wc gc : Addr} (T : Txt K mg) (R : ProgK K mg) (L : NwF9 K mg "BadChain" J.bc) (X : TextK P K mg J.bt) (W : WordsK K mg wc) (B : BegunK K mg gc) (N : DicF K w mg) (S : StartL K mg) (C : ChainsL K mg) (M : LawK K mg) (BK : KB mg J) (hK : KRd K J) {f : Addr} {fd : FuncData} {c PL : Addr} (F : FnP K "law" "law" s_law f fd) (hcode : fd.code = .ref c) (TB : LamX.TabB base mg c PL)
    {ns : List Int} (hl : ns.length ≤ 63) : FnOk P w K mg base CX0 210 f fd ["_law_script"] (spLawT K PL ns) := by
  obtain ⟨f1, d1, F1, g1⟩ := M.words
  obtain ⟨f2, d2, F2, g2⟩ := M.place
  obtain ⟨f3, d3, F3, g3⟩ := M.parsed
  obtain ⟨f4, d4, F4, g4⟩ := M.stages
  obtain ⟨f5, d5, F5, g5⟩ := M.makers
  obtain ⟨f6, d6, F6, g6⟩ := M.is_good
  obtain ⟨f7, d7, F7, g7⟩ := M.changed
  obtain ⟨f8, d8, F8, g8⟩ := M.same
  have Gd := l_drawn (P := P) (w := w) (base := base) T S hl
  exact ok_law T BK hK F hcode TB M.kind (l_start T S) (l_any T S C hl) Gd (lawwords T F1 g1 4 (by decide)) (sames T F8 g8 12)
    (cal_of F7 g7 (ok_law_changed T F7 Gd) fun _ _ _ _ _ _ us hl => match us, hl with | [_, _], _ => rfl)
    (cal_of F2 g2 (ok_law_place T F2) fun _ _ _ _ _ _ us hl => match us, hl with | [_], _ => rfl)
    (lawparsed T F3 g3 150 (by decide))
    (cal_of F6 g6 (ok_law_is_good T F6 (lawstages T F4 g4 200 (by decide)) (lawmakers T F5 g5 200 (by decide))) fun _ _ _ _ _ _ us hl => match us, hl with | [_], _ => rfl)
    (writtens T R) (reads T R L (btc_of X) W B N)
end
end Dc

set_option Elab.async false
set_option linter.all false
set_option maxRecDepth 100000
set_option maxHeartbeats 4000000
namespace Dc
open PySem PySem.Spec PyProof.Rows L2
theorem kdSize_in {z : Str} {k : Nat} (h : kdSize z = some k) : (z, (k : Int)) ∈ numK := by
  unfold kdSize at h
  split at h
  · rename_i hw
    cases h
    rcases hw with rfl | rfl | rfl | rfl | rfl | rfl <;> decide +kernel
  · split at h
    · rename_i hw
      cases h
      subst hw
      decide +kernel
    · split at h
      · rename_i hw
        cases h
        subst hw
        decide +kernel
      · cases h
theorem kdSize_no {z : Str} (h : kdSize z = none) : z ∉ numK.map (·.1) := fun hz => by
  have : ∀ x ∈ numK.map (·.1), (kdSize x).isSome = true := by decide +kernel
  have := this z hz
  rw [h] at this
  cases this
theorem keys_no {P : Params} {z : Str} : ∀ {l : List DictEntry} {ks : List Str}, l.map He.keyOf = He.keysIn P ks → z ∉ ks → l.find? (·.key.isStr z) = none ∧ l.any (·.refKey) = false
  | [], _, _, _ => ⟨rfl, rfl⟩
  | e :: r, [], h, _ => by cases h
  | e :: r, k :: ks, h, hz => by
    have h1 : He.keyOf e :: r.map He.keyOf = some (k, PyData.keyHash P k) :: He.keysIn P ks := h
    injection h1 with h2 h3
    obtain ⟨i1, i2⟩ := keys_no h3 (fun q => hz (List.mem_cons_of_mem _ q))
    unfold He.keyOf at h2
    split at h2
    · rename_i x t q
      have hx : x = k := (Prod.mk.inj (Option.some.inj h2)).1
      have n1 : e.key.isStr z = false := by
        rw [q]
        show (x == z) = false
        exact beq_eq_false_iff_ne.mpr fun w => hz (by rw [← w, hx]; simp)
      refine ⟨?_, ?_⟩
      · rw [List.find?_cons, n1]; exact i1
      · rw [List.any_cons, i2, Bool.or_false]
        unfold DictEntry.refKey
        rw [q]
    · cases h2
theorem dicF_of {K : PySem.W.Frag} {w : World} {mg : Str → Option Value} {a : Addr} (g : mg "NUMBERS_OF" = some (.ref a)) (h : He.dicW K a = some (He.keysIn w.params (numK.map (·.1)))) (hv : numsB K a = true) : DicF K w mg := by
  obtain ⟨es, n, D⟩ := He.dicW_ok h
  refine ⟨a, es, n, g, D, fun z => ⟨fun k hk => numsB_ok hv (kdSize_in hk), fun hz => ?_⟩⟩
  have he : es.toList.map He.keyOf = He.keysIn w.params (numK.map (·.1)) := by
    unfold He.dicW at h
    rw [D.at_] at h
    simp only at h
    split at h
    · exact Option.some.inj h
    · cases h
  obtain ⟨i1, i2⟩ := keys_no he (kdSize_no hz)
  unfold PySem.W.nsIn
  rw [D.at_]
  simp only [i1, i2]
  rfl
end Dc

set_option Elab.async false
set_option linter.all false
set_option maxRecDepth 100000
set_option maxHeartbeats 2000000
namespace Dc
open PySem PySem.Spec PyProof.Rows L2
/-! a list that a def only reads may be held as it stands -/
theorem updF_none {H : Hp} {a b : Addr} {u u' : HO} (h : H a = some u) (n : H b = none) : upd H a u' b = none := by
  rw [upd_ne (fun z => by rw [z, h] at n; cases n)]
  exact n
theorem updF_ne {H : Hp} {a b : Addr} {u u' v : HO} (h : H a = some u) (n : H b = some v) (d : v ≠ u) : upd H a u' b = some v := by
  rw [upd_ne (fun z => by rw [z, h] at n; exact d (Option.some.inj n).symm)]
  exact n
theorem updF_back {H : Hp} {a b : Addr} {u' : HO} (n : upd H a u' b = none) : H b = none ∧ b ≠ a := by
  by_cases z : b = a
  · rw [z, upd_same] at n; cases n
  · rw [upd_ne z] at n; exact ⟨n, z⟩
def spFz (sp : Sp) : Sp := fun vs H Q E => sp vs H Q E ∨ ∃ a xs, H a = some (.lst xs) ∧ ∀ o, sp vs (upd H a (.frz o (.lst xs))) Q E
theorem fnFrz {P : Program} {w : World} {K : PySem.W.Frag} {mg : Str → Option Value} {base : Heap} {k : Nat} {f : Addr} {fd : FuncData} {ps : List Str} {sp : Sp} (F : FnOk P w K mg base CX0 k f fd ps sp) : FnOk P w K mg base CX0 k f fd ps (spFz sp) := by
  refine ⟨fun vs H Q E h => ?_, fun A outer s H args us vs Q E hr e0 hb rv h => ?_⟩
  · rcases h with h | ⟨a, xs, _, h⟩
    · exact F.len vs H Q E h
    · exact F.len vs _ Q E (h { cls := .none, data := .fields #[] })
  · rcases h with h | ⟨a, xs, ha, h⟩
    · exact F.run A outer s H args us vs Q E hr e0 hb rv h
    · obtain ⟨hz, its, n, r, ho⟩ := e0.hok a _ ha
      generalize hob : ({ cls := .type "list", data := .seq its.toArray n } : Obj) = ob at ho
      have hok : HOk P w (upd H a (.frz ob (.lst xs))) s.heap := fun b u hb2 => by
        have st : ∀ b u, H b = some u → ObjOk P w (upd H a (.frz ob (.lst xs))) s.heap b u := fun b u hu => (e0.hok b u hu).stay (fun _ _ _ z => z) (fun d z => updF_ne ha z (fun y => by cases y)) (fun d ys z => updF_ne ha z (fun y => by cases y))
        by_cases hb3 : b = a
        · rw [hb3, upd_same] at hb2
          cases hb2
          rw [hb3]
          exact ⟨ho, st a _ ha⟩
        · rw [upd_ne hb3] at hb2
          exact st b u hb2
      have e1 : Env0 P w K mg base A outer s (upd H a (.frz ob (.lst xs))) := ⟨e0.frames, e0.mod, fun b o q => ⟨(e0.bs b o q).1, updF_none ha (e0.bs b o q).2⟩, e0.bsz, e0.funs, fun b q => updF_none ha (e0.frf b q), hok, e0.bare⟩
      refine codeAny_mono (F.run A outer s _ args us vs Q E hr e1 hb rv (h ob)) fun r s' hq => ?_
      cases r with
      | error e => exact hq
      | ok fl =>
        cases fl with
        | ret u =>
          obtain ⟨v, H', os, bare, un, hok', rv', q⟩ := hq
          refine ⟨v, H', os, bare, ⟨fun b o z n => un.keep b o z (updF_none ha n), fun b o z n => un.slot b o z (updF_none ha n), fun b o z n => un.free b o z (updF_none ha n), un.there, fun b ys z => un.tups b ys (updF_ne ha z (fun y => by cases y)), fun b o u z => un.frzs b o u (updF_ne ha z (fun y => by cases y)), fun b ps z => un.tbls b ps (updF_ne ha z (fun y => by cases y))⟩, hok', rv', q⟩
        | next => exact hq
        | brk => exact hq
        | cont => exact hq
end Dc

set_option Elab.async false
set_option linter.all false
set_option maxRecDepth 100000
set_option maxHeartbeats 0
namespace Dc
open PySem PySem.Spec PyProof.Rows L2
theorem all_at {α : Type} {l : List α} {p : α → Bool} (h : l.all p = true) (i : Nat) {x : α} (e : l[i]? = some x := by rfl) : p x = true := List.all_eq_true.mp h x (List.mem_of_getElem? e)
theorem map_at {α β : Type} {l : List α} {f g : α → β} (h : l.map f = l.map g) (i : Nat) {x : α} (e : l[i]? = some x := by rfl) : f x = g x := by
  have h1 : (l.map f)[i]? = (l.map g)[i]? := by rw [h]
  rw [List.getElem?_map, List.getElem?_map, e] at h1
  exact Option.some.inj h1
section
variable {w : World} {K : PySem.W.Frag} {h : Heap} {mg : Str → Option Value}
def jK (K : PySem.W.Frag) : KJ := ⟨He.ga K "DrawError", He.ga K "BadChain", He.ga K "BadMany", He.ga K "NoWhole", He.ga K "BadText"⟩
structure FactsY (K : PySem.W.Frag) : Prop where
  hglobs : (globs.all fun x => (He.Fa.glo x).ok K) = true
  hfrees : (frees.all fun x => (He.Fa.free x).ok K) = true
  hcons_ : (cons_.all fun q => (He.Fa.int q.1 q.2).ok K) = true
  hstrs_ : (strs_.all fun q => (He.Fa.str q.1 q.2).ok K) = true
  hclss : (clss.all fun x => (He.Fa.cls x).ok K) = true
  hnas : (nas.all fun q => (He.Fa.noat q.1 q.2).ok K) = true
  hmths : (mths.all fun q => (He.Fa.meth q.1 q.2).ok K) = true
  hmkrs : (clss.all fun x => (He.Fa.mkr x).ok K) = true
  e0 : exc0B K = true
  e3 : exc3B K = true
  nums : numsB K (He.ga K "NUMBERS_OF") = true
  defs : (fns.all fun d => d.ok K) = true
theorem FactsZ.y (c : FactsZ w K) : FactsY K := by
  obtain ⟨x0, d0⟩ := He.ba c.ex
  obtain ⟨c1, x0⟩ := He.ba x0
  obtain ⟨c2, x0⟩ := He.ba x0
  obtain ⟨c3, x0⟩ := He.ba x0
  obtain ⟨c4, x0⟩ := He.ba x0
  obtain ⟨c5, x0⟩ := He.ba x0
  obtain ⟨c6, x0⟩ := He.ba x0
  obtain ⟨c7, x0⟩ := He.ba x0
  obtain ⟨c8, x0⟩ := He.ba x0
  obtain ⟨c9, x0⟩ := He.ba x0
  obtain ⟨c10, x0⟩ := He.ba x0
  exact ⟨c1, c2, c3, c4, c5, c6, c7, c8, c9, c10, x0, d0⟩
theorem FactsZ.glo (c : FactsZ w K) (X : K.In h) (G : h.Ns mainGlobals mg) (i : Nat) {x : Str} (e : globs[i]? = some x := by rfl) : mg x = some (.ref (He.ga K x)) := He.glo_ok X G (all_at (p := fun x => (He.Fa.glo x).ok K) c.y.hglobs i e)
theorem FactsZ.free (c : FactsZ w K) (X : K.In h) (G : h.Ns mainGlobals mg) (i : Nat) {x : Str} (e : frees[i]? = some x := by rfl) : mg x = none := He.free_ok X G (all_at (p := fun x => (He.Fa.free x).ok K) c.y.hfrees i e)
theorem FactsZ.con (c : FactsZ w K) (X : K.In h) (G : h.Ns mainGlobals mg) (i : Nat) {x : Str} {n : Int} (e : cons_[i]? = some (x, n) := by rfl) : ∃ t, mg x = some (.int n t) := He.int_ok X G (all_at (p := fun q => (He.Fa.int q.1 q.2).ok K) c.y.hcons_ i e)
theorem FactsZ.str (c : FactsZ w K) (X : K.In h) (G : h.Ns mainGlobals mg) (i : Nat) {x z : Str} (e : strs_[i]? = some (x, z) := by rfl) : ∃ t, mg x = some (.str z t) := He.str_ok X G (all_at (p := fun q => (He.Fa.str q.1 q.2).ok K) c.y.hstrs_ i e)
theorem FactsZ.cl (c : FactsZ w K) (i : Nat) {x : Str} (e : clss[i]? = some x := by rfl) : Cls K (He.ga K x) := He.cls_ok (all_at (p := fun x => (He.Fa.cls x).ok K) c.y.hclss i e)
theorem FactsZ.nat (c : FactsZ w K) (i : Nat) {x f : Str} (e : Dc.nas[i]? = some (x, f) := by rfl) : NoAttr K (He.ga K x) f := He.noat_ok (all_at (p := fun q => (He.Fa.noat q.1 q.2).ok K) c.y.hnas i e)
theorem FactsZ.mth (c : FactsZ w K) (i : Nat) {x m : Str} (e : Dc.mths[i]? = some (x, m) := by rfl) : Meth K (He.ga K x) m (He.ma K (He.ga K x) m) := He.meth_ok (all_at (p := fun q => (He.Fa.meth q.1 q.2).ok K) c.y.hmths i e)
theorem FactsZ.mkr (c : FactsZ w K) (i : Nat) {x : Str} (e : clss[i]? = some x := by rfl) : Mk K (He.ga K x) (He.ma K (He.ga K x) "__init__") := He.mkr_ok (all_at (p := fun x => (He.Fa.mkr x).ok K) c.y.hmkrs i e)
theorem FactsZ.def_ (c : FactsZ w K) (i : Nat) {d : He.DefD} (e : fns[i]? = some d := by rfl) : ∃ fd, FunD K d.name d.qual d.params d.body d.scope (d.dvs K) (d.kws K) (He.fAd K d.at_) fd := He.DefD.funD (map_at (f := fun d => He.fnW K d.at_) (g := He.DefD.val) c.fnw i e) (all_at (p := fun d => d.ok K) c.y.defs i e)
theorem dicf_of (c : FactsZ w K) (X : K.In h) (G : h.Ns mainGlobals mg) : DicF K w mg := dicF_of (c.glo X G 40) c.dic c.y.nums
theorem dic_of (c : FactsZ w K) (X : K.In h) (G : h.Ns mainGlobals mg) : ∃ a es n, mg "NUMBERS_OF" = some (.ref a) ∧ K.lookup a = some ⟨.type "dict", none, .dict es n, #[]⟩ := by
  obtain ⟨es, n, D⟩ := He.dicW_ok c.dic
  exact ⟨_, es, n, c.glo X G 40, D.at_⟩
theorem txt (c : FactsZ w K) (X : K.In h) (G : h.Ns mainGlobals mg) : Txt K mg :=
  ⟨c.free X G 0, c.free X G 1, c.free X G 2, c.free X G 3, c.free X G 4, c.free X G 5, c.free X G 6, c.free X G 7, c.free X G 8, c.free X G 9, c.free X G 10, c.con X G 0, c.con X G 1, c.con X G 2, c.con X G 3, c.str X G 0, c.con X G 4, dic_of c X G⟩
theorem fn_check_chain (c : FactsZ w K) (X : K.In h) (G : h.Ns mainGlobals mg) : FnM K mg "check_chain" s_check_chain := by
  obtain ⟨fd, F⟩ := c.def_ 0
  exact ⟨_, fd, F, c.glo X G 0⟩
theorem fn_is_chain (c : FactsZ w K) (X : K.In h) (G : h.Ns mainGlobals mg) : FnM K mg "is_chain" s_is_chain := by
  obtain ⟨fd, F⟩ := c.def_ 1
  exact ⟨_, fd, F, c.glo X G 1⟩
theorem fn_is_pair (c : FactsZ w K) (X : K.In h) (G : h.Ns mainGlobals mg) : FnM K mg "is_pair" s_is_pair := by
  obtain ⟨fd, F⟩ := c.def_ 2
  exact ⟨_, fd, F, c.glo X G 2⟩
theorem fn_is_maker (c : FactsZ w K) (X : K.In h) (G : h.Ns mainGlobals mg) : FnM K mg "is_maker" s_is_maker := by
  obtain ⟨fd, F⟩ := c.def_ 3
  exact ⟨_, fd, F, c.glo X G 3⟩
theorem fn_is_row (c : FactsZ w K) (X : K.In h) (G : h.Ns mainGlobals mg) : FnM K mg "is_row" s_is_row := by
  obtain ⟨fd, F⟩ := c.def_ 4
  exact ⟨_, fd, F, c.glo X G 4⟩
theorem fn_is_stage (c : FactsZ w K) (X : K.In h) (G : h.Ns mainGlobals mg) : FnM K mg "is_stage" s_is_stage := by
  obtain ⟨fd, F⟩ := c.def_ 5
  exact ⟨_, fd, F, c.glo X G 5⟩
theorem fn_has_chain (c : FactsZ w K) (X : K.In h) (G : h.Ns mainGlobals mg) : FnM K mg "has_chain" s_has_chain := by
  obtain ⟨fd, F⟩ := c.def_ 6
  exact ⟨_, fd, F, c.glo X G 6⟩
theorem fn_is_within (c : FactsZ w K) (X : K.In h) (G : h.Ns mainGlobals mg) : FnM K mg "is_within" s_is_within := by
  obtain ⟨fd, F⟩ := c.def_ 7
  exact ⟨_, fd, F, c.glo X G 7⟩
theorem fn_is_number (c : FactsZ w K) (X : K.In h) (G : h.Ns mainGlobals mg) : FnM K mg "is_number" s_is_number := by
  obtain ⟨fd, F⟩ := c.def_ 8
  exact ⟨_, fd, F, c.glo X G 8⟩
theorem fn_written (c : FactsZ w K) (X : K.In h) (G : h.Ns mainGlobals mg) : FnM K mg "written" s_written := by
  obtain ⟨fd, F⟩ := c.def_ 9
  exact ⟨_, fd, F, c.glo X G 9⟩
theorem fn_words_of (c : FactsZ w K) (X : K.In h) (G : h.Ns mainGlobals mg) : FnM K mg "words_of" s_words_of := by
  obtain ⟨fd, F⟩ := c.def_ 10
  exact ⟨_, fd, F, c.glo X G 10⟩
theorem fn_words_of_maker (c : FactsZ w K) (X : K.In h) (G : h.Ns mainGlobals mg) : FnM K mg "words_of_maker" s_words_of_maker := by
  obtain ⟨fd, F⟩ := c.def_ 11
  exact ⟨_, fd, F, c.glo X G 11⟩
theorem fn_words_of_numbers (c : FactsZ w K) (X : K.In h) (G : h.Ns mainGlobals mg) : FnM K mg "words_of_numbers" s_words_of_numbers := by
  obtain ⟨fd, F⟩ := c.def_ 12
  exact ⟨_, fd, F, c.glo X G 12⟩
theorem fn_read_chain (c : FactsZ w K) (X : K.In h) (G : h.Ns mainGlobals mg) : FnM K mg "read_chain" s_read_chain := by
  obtain ⟨fd, F⟩ := c.def_ 13
  exact ⟨_, fd, F, c.glo X G 13⟩
theorem fn_chain_of (c : FactsZ w K) (X : K.In h) (G : h.Ns mainGlobals mg) : FnM K mg "chain_of" s_chain_of := by
  obtain ⟨fd, F⟩ := c.def_ 14
  exact ⟨_, fd, F, c.glo X G 14⟩
theorem fn_is_number_word (c : FactsZ w K) (X : K.In h) (G : h.Ns mainGlobals mg) : FnM K mg "is_number_word" s_is_number_word := by
  obtain ⟨fd, F⟩ := c.def_ 15
  exact ⟨_, fd, F, c.glo X G 15⟩
theorem fn__law_start (c : FactsZ w K) (X : K.In h) (G : h.Ns mainGlobals mg) : FnM K mg "_law_start" s__law_start := by
  obtain ⟨fd, F⟩ := c.def_ 16
  exact ⟨_, fd, F, c.glo X G 16⟩
theorem fn__law_drawn (c : FactsZ w K) (X : K.In h) (G : h.Ns mainGlobals mg) : FnM K mg "_law_drawn" s__law_drawn := by
  obtain ⟨fd, F⟩ := c.def_ 17
  exact ⟨_, fd, F, c.glo X G 17⟩
theorem fn__law_same (c : FactsZ w K) (X : K.In h) (G : h.Ns mainGlobals mg) : FnM K mg "_law_same" s__law_same := by
  obtain ⟨fd, F⟩ := c.def_ 18
  exact ⟨_, fd, F, c.glo X G 18⟩
theorem fn__law_kind (c : FactsZ w K) (X : K.In h) (G : h.Ns mainGlobals mg) : FnM K mg "_law_kind" s__law_kind := by
  obtain ⟨fd, F⟩ := c.def_ 19
  exact ⟨_, fd, F, c.glo X G 19⟩
theorem fn__law_number (c : FactsZ w K) (X : K.In h) (G : h.Ns mainGlobals mg) : FnM K mg "_law_number" s__law_number := by
  obtain ⟨fd, F⟩ := c.def_ 20
  exact ⟨_, fd, F, c.glo X G 20⟩
theorem fn__law_maker (c : FactsZ w K) (X : K.In h) (G : h.Ns mainGlobals mg) : FnM K mg "_law_maker" s__law_maker := by
  obtain ⟨fd, F⟩ := c.def_ 21
  exact ⟨_, fd, F, c.glo X G 21⟩
theorem fn__law_stage (c : FactsZ w K) (X : K.In h) (G : h.Ns mainGlobals mg) : FnM K mg "_law_stage" s__law_stage := by
  obtain ⟨fd, F⟩ := c.def_ 22
  exact ⟨_, fd, F, c.glo X G 22⟩
theorem fn__law_chain (c : FactsZ w K) (X : K.In h) (G : h.Ns mainGlobals mg) : FnM K mg "_law_chain" s__law_chain := by
  obtain ⟨fd, F⟩ := c.def_ 23
  exact ⟨_, fd, F, c.glo X G 23⟩
theorem fn__law_any (c : FactsZ w K) (X : K.In h) (G : h.Ns mainGlobals mg) : FnM K mg "_law_any" s__law_any := by
  obtain ⟨fd, F⟩ := c.def_ 24
  exact ⟨_, fd, F, c.glo X G 24⟩
theorem fn__law_makers (c : FactsZ w K) (X : K.In h) (G : h.Ns mainGlobals mg) : FnM K mg "_law_makers" s__law_makers := by
  obtain ⟨fd, F⟩ := c.def_ 25
  exact ⟨_, fd, F, c.glo X G 25⟩
theorem fn__law_words (c : FactsZ w K) (X : K.In h) (G : h.Ns mainGlobals mg) : FnM K mg "_law_words" s__law_words := by
  obtain ⟨fd, F⟩ := c.def_ 26
  exact ⟨_, fd, F, c.glo X G 26⟩
theorem fn__law_place (c : FactsZ w K) (X : K.In h) (G : h.Ns mainGlobals mg) : FnM K mg "_law_place" s__law_place := by
  obtain ⟨fd, F⟩ := c.def_ 27
  exact ⟨_, fd, F, c.glo X G 27⟩
theorem fn__law_parsed (c : FactsZ w K) (X : K.In h) (G : h.Ns mainGlobals mg) : FnM K mg "_law_parsed" s__law_parsed := by
  obtain ⟨fd, F⟩ := c.def_ 28
  exact ⟨_, fd, F, c.glo X G 28⟩
theorem fn__law_stages (c : FactsZ w K) (X : K.In h) (G : h.Ns mainGlobals mg) : FnM K mg "_law_stages" s__law_stages := by
  obtain ⟨fd, F⟩ := c.def_ 29
  exact ⟨_, fd, F, c.glo X G 29⟩
theorem fn__law_is_good (c : FactsZ w K) (X : K.In h) (G : h.Ns mainGlobals mg) : FnM K mg "_law_is_good" s__law_is_good := by
  obtain ⟨fd, F⟩ := c.def_ 30
  exact ⟨_, fd, F, c.glo X G 30⟩
theorem fn__law_changed (c : FactsZ w K) (X : K.In h) (G : h.Ns mainGlobals mg) : FnM K mg "_law_changed" s__law_changed := by
  obtain ⟨fd, F⟩ := c.def_ 31
  exact ⟨_, fd, F, c.glo X G 31⟩
theorem fn_law (c : FactsZ w K) (X : K.In h) (G : h.Ns mainGlobals mg) : FnM K mg "law" s_law := by
  obtain ⟨fd, F⟩ := c.def_ 32
  exact ⟨_, fd, F, c.glo X G 32⟩
theorem exc0_of (c : FactsZ w K) (X : K.In h) (G : h.Ns mainGlobals mg) : NwF9 K mg "BadChain" (jK K).bc ∧ KOne K (jK K) (jK K).bc 0 := by
  have z := c.y.e0
  unfold exc0B at z
  obtain ⟨q1, z⟩ := He.ba z
  obtain ⟨q2, z⟩ := He.ba z
  obtain ⟨q3, z⟩ := He.ba z
  obtain ⟨q4, z⟩ := He.ba z
  obtain ⟨q5, z⟩ := He.ba z
  obtain ⟨q6, z⟩ := He.ba z
  obtain ⟨q7, z⟩ := He.ba z
  obtain ⟨q8, z⟩ := He.ba z
  obtain ⟨q9, z⟩ := He.ba z
  obtain ⟨q10, z⟩ := He.ba z
  obtain ⟨q11, z⟩ := He.ba z
  obtain ⟨q12, z⟩ := He.ba z
  obtain ⟨q13, z⟩ := He.ba z
  obtain ⟨q14, z⟩ := He.ba z
  obtain ⟨q15, z⟩ := He.ba z
  obtain ⟨q16, z⟩ := He.ba z
  exact ⟨⟨q15, c.glo X G 34, q16, of_decide_eq_true q3, of_decide_eq_true z⟩, ⟨⟨He.eqO_ok q1, He.eqO_ok q2, of_decide_eq_true q3, q4, He.eqO_ok q5, He.eqO_ok q6, of_decide_eq_true q7, of_decide_eq_true q8⟩, of_decide_eq_true q9, of_decide_eq_true q10, of_decide_eq_true q11, of_decide_eq_true q12, of_decide_eq_true q13, of_decide_eq_true q14, .inl rfl⟩⟩
theorem exc3_of (c : FactsZ w K) (X : K.In h) (G : h.Ns mainGlobals mg) : KOne K (jK K) (jK K).bt 3 ∧ XfC K (jK K).bt ∧ BtF K mg (jK K).bt (He.fAd K ("BadText", some "__init__")) ∧ PySem.W.mroIn K (jK K).bt (.ref (jK K).bt) = some true ∧ PySem.W.ks_superIn K (jK K).bt (jK K).bt "__init__" = some (some (.builtin "ValueError.__init__")) ∧
    PySem.W.subIn K (.ref (jK K).bt) (.type "ValueError") = some true ∧ PySem.W.nsIn K cStatics "thirdparty.any" = some none ∧ supXB K = true := by
  have z := c.y.e3
  unfold exc3B at z
  obtain ⟨q1, z⟩ := He.ba z
  obtain ⟨q2, z⟩ := He.ba z
  obtain ⟨q3, z⟩ := He.ba z
  obtain ⟨q4, z⟩ := He.ba z
  obtain ⟨q5, z⟩ := He.ba z
  obtain ⟨q6, z⟩ := He.ba z
  obtain ⟨q7, z⟩ := He.ba z
  obtain ⟨q8, z⟩ := He.ba z
  obtain ⟨q9, z⟩ := He.ba z
  obtain ⟨q10, z⟩ := He.ba z
  obtain ⟨q11, z⟩ := He.ba z
  obtain ⟨q12, z⟩ := He.ba z
  obtain ⟨q13, z⟩ := He.ba z
  obtain ⟨q14, z⟩ := He.ba z
  obtain ⟨q15, z⟩ := He.ba z
  obtain ⟨q16, z⟩ := He.ba z
  obtain ⟨q17, z⟩ := He.ba z
  obtain ⟨q18, z⟩ := He.ba z
  obtain ⟨q19, z⟩ := He.ba z
  obtain ⟨q20, z⟩ := He.ba z
  obtain ⟨q21, z⟩ := He.ba z
  obtain ⟨q22, z⟩ := He.ba z
  obtain ⟨q23, z⟩ := He.ba z
  obtain ⟨q24, z⟩ := He.ba z
  obtain ⟨q25, z⟩ := He.ba z
  exact ⟨⟨⟨He.eqO_ok q1, He.eqO_ok q2, of_decide_eq_true q3, q4, He.eqO_ok q5, He.eqO_ok q6, of_decide_eq_true q7, of_decide_eq_true q8⟩, of_decide_eq_true q9, of_decide_eq_true q10, of_decide_eq_true q11, of_decide_eq_true q12, of_decide_eq_true q13, of_decide_eq_true q14, .inr rfl⟩, ⟨He.eqO_ok q1, He.eqO_ok q2, of_decide_eq_true q3, q4⟩, ⟨⟨oexB_ok q15, He.eqO_ok q18, of_decide_eq_true q3, of_decide_eq_true q17, q16⟩, He.eqO_ok q20, of_decide_eq_true q21, c.glo X G 37, He.eqO_ok q19⟩, of_decide_eq_true q22, He.eqO_ok q23, of_decide_eq_true q24, He.eqO_ok q25, z⟩
theorem sup_txt (c : FactsZ w K) (X : K.In h) (G : h.Ns mainGlobals mg) {x qual : Str} {params : Arguments} {body : List Stmt} {scope : Scope} (b1 : (match K.lookup (He.fAd K (x, some "__init__")) with
      | some ⟨_, _, .func fd, _⟩ => isNon fd.defaults && (cellB K (He.ga K x) fd.closure && codeB K qual fd.code)
      | _ => false) = true) (e : supW K (x, some "__init__") = some (("__init__" : Str), qual, params, FuncBody.stmts body, scope, mainGlobals, [], builtinsNs)) (hm : PySem.W.mroIn K (He.ga K x) (.ref (He.ga K x)) = some true)
    (hsup : PySem.W.ks_superIn K (He.ga K x) (He.ga K x) "__init__" = some (some (.builtin "ValueError.__init__"))) (hV : PySem.W.subIn K (.ref (He.ga K x)) (.type "ValueError") = some true) (ho : OexC K (He.ga K x)) (h3 : PySem.W.nsIn K cStatics "thirdparty.any" = some none) :
    ∃ fd, SupTxtX theP K mg "__init__" qual params body scope (He.ga K x) (He.fAd K (x, some "__init__")) fd := by
  unfold supW at e
  cases q : K.lookup (He.fAd K (x, some "__init__")) with
  | none => rw [q] at e; cases e
  | some o =>
    obtain ⟨oc, od, dt, osl⟩ := o
    rw [q] at e
    have b1' : (match K.lookup (He.fAd K (x, some "__init__")) with
      | some ⟨_, _, .func fd, _⟩ => isNon fd.defaults && (cellB K (He.ga K x) fd.closure && codeB K qual fd.code)
      | _ => false) = true := b1
    rw [q] at b1'
    cases dt with
    | func fd =>
      obtain ⟨n1, n2, n3, n4, n5, n6, n7, n8, n9, n10, n11, n12, n13, n14, n15⟩ := fd
      have e2 : (some (n1, n2, n3, n4, n5, n6, ([] : List (Str × Addr)), n15) : He.FnW) = some (("__init__" : Str), qual, params, FuncBody.stmts body, scope, mainGlobals, [], builtinsNs) := e
      simp only [Option.some.injEq, Prod.mk.injEq] at e2
      obtain ⟨h1, h2, h3, h4, h5, h6, _, h8⟩ := e2
      subst h1 h2 h3 h4 h5 h6 h8
      have b4 : (isNon n8 && (cellB K (He.ga K x) n7 && codeB K n2 n13)) = true := b1'
      obtain ⟨k1, k2⟩ := He.ba b4
      obtain ⟨k2, k3⟩ := He.ba k2
      have hn8 : n8 = .none := by cases n8 <;> first | rfl | cases k1
      subst hn8
      obtain ⟨cc, cl', cld, csl, rfl, hcc⟩ : ∃ cc cl' cld csl, n7 = [(("__class__" : Str), cc)] ∧ K.lookup cc = some ⟨cl', cld, .cell (some (.ref (He.ga K x))), csl⟩ := by
        cases n7 with
        | nil => cases k2
        | cons p r =>
          cases r with
          | cons _ _ => cases k2
          | nil =>
            obtain ⟨y, cc⟩ := p
            have k4 : (decide (y = ("__class__" : Str)) && (match K.lookup cc with
              | some ⟨_, _, .cell (some (.ref d)), _⟩ => decide (d = He.ga K x)
              | _ => false)) = true := k2
            obtain ⟨k5, k6⟩ := He.ba k4
            have ey : y = ("__class__" : Str) := of_decide_eq_true k5
            subst ey
            cases z : K.lookup cc with
            | none => rw [z] at k6; cases k6
            | some o =>
              obtain ⟨c1, c2, c3, c4⟩ := o
              rw [z] at k6
              cases c3 with
              | cell v =>
                cases v with
                | none => cases k6
                | some v =>
                  cases v with
                  | ref d =>
                    have ed : d = He.ga K x := of_decide_eq_true k6
                    subst ed
                    exact ⟨cc, c1, c2, c4, rfl, z⟩
                  | _ => cases k6
              | _ => cases k6
      obtain ⟨cda, ccl, cdd, ws, ccs, file, tf, rfl, hcd, hk, hws, hfile⟩ : ∃ cda ccl cdd ws ccs file tf, n13 = .ref cda ∧ PySem.W.codeIn K (.ref cda) n2 = true ∧ K.lookup cda = some ⟨ccl, cdd, .fields ws, ccs⟩ ∧ (ws[2]? : Option Value) = some (.str file tf) ∧ ((theP.main.file : Str) == file) = true := by
        unfold codeB at k3
        cases n13 with
        | ref cda =>
          obtain ⟨k4, k5⟩ := He.ba k3
          cases z : K.lookup cda with
          | none => rw [z] at k5; cases k5
          | some o =>
            obtain ⟨c1, c2, c3, c4⟩ := o
            rw [z] at k5
            cases c3 with
            | fields ws =>
              have k6 : (match (ws[2]? : Option Value) with
                | some (.str file _) => ((theP.main.file : Str) == file)
                | _ => false) = true := k5
              cases y : (ws[2]? : Option Value) with
              | none => rw [y] at k6; cases k6
              | some v =>
                rw [y] at k6
                cases v with
                | str file tf => exact ⟨cda, c1, c2, ws, c4, file, tf, rfl, k4, z, y, k6⟩
                | _ => cases k6
            | _ => cases k5
        | _ => cases k3
      obtain ⟨cdD, hD, _⟩ := Option.bind_eq_some_iff.mp (show (PySem.W.clsIn K (He.ga K x)).bind _ = some true from hm)
      exact ⟨_, ⟨oc, od, n9, n10, n11, n12, cda, cc, n14, osl, ccl, cdd, ws, ccs, file, tf, cl', cld, csl, cdD, rfl, q, hcd, hk, hws, hfile, hcc, hD⟩, hm, hsup, hV, ho, h3, c.free X G 10, by decide +kernel⟩
    | _ => cases b1'
theorem text_of (c : FactsZ w K) (X : K.In h) (G : h.Ns mainGlobals mg) : TextK theP K mg (jK K).bt := by
  obtain ⟨_, _, B, r1, r2, r3, r4, r5⟩ := exc3_of c X G
  obtain ⟨fd, S⟩ := sup_txt c X G (x := "BadText") (qual := "BadText.__init__") r5 (map_at (f := fun d => supW K d.at_) (g := He.DefD.val) c.supw 0 rfl) r1 r2 r3 B.oex r4
  exact ⟨_, fd, B, S⟩
theorem krd_of (c : FactsZ w K) (X : K.In h) (G : h.Ns mainGlobals mg) : KRd K (jK K) := ⟨(exc0_of c X G).2, (exc3_of c X G).1, (exc3_of c X G).2.1, (exc3_of c X G).2.2.1.no⟩
theorem kb_of (c : FactsZ w K) (X : K.In h) (G : h.Ns mainGlobals mg) : KB mg (jK K) := ⟨c.glo X G 33, c.glo X G 34, c.glo X G 35, c.glo X G 36, c.glo X G 37, c.free X G 11⟩
theorem prog_of (c : FactsZ w K) (X : K.In h) (G : h.Ns mainGlobals mg) : ProgK K mg := ⟨fn_check_chain c X G, fn_is_chain c X G, fn_is_pair c X G, fn_is_maker c X G, fn_is_row c X G, fn_is_stage c X G, fn_has_chain c X G, fn_is_within c X G, fn_is_number c X G, fn_written c X G, fn_words_of c X G, fn_words_of_maker c X G, fn_words_of_numbers c X G, fn_read_chain c X G, fn_chain_of c X G, fn_is_number_word c X G⟩
theorem start_of (c : FactsZ w K) (X : K.In h) (G : h.Ns mainGlobals mg) : StartL K mg := ⟨fn__law_start c X G, fn__law_drawn c X G⟩
theorem chains_of (c : FactsZ w K) (X : K.In h) (G : h.Ns mainGlobals mg) : ChainsL K mg := ⟨fn__law_number c X G, fn__law_maker c X G, fn__law_stage c X G, fn__law_chain c X G, fn__law_any c X G⟩
theorem lawk_of (c : FactsZ w K) (X : K.In h) (G : h.Ns mainGlobals mg) : LawK K mg := ⟨fn__law_words c X G, fn__law_place c X G, fn__law_parsed c X G, fn__law_stages c X G, fn__law_makers c X G, fn__law_is_good c X G, fn__law_changed c X G, fn__law_same c X G, fn__law_kind c X G⟩
theorem ini_Words (c : FactsZ w K) (X : K.In h) (G : h.Ns mainGlobals mg) : IniK K mg "Words" (He.ga K "Words") "Words.__init__" s_Words___init__ := by
  obtain ⟨fd, F⟩ := c.def_ 33
  exact ⟨_, fd, F, c.mkr 0, c.glo X G 38⟩
theorem ini_Begun (c : FactsZ w K) (X : K.In h) (G : h.Ns mainGlobals mg) : IniK K mg "Begun" (He.ga K "Begun") "Begun.__init__" s_Begun___init__ := by
  obtain ⟨fd, F⟩ := c.def_ 34
  exact ⟨_, fd, F, c.mkr 1, c.glo X G 39⟩
theorem mt_Words_take (c : FactsZ w K) : MTk K (He.ga K "Words") "take" "Words.take" s_Words_take := by
  obtain ⟨fd, F⟩ := c.def_ 35
  exact ⟨_, fd, F, c.mth 0⟩
theorem mt_Words_take_maker (c : FactsZ w K) : MTk K (He.ga K "Words") "take_maker" "Words.take_maker" s_Words_take_maker := by
  obtain ⟨fd, F⟩ := c.def_ 36
  exact ⟨_, fd, F, c.mth 1⟩
theorem mt_Words_take_row (c : FactsZ w K) : MTk K (He.ga K "Words") "take_row" "Words.take_row" s_Words_take_row := by
  obtain ⟨fd, F⟩ := c.def_ 37
  exact ⟨_, fd, F, c.mth 2⟩
theorem mt_Words_take_numbers (c : FactsZ w K) : MTk K (He.ga K "Words") "take_numbers" "Words.take_numbers" s_Words_take_numbers := by
  obtain ⟨fd, F⟩ := c.def_ 38
  exact ⟨_, fd, F, c.mth 3⟩
theorem mt_Words_number_of (c : FactsZ w K) : MTk K (He.ga K "Words") "number_of" "Words.number_of" s_Words_number_of := by
  obtain ⟨fd, F⟩ := c.def_ 39
  exact ⟨_, fd, F, c.mth 4⟩
theorem mt_Words_check_end (c : FactsZ w K) : MTk K (He.ga K "Words") "check_end" "Words.check_end" s_Words_check_end := by
  obtain ⟨fd, F⟩ := c.def_ 40
  exact ⟨_, fd, F, c.mth 5⟩
theorem mt_Begun_chain (c : FactsZ w K) : MTk K (He.ga K "Begun") "chain" "Begun.chain" s_Begun_chain := by
  obtain ⟨fd, F⟩ := c.def_ 41
  exact ⟨_, fd, F, c.mth 6⟩
theorem words_k (c : FactsZ w K) (X : K.In h) (G : h.Ns mainGlobals mg) : WordsK K mg (He.ga K "Words") := ⟨⟨c.cl 0, c.nat 0, c.nat 1⟩, ini_Words c X G, mt_Words_take c, mt_Words_take_maker c, mt_Words_take_row c, mt_Words_take_numbers c, mt_Words_number_of c, mt_Words_check_end c⟩
theorem begun_k (c : FactsZ w K) (X : K.In h) (G : h.Ns mainGlobals mg) : BegunK K mg (He.ga K "Begun") := ⟨⟨c.cl 1, c.nat 2, c.nat 3, c.nat 4⟩, ini_Begun c X G, mt_Begun_chain c⟩
theorem law_at {f : Addr} (X : K.In h) (G : h.Ns mainGlobals mg) (hfa : mg ("law" : Str) = some (.ref f)) (c : FactsZ w K) (t : TabF K h) : LamX.LawAtS PySem.Challenge.rw_drawchain_k09_written_and_read w K CX0 210 63 "_law_script" mg f h := by
  obtain ⟨fd, F⟩ := c.def_ 32
  have e := hfa.symm.trans (c.glo X G 32)
  cases e
  have bb := FunD.bindsA (ps := ["_law_script"]) F fun _ _ _ _ _ _ us hl => match us, hl with | [_], _ => rfl
  have hcode : fd.code = .ref (He.cT K ("law", none)).1 := by
    obtain ⟨oc, od, dV, kV, doc, pm, an, cdv, ct, osl, rfl, lk, hcd, _, _⟩ := F.ex
    obtain ⟨cc, rfl⟩ := He.codeIn_ref hcd
    show Value.ref cc = .ref (He.codeOf K ("law", none))
    rw [He.codeOf_eq lk rfl]
  refine ⟨fd, [He.cT K ("law", none)], fun vs H Q E => ∃ ns : List Int, ns.length ≤ 63 ∧ spFz (spLawT K (He.cT K ("law", none)).2 ns) vs H Q E, fun p hp => ?_, fun p hp => ?_, fun p hp => ?_, fun s v => bb s [v] rfl, fun H a ns hl _ hH hS => ⟨ns, hl, ?_⟩, fun base _ _ tb => ?_⟩
  · rw [List.mem_singleton.mp hp]; exact t.empty
  · rw [List.mem_singleton.mp hp]; exact t.out
  · rw [List.mem_singleton.mp hp]; exact PySem.W.codeHd_of_K X t.hd
  · have hP := hH _ List.mem_cons_self
    rcases hS with (hS | ⟨ob, hS⟩) | hS
    · exact .inr ⟨a, _, hS, fun o => ⟨a, rfl, .inl ⟨o, upd_same⟩, updF_ne hS hP (fun z => by cases z), fun _ => rfl⟩⟩
    · exact .inl ⟨a, rfl, .inl ⟨ob, hS⟩, hP, fun _ => rfl⟩
    · exact .inl ⟨a, rfl, .inr fun H' => .inr hS, hP, fun _ => rfl⟩
  · have TB := tb _ List.mem_cons_self
    have FF : ∀ ns : List Int, ns.length ≤ 63 → FnOk theP w K mg base CX0 210 (He.ga K "law") fd ["_law_script"] (spFz (spLawT K (He.cT K ("law", none)).2 ns)) := fun ns hl => fnFrz (law_fn (txt c X G) (prog_of c X G) (exc0_of c X G).1 (text_of c X G) (words_k c X G) (begun_k c X G) (dicf_of c X G) (start_of c X G) (chains_of c X G) (lawk_of c X G) (kb_of c X G) (krd_of c X G) F hcode TB hl)
    exact ⟨fun vs H Q E ⟨ns, hl, q⟩ => (FF ns hl).len vs H Q E q, fun A outer s H args us vs Q E hr e0 hb rv ⟨ns, hl, q⟩ => (FF ns hl).run A outer s H args us vs Q E hr e0 hb rv q⟩
end
end Dc

set_option Elab.async false
set_option linter.all false
set_option maxRecDepth 100000
set_option maxHeartbeats 0
open PySem PySem.W PySem.Calls PyProof.Rows
theorem PySem.Challenge.cw_drawchain_k09_written_and_read_holds : PySem.Challenge.rw_drawchain_k09_written_and_read.Holds := by
  w_on; o_law
  refine HandSHeadRun.head_any (r := OpenLaw.row PySem.Challenge.rw_drawchain_k09_written_and_read) (q := view (OpenLaw.row PySem.Challenge.rw_drawchain_k09_written_and_read).prog [50]) (H := Dc.hkZ) (ob := Dc.obZ) (M := 100000) (loose := Dc.looses) (d := HandSHeadRun.topDef (OpenLaw.row PySem.Challenge.rw_drawchain_k09_written_and_read).prog 50) (kwd := []) Dc.obZ_eq
    (by kernel_rfl) (fun s => by kernel_rfl) Dc.run (by kernel_rfl) (by kernel_rfl) (by kernel_rfl) (by rfl) (by first | assumption | decide +kernel) (by decide +kernel) ⟨rfl, rfl, rfl, rfl, rfl, by decide +kernel⟩ ?hw ?hc
  case hw => w_witness2
  case hc =>
    refine LamX.walk_ofTsE (l := PySem.Challenge.rw_drawchain_k09_written_and_read) (n := 63) (k := 210) (x := "_law_script") (CX := fun _ => L2.CX0) rfl (by decide) (by kernel_rfl) ⟨rfl, by decide, by decide⟩ ?F (fun _ _ _ _ _ z => z)
    intro w mg fa h Y G hmg0
    obtain ⟨K, KX, c, t⟩ := Y
    have hmg : mg ("law" : PySem.Str) = some (.ref fa) := by
      have e : (HandSHeadRun.topDef (OpenLaw.row PySem.Challenge.rw_drawchain_k09_written_and_read).prog 50).name = ("law" : PySem.Str) := by kernel_rfl
      rw [← e]
      exact hmg0
    exact ⟨K, KX, Dc.law_at KX G hmg c t⟩
